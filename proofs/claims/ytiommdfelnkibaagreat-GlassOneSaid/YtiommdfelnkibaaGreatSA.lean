/- The abstract machine, part SA. -/
import Derived.Test.YtiommdfelnkibaaGreatLN
import Derived.Test.YtiommdfelnkibaaGreatZA
import Derived.Test.YtiommdfelnkibaaGreatRG
/- Walks: IndexFunc and DeleteFunc of a row of settings, by the test that Agree makes. -/
namespace Go.Proofs.YtiommdfelnkibaaGreat
open Go Go.RowKit Go.Proofs Go.Abs

set_option maxRecDepth 100000 in
set_option maxHeartbeats 4000000 in
theorem indexOf53_any (l0 l1 : Value) (q : Nat × Bool → Bool) (g cap : Nat) (D : List (Nat × Bool)) (hl : D.length ≤ 1000) (w : World) (hr : RowS w g D) (ht : Tests 53 #[l0, l1] q g w D) :
    Calls Tryz.prog 106 #[.slice (some ⟨g, 0, none⟩) D.length cap, .func (.func 53) #[] #[l0, l1]] w fun e w' =>
      ((e = .returned (.int .i64 (-1)) ∧ D.filter q = D) ∨ (∃ k p, e = .returned (.int .i64 (k : Nat)) ∧ D[k]? = some p ∧ q p = false ∧ (D.take k).filter q = D.take k)) ∧ Below w.heap.size w w' := by
  have HT := Lib.hid ht
  have HR := Lib.hid hr
  obtain ⟨n, hn⟩ : ∃ n, D.length = n := ⟨_, rfl⟩
  have HN := Lib.hid hn
  rw [hn] at hl ⊢
  clear hn ht hr
  go_enter Tryz.func106, Tryz.ntmps106
  go_wp2_with fail
  go_loopw [8] (fun i wr => ∃ k : Nat, k ≤ n ∧ i = .int .i64 k ∧ Below w.heap.size w wr ∧ Hid (∀ j p, j < k → D[j]? = some p → q p = true)) (fun i _ => n - (intOf i).toNat)
  case atStart => exact ⟨0, Nat.zero_le _, rfl, Below.refl _ _, Lib.hid (fun j p h => by omega)⟩
  case round =>
    obtain ⟨k, hk, rfl, hbel, HK⟩ := hrel
    by_cases hlt : k < n
    · have j1 : (k : Int) < (n : Int) := by omega
      obtain ⟨p, hp⟩ : ∃ p, D[k]? = some p := (⟨_, List.getElem?_eq_getElem (by rw [HN.out]; exact hlt)⟩ : ∃ p, D[k]? = some p)
      have hm : p ∈ D := List.mem_of_getElem? hp
      obtain ⟨a0, a1⟩ := (HR.out.keep hbel).cell hp
      have C := HT.out wr p (grown_but hbel _) hm
      have HP := Lib.hid hp
      clear hp hm
      obtain ⟨s, b⟩ := p
      simp only [List.append_toArray, List.cons_append, List.nil_append] at C a0 a1
      cases hq : q (s, b)
      · rw [hq] at C
        have HQ := Lib.hid hq
        clear hq
        go_wp2_with (first | (go_at_call 53; with_reducible refine C.mono ?_; rintro e w2 ⟨rfl, hb⟩))
        go_ret
        refine ⟨.inr ⟨k, (s, b), rfl, HP.out, HQ.out, kept_all HK.out⟩, keep_below hbel hb⟩
      · rw [hq] at C
        have HQ := Lib.hid hq
        clear hq
        go_wp2_with (first | (go_at_call 53; with_reducible refine C.mono ?_; rintro e w2 ⟨rfl, hb⟩))
        refine ⟨⟨k + 1, by omega, by simp, keep_below hbel hb, Lib.hid (fun j p h hj => ?_)⟩, by simp [intOf]; omega⟩
        by_cases e : j = k
        · subst e
          rw [HP.out] at hj
          cases hj
          exact HQ.out
        · exact HK.out j p (by omega) hj
    · obtain rfl : k = n := by omega
      go_wp2
      go_ret
      refine ⟨.inl ⟨rfl, ?_⟩, hbel⟩
      have := kept_all HK.out
      rwa [List.take_of_length_le (by rw [HN.out]; omega)] at this

set_option maxRecDepth 100000 in
set_option maxHeartbeats 8000000 in
theorem delete53_any (l0 l1 : Value) (q : Nat × Bool → Bool) (g cap : Nat) (D : List (Nat × Bool)) (hl : D.length ≤ 1000) (hc : D.length ≤ cap) (w : World) (hr : RowS w g D) (ht : Tests 53 #[l0, l1] q g w D) :
    Calls Tryz.prog 55 #[.slice (some ⟨g, 0, none⟩) D.length cap, .func (.func 53) #[] #[l0, l1]] w fun e w' =>
      e = .returned (.slice (some ⟨g, 0, none⟩) (D.filter q).length cap) ∧ RowS w' g (D.filter q) ∧ w.grownBy w' (some g) := by
  have CI := indexOf53_any l0 l1 q g cap D hl w hr ht
  have HT := Lib.hid ht
  have HR := Lib.hid hr
  have HN := Lib.hid (Eq.refl D.length)
  obtain ⟨n, hn⟩ : ∃ n, D.length = n := ⟨_, rfl⟩
  replace HN := Lib.hid hn
  rw [hn] at hl hc CI ⊢
  have hglt := hr.lt
  clear hn ht hr
  go_enter Tryz.func55, Tryz.ntmps55
  go_wp2_with fail
  refine CI.mono ?_
  rintro e w1 ⟨h | h, hb1⟩
  · obtain ⟨rfl, hf⟩ := h
    go_wp2
    go_ret
    rw [hf, HN.out]
    exact ⟨rfl, HR.out.keep hb1, grown_but hb1 _⟩
  · obtain ⟨k0, p0, rfl, hp0, hq0, hk0⟩ := h
    have hk0n : k0 < n := by rw [← HN.out]; exact (List.getElem?_eq_some_iff.1 hp0).1
    have e1 : (D.take (k0 + 1)).filter q = D.take k0 := by rw [kept_succ hp0, hq0, hk0]; simp
    have l1' : ((D.take (k0 + 1)).filter q).length = k0 := by rw [e1, List.length_take, HN.out]; omega
    have r1 : RowS w1 g (delState q D (k0 + 1)) := by
      have : delState q D (k0 + 1) = D := by unfold delState; rw [l1', e1, List.take_append_drop]
      rw [this]
      exact HR.out.keep hb1
    have HL := Lib.hid l1'
    have n0 : ((k0 : Int) == -1) = false := by
      rw [beq_eq_false_iff_ne]; omega
    have gb1 := grown_but hb1 (some g)
    have U0 : IntKind.i64.wrap ((k0 : Int) + 1) = (k0 : Int) + 1 := wi64 _ (by omega)
    clear hp0 hq0 hk0 e1 l1' hb1
    go_wp2_with fail
    go_loopw [5, 6] (fun i j wr => ∃ a k : Nat, k ≤ n ∧ a < k ∧ i = .int .i64 a ∧ j = .int .i64 k ∧ Hid (((D.take k).filter q).length = a) ∧ RowS wr g (delState q D k) ∧ w.grownBy wr (some g)) (fun _ j _ => n - (intOf j).toNat)
    case atStart => exact ⟨k0, k0 + 1, by omega, by omega, rfl, by simp, HL, r1, gb1⟩
    case round =>
      clear r1 gb1 HL U0
      obtain ⟨a, k, hk, hak, rfl, rfl, HA, hrow, hgr⟩ := hrel
      by_cases hlt : k < n
      · have j1 : (k : Int) < (n : Int) := by omega
        have j2 : (a : Int) < (n : Int) := by omega
        obtain ⟨p, hp⟩ : ∃ p, D[k]? = some p := ⟨_, List.getElem?_eq_getElem (by rw [HN.out]; exact hlt)⟩
        have hm : p ∈ D := List.mem_of_getElem? hp
        have hp' : (delState q D k)[k]? = some p := by rw [delState_get q D k k (kept_le q D k)]; exact hp
        obtain ⟨a0, a1⟩ := hrow.cell hp'
        have hal : a < (delState q D k).length := by rw [delState_len, HN.out]; omega
        have C := fun W (hb : Below wr.heap.size wr W) => HT.out W p (hgr.trans (grown_but hb _)) hm
        have HROW := Lib.hid hrow
        have HP := Lib.hid hp
        have sz := hgr.size
        clear hp hm hp' hrow
        obtain ⟨s, b⟩ := p
        simp only [List.append_toArray, List.cons_append, List.nil_append] at C a0 a1
        have B1 : Below wr.heap.size wr (wr.alloc (stObj s b)) := (Below.refl _ _).alloc (Nat.le_refl _) _
        have U1 : IntKind.i64.wrap ((k : Int) + 1) = (k : Int) + 1 := wi64 _ (by omega)
        have U2 : IntKind.i64.wrap ((a : Int) + 1) = (a : Int) + 1 := wi64 _ (by omega)
        have nb := st_new wr s b
        cases hq : q (s, b)
        · have HQ := Lib.hid hq
          rw [hq] at C
          clear hq
          go_wp2_with (first | (go_at_call 53; with_reducible refine (C _ B1).mono ?_; rintro e w2 ⟨rfl, hb⟩))
          have hb2 := keep_below B1 hb
          go_roundw
          case rel =>
            refine ⟨a, k + 1, by omega, by omega, rfl, by simp, Lib.hid ?_, ?_, hgr.trans (grown_but hb2 _)⟩
            · rw [kept_succ HP.out, HQ.out]; simpa using HA.out
            · rw [← delState_no HP.out HQ.out]
              exact HROW.out.keep hb2
          case measure => simp [intOf]; omega
        · have HQ := Lib.hid hq
          rw [hq] at C
          clear hq
          go_wp2_with (first
            | (go_at_call 53; with_reducible refine (C _ B1).mono ?_; rintro e w2 ⟨rfl, hb⟩
               have hb2 := keep_below B1 hb
               have row2 := HROW.out.keep hb2
               have m0 := keep_cell hb nb.1
               have m1 := keep_cell hb nb.2
               obtain ⟨⟨t, c⟩, ht⟩ : ∃ p, (delState q D k)[a]? = some p := ⟨_, List.getElem?_eq_getElem hal⟩
               have x0 := (row2.cell ht).1
               have x1 := (row2.cell ht).2
               have z0 := row2.frozen (a * 2)
               have z1 := row2.frozen (a * 2 + 1)
               have HR2 := Lib.hid row2
               clear row2 ht hb nb))
          go_roundw
          case rel =>
            refine ⟨a + 1, k + 1, by omega, by omega, by simp, by simp, Lib.hid ?_, ?_, ?_⟩
            · rw [kept_succ HP.out, HQ.out, if_pos rfl, List.length_append, HA.out]; rfl
            · rw [← delState_yes HP.out HQ.out, HA.out]
              exact HR2.out.set hal s b
            · exact ((hgr.trans (grown_but hb2 _)).trans (grownS_cell g _ _ _)).trans (grownS_cell g _ _ _)
          case measure => simp [intOf]; omega
      · obtain rfl : k = n := by omega
        have hF : (D.take k).filter q = D.filter q := by rw [List.take_of_length_le (by rw [HN.out]; omega)]
        have hFl : (D.filter q).length = a := by rw [← hF]; exact HA.out
        have HF := Lib.hid hFl
        obtain ⟨m, hm⟩ : ∃ m, k - a = m + 1 := ⟨k - a - 1, by omega⟩
        have RC := fun ty => run_clear_st wr ty g (a * 2) m (cap - a) (fun j hj => by
          obtain ⟨p, hp⟩ : ∃ p, (delState q D k)[a + j / 2]? = some p := ⟨_, List.getElem?_eq_getElem (by rw [delState_len, HN.out]; omega)⟩
          obtain ⟨c0, c1⟩ := hrow.cell hp
          rcases (show a * 2 + j = (a + j / 2) * 2 ∨ a * 2 + j = (a + j / 2) * 2 + 1 by omega) with e | e
          · rw [e, c0]; rfl
          · rw [e, c1]; rfl) (fun j => hrow.frozen j)
        have hrow2 : RowS wr g (D.filter q) := by
          have h := hrow
          unfold delState at h
          rw [hF] at h
          exact h.prefix_
        have HROW := Lib.hid hrow2
        clear hrow hrow2 hF hFl
        obtain ⟨Z, hZ⟩ : ∃ Z, ∀ ty, (Builtin.clear_ #[34] ty #[.slice (some ⟨g, a * 2, none⟩) (m + 1) (cap - a)]).run Tryz.prog wr = .ok (.tuple #[]) (wr.setCells g (a * 2) Z) := by
          obtain ⟨Z, h⟩ := RC 0
          exact ⟨Z, fun ty => h⟩
        clear RC
        have j1 : (a : Int) ≤ (k : Int) := by omega
        have j2 : (k : Int) ≤ (cap : Int) := by omega
        have j3 : (a : Int) ≤ (cap : Int) := by omega
        have e7 : ¬ cap = a := by omega
        go_wp2
        go_ret
        rw [HF.out]
        exact ⟨rfl, HROW.out.setCells Z _ _ _ (by rw [HF.out]; omega), hgr.trans (grown_setCellsS g Z _ _)⟩

end Go.Proofs.YtiommdfelnkibaaGreat

/- Merging, plain: what two gauges, two pieces have in common. -/
namespace Go.Proofs.YtiommdfelnkibaaGreat
open Go Go.RowKit Go.Proofs

/-- What two gauges have in common. -/
def comG (g h : G5) : G5 := ⟨max g.a h.a, min g.b h.b, max g.c h.c, min g.d h.d, if g.e = 0 then h.e else g.e⟩
/-- Two gauges can be of one edge. -/
def cmpG (g h : G5) : Bool := decide (max g.a h.a ≤ min g.b h.b) && (decide (max g.c h.c ≤ min g.d h.d) && ((g.e == h.e) || ((g.e == 0) || (h.e == 0))))

/-- Lists of marks are equal. -/
def eqM (M N : List M3) : Bool := decide (M.length = N.length) && (List.range M.length).all fun k => decide ((mq M k).x = (mq N k).x ∧ (mq M k).y = (mq N k).y ∧ (mq M k).z = (mq N k).z)

theorem eqM_iff (M N : List M3) : eqM M N = true ↔ M = N := by
  unfold eqM
  rw [Bool.and_eq_true, decide_eq_true_eq, List.all_eq_true]
  constructor
  · rintro ⟨hl, h⟩
    apply List.ext_getElem hl
    intro i h1 h2
    have := h i (List.mem_range.2 h1)
    rw [decide_eq_true_eq, mq_get h1, mq_get h2] at this
    obtain ⟨ha, hb, hc⟩ := this
    cases hM : M[i]
    cases hN : N[i]
    simp_all
  · rintro rfl
    exact ⟨rfl, fun k _ => by simp⟩

/-- Lists of gauges can be of the same edges. -/
def cmpL (G H : List G5) : Bool := decide (G.length = H.length) && (List.range G.length).all fun k => cmpG (gz G k) (gz H k)

/-- A piece that has been reset and another one can be one piece. -/
def alk (r q : PcD) : Bool := (r.c == q.c) && ((r.r == q.r) && ((r.m == q.m) && ((r.s == q.s) && (eqM r.M q.M && cmpL r.G q.G))))

/-- What both gauges say, edge by edge. -/
def comL (G H : List G5) (k : Nat) : List G5 := (List.range k).map fun i => comG (gz G i) (gz H i)
theorem comL_len (G H : List G5) (k : Nat) : (comL G H k).length = k := by simp [comL]
theorem comL_gz (G H : List G5) {k i : Nat} (h : i < k) : gz (comL G H k) i = comG (gz G i) (gz H i) := by
  unfold gz comL
  simp [List.getD_eq_getElem?_getD, h, gz]
/-- The merged piece. -/
def mgD (r q : PcD) : PcD := ⟨q.id, q.c, q.r, q.m, q.s, comL r.G q.G q.G.length, q.M⟩

/-- The settings by which two pieces can be one. -/
def agS (p q : PcD) : List (Nat × Bool) := if p.ok = true ∧ q.ok = true then (allS p.G.length).filter fun s => alk (rsD p s.1 s.2) q else []
def agE (p q : PcD) : Int := if p.ok = true ∧ q.ok = true then 0 else 30

def mgV (p q : PcD) (sh : Int) (b : Bool) : PcD := if p.ok = true ∧ q.ok = true ∧ vset sh p.G.length = true ∧ alk (rsD p sh.toNat b) q = true then mgD (rsD p sh.toNat b) q else zeroD
def mgE (p q : PcD) (sh : Int) (b : Bool) : Int := if p.ok = true ∧ q.ok = true then (if vset sh p.G.length = true then (if alk (rsD p sh.toNat b) q = true then 0 else 31) else 1) else 30

theorem alk_len {r q : PcD} (h : alk r q = true) : r.G.length = q.G.length := by
  unfold alk cmpL at h
  simp only [Bool.and_eq_true, decide_eq_true_eq] at h
  exact h.2.2.2.2.2.1

end Go.Proofs.YtiommdfelnkibaaGreat
