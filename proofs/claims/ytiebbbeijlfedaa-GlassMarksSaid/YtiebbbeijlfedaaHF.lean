/- The abstract machine, part HF. -/
import Derived.Test.YtiebbbeijlfedaaHE
/- Walks: RunOn of the program. -/
namespace Go.Proofs.Ytiebbbeijlfedaa
open Go Go.RowKit Go.Proofs Go.Pairs

def okR (A B : List M3) (s : Int) : Bool := vOne A && vOne B && wi s 0 16
/-- What RunOn answers: the error, and the pairing. -/
def runE (A B : List M3) (s : Int) : Int := if okR A B s = true then (if opM A B s = true then 0 else 31) else 1
def runL (A B : List M3) (s : Int) : List Nat := if okR A B s = true ∧ opM A B s = true then grM A B s else []

/-- The value is a slice, nil or not, that holds these numbers. -/
def SlN (w : World) (v : Value) (L : List Nat) : Prop := SlI w v (L.map fun k => ((k : Nat) : Int))

theorem sln_nil (w : World) : SlN w (.slice none 0 0) [] := ⟨none, 0, rfl, by simp, fun k hk => absurd hk (Nat.not_lt_zero _)⟩

theorem iz_map (L : List Nat) (k : Nat) : iz (L.map fun k => ((k : Nat) : Int)) k = ((L.getD k 0 : Nat) : Int) := by
  unfold iz
  simp only [List.getD_eq_getElem?_getD, List.getElem?_map]
  cases L[k]? <;> rfl

theorem NB.sln {W : World} {g c : Nat} {L : List Nat} (h : NB W g L) (hl : L.length ≤ 1000) : SlN W (.slice (some ⟨g, 0, none⟩) L.length c) L := by
  refine ⟨_, c, by rw [List.length_map], by rw [List.length_map]; omega, fun k hk => ⟨g, 0, rfl, ?_⟩⟩
  rw [Nat.zero_add, iz_map]
  exact h.cell (by simpa using hk)

theorem gr_len {A B : List M3} {s : Int} (vA : vOne A = true) (h : opM A B s = true) : (grM A B s).length = A.length := by
  obtain ⟨-, h1, -⟩ := vOne_facts vA
  exact greedy_len _ _ _ _ _ _ (fun i hi => tones_mem (h1 i hi).2) _ 0 _ (Nat.zero_add _) h

set_option maxRecDepth 100000 in
set_option maxHeartbeats 2000000 in
theorem runOnP_any (A B : List M3) (s : Int) (va vb : Value) (w : World) (sA : SlM w va A) (sB : SlM w vb B) :
    Calls Try.prog 24 #[va, vb, .int .i64 s] w fun e w' => ∃ v, e = .returned (.tuple #[v, .int .i64 (runE A B s)]) ∧ SlN w' v (runL A B s) ∧ Below w.heap.size w w' := by
  have C1 := onOne_any va A w sA
  have C2 := fun w' (hb : Below w.heap.size w w') => onOne_any vb B w' (sB.keep hb)
  have C3 := fun w => within_any s 0 16 w
  have C4 : vOne A = true → vOne B = true → wi s 0 16 = true → ∀ w', Below w.heap.size w w' → Calls Try.prog 53 #[va, vb, .int .i64 s] w' fun e w'' => ∃ g, e = .returned (.tuple #[.slice (some ⟨g, 0, none⟩) A.length A.length, .bool (opM A B s)]) ∧ Below w'.heap.size w' w'' ∧ (opM A B s = true → SlN w'' (.slice (some ⟨g, 0, none⟩) A.length A.length) (grM A B s)) := fun h1 h2 h3 w' hb => by
    have hs : 0 ≤ s ∧ s ≤ 16 := by unfold wi at h3; simpa using h3
    refine (pairing_any A B s va vb w' (sA.keep hb) (sB.keep hb) hs h1 h2).mono fun e w'' ⟨g, he, _, hb2, hT⟩ => ⟨g, he, hb2, fun ho => ?_⟩
    have hl := gr_len h1 ho
    rw [← hl]
    exact (hT ho).sln (by rw [hl]; have := (vOne_facts h1).1; omega)
  have HB : (vOne A && vOne B && wi s 0 16) = false → runE A B s = 1 ∧ runL A B s = [] := fun h => by unfold runE runL okR; rw [h]; simp
  have HM : vOne A = true → vOne B = true → wi s 0 16 = true → opM A B s = false → runE A B s = 31 ∧ runL A B s = [] := fun h1 h2 h3 h => by unfold runE runL okR; rw [h1, h2, h3, h]; simp
  have HG : vOne A = true → vOne B = true → wi s 0 16 = true → opM A B s = true → runE A B s = 0 ∧ runL A B s = grM A B s := fun h1 h2 h3 h => by unfold runE runL okR; rw [h1, h2, h3, h]; simp
  clear sA sB
  generalize runE A B s = E at HB HM HG ⊢
  generalize runL A B s = L at HB HM HG ⊢
  generalize vOne A = p at C1 C4 HB HM HG
  generalize vOne B = q at C2 C4 HB HM HG
  generalize wi s 0 16 = t at C3 C4 HB HM HG
  have HC4 := Lib.hid C4
  have HB' := Lib.hid HB
  have HM' := Lib.hid HM
  have HG' := Lib.hid HG
  clear C4 HB HM HG
  cases p
  · obtain ⟨rfl, rfl⟩ := HB'.out (by simp)
    go_enter Try.func24, Try.ntmps24
    go_wp2_with (first
      | (go_at_call 52; with_reducible refine C1.mono ?_; rintro e w1 ⟨rfl, hb1⟩)
      | (go_at_call 52; with_reducible refine (C2 _ hb1).mono ?_; rintro e w2 ⟨rfl, hb2⟩)
      | (go_at_call 36; with_reducible refine (C3 _).mono ?_; rintro e w3 ⟨rfl, rfl⟩))
    go_ret2
    exact ⟨_, rfl, sln_nil _, hb1⟩
  · cases q
    · obtain ⟨rfl, rfl⟩ := HB'.out (by simp)
      go_enter Try.func24, Try.ntmps24
      go_wp2_with (first
        | (go_at_call 52; with_reducible refine C1.mono ?_; rintro e w1 ⟨rfl, hb1⟩; clear C1)
        | (go_at_call 52; with_reducible refine (C2 _ hb1).mono ?_; rintro e w2 ⟨rfl, hb2⟩)
        | (go_at_call 36; with_reducible refine (C3 _).mono ?_; rintro e w3 ⟨rfl, rfl⟩))
      go_ret2
      exact ⟨_, rfl, sln_nil _, keep_below hb1 hb2⟩
    · cases t
      · obtain ⟨rfl, rfl⟩ := HB'.out (by simp)
        go_enter Try.func24, Try.ntmps24
        go_wp2_with (first
          | (go_at_call 52; with_reducible refine C1.mono ?_; rintro e w1 ⟨rfl, hb1⟩; clear C1)
          | (go_at_call 52; with_reducible refine (C2 _ hb1).mono ?_; rintro e w2 ⟨rfl, hb2⟩)
          | (go_at_call 36; with_reducible refine (C3 _).mono ?_; rintro e w3 ⟨rfl, rfl⟩))
        go_ret2
        exact ⟨_, rfl, sln_nil _, keep_below hb1 hb2⟩
      · obtain ⟨o, ho⟩ : ∃ o, opM A B s = o := ⟨_, rfl⟩
        have C5 := HC4.out rfl rfl rfl
        simp only [ho] at C5
        have HO := Lib.hid ho
        clear ho
        have H5 := Lib.hid C5
        clear C5 HC4 HB'
        cases o
        · obtain ⟨rfl, rfl⟩ := HM'.out rfl rfl rfl HO.out
          go_enter Try.func24, Try.ntmps24
          go_wp2_with (first
            | (go_at_call 52; with_reducible refine C1.mono ?_; rintro e w1 ⟨rfl, hb1⟩; clear C1)
            | (go_at_call 52; with_reducible refine (C2 _ hb1).mono ?_; rintro e w2 ⟨rfl, hb2⟩; have C5 := H5.out w2 (keep_below hb1 hb2); have b2 := keep_below hb1 hb2)
            | (go_at_call 36; with_reducible refine (C3 _).mono ?_; rintro e w3 ⟨rfl, rfl⟩)
            | (go_at_call 53; with_reducible refine C5.mono ?_; rintro e w4 ⟨g, rfl, hb4, hT⟩; clear hT; have b4 := keep_below b2 hb4))
          go_ret2
          exact ⟨_, rfl, sln_nil _, b4⟩
        · obtain ⟨rfl, rfl⟩ := HG'.out rfl rfl rfl HO.out
          go_enter Try.func24, Try.ntmps24
          go_wp2_with (first
            | (go_at_call 52; with_reducible refine C1.mono ?_; rintro e w1 ⟨rfl, hb1⟩; clear C1)
            | (go_at_call 52; with_reducible refine (C2 _ hb1).mono ?_; rintro e w2 ⟨rfl, hb2⟩; have C5 := H5.out w2 (keep_below hb1 hb2); have b2 := keep_below hb1 hb2)
            | (go_at_call 36; with_reducible refine (C3 _).mono ?_; rintro e w3 ⟨rfl, rfl⟩)
            | (go_at_call 53; with_reducible refine C5.mono ?_; rintro e w4 ⟨g, rfl, hb4, hT⟩; have HTT := Lib.hid hT; clear hT; have b4 := keep_below b2 hb4))
          go_ret2
          exact ⟨_, rfl, HTT.out (by first | trivial | rfl), b4⟩

end Go.Proofs.Ytiebbbeijlfedaa

/- Walks: the reference's runs. -/
namespace Go.Pairs
theorem lastF_isNone {p : Nat → Bool} : ∀ {m : Nat}, (∀ k, k < m → p k = false) → lastF p m = none
  | 0, _ => rfl
  | m + 1, h => by
    unfold lastF
    rw [if_neg (by simp [h m (by omega)])]
    exact lastF_isNone fun k hk => h k (by omega)
theorem lastF_isSome {p : Nat → Bool} {j : Nat} (hp : p j = true) : ∀ {m : Nat}, j < m → (∀ k, j < k → k < m → p k = false) → lastF p m = some j
  | 0, h, _ => absurd h (Nat.not_lt_zero _)
  | m + 1, h, ha => by
    unfold lastF
    rcases Nat.lt_or_ge j m with h1 | h1
    · rw [if_neg (by simp [ha m h1 (by omega)])]
      exact lastF_isSome hp h1 fun k h2 h3 => ha k h2 (by omega)
    · obtain rfl : j = m := by omega
      rw [if_pos hp]
end Go.Pairs

namespace Go.Proofs.Ytiebbbeijlfedaa
open Go Go.RowKit Go.Proofs Go.Pairs

set_option maxRecDepth 100000 in
set_option maxHeartbeats 2000000 in
theorem refRuns_any (a b : M3) (s : Int) (hs : 0 ≤ s ∧ s ≤ 16) (pA : 0 ≤ a.y ∧ a.y ≤ 16) (pB : 0 ≤ b.y ∧ b.y ≤ 16) (w : World) :
    Calls Try.prog 56 #[mk a.x a.y a.z, mk b.x b.y b.z, .int .i64 s] w fun e w' => e = .returned (.bool (runs1 a b s)) ∧ Below w.heap.size w w' := by
  unfold runs1
  obtain ⟨x0, y0, z0⟩ := a
  obtain ⟨x1, y1, z1⟩ := b
  simp only at pA pB ⊢
  have e1 : IntKind.i64.wrap (y0 + y1) = y0 + y1 := wi64 _ (by omega)
  have e2 : IntKind.i64.wrap (y0 + y1 - 16) = y0 + y1 - 16 := wi64 _ (by omega)
  have e3 : IntKind.i64.wrap (0 - s) = -s := by rw [wi64 _ (by omega)]; omega
  have C := fun w => refWithin_any (y0 + y1 - 16) (-s) s w
  obtain ⟨b0, m0, m1⟩ := mk2 w x0 y0 z0 x1 y1 z1
  obtain ⟨W, hW⟩ : ∃ W, (w.alloc (mkObj x0 y0 z0)).alloc (mkObj x1 y1 z1) = W := ⟨_, rfl⟩
  rw [hW] at b0 m0 m1
  have c0 := m0.c1
  have c1 := m0.c2
  have c2 := m1.c1
  have c3 := m1.c2
  have HW := Lib.hid hW
  clear hW m0 m1
  generalize wi (y0 + y1 - 16) (-s) s = r at C ⊢
  by_cases hz : z0 = z1
  · have jz : (z0 == z1) = true := by rw [hz]; simp
    rw [jz]
    clear hz
    go_enter Try.func56, Try.ntmps56
    go_upto_region 1 with fail
    rw [HW.out]
    go_wp2_with (go_at_call 39; with_reducible refine (C _).mono ?_; rintro e w1 ⟨rfl, rfl⟩)
    go_ret
    exact ⟨rfl, b0⟩
  · have jz : (z0 == z1) = false := by rw [beq_eq_false_iff_ne]; exact hz
    rw [jz]
    clear hz
    go_enter Try.func56, Try.ntmps56
    go_upto_region 1 with fail
    rw [HW.out]
    go_wp2_with (go_at_call 39; with_reducible refine (C _).mono ?_; rintro e w1 ⟨rfl, rfl⟩)
    go_ret
    exact ⟨rfl, b0⟩

end Go.Proofs.Ytiebbbeijlfedaa

/- Walks: the reference's matched. -/
namespace Go.Proofs.Ytiebbbeijlfedaa
open Go Go.RowKit Go.Proofs Go.Pairs

theorem info4 : (Try.prog.info? 4).map (fun i => (i.zero, i.size, i.bytes)) = some (some (.bool false), 1, 1) := by kernel_rfl

/-- The cells of what is used. -/
def bv (U : Nat → Bool) (m : Nat) : List Value := (List.range m).map fun k => Value.bool (U k)
theorem bv_len (U : Nat → Bool) (m : Nat) : (bv U m).length = m := by simp [bv]
theorem bv_get {U : Nat → Bool} {m j : Nat} (h : j < m) : (bv U m)[j]? = some (.bool (U j)) := by simp [bv, h]
theorem bv_one (U : Nat → Bool) (m : Nat) : ∀ u ∈ bv U m, u.oneCell' = true := by
  intro u hu
  unfold bv at hu
  obtain ⟨k, -, rfl⟩ := List.mem_map.1 hu
  rfl
theorem bv_set {U V : Nat → Bool} {m k : Nat} (b : Bool) (hV : ∀ j, V j = if j = k then b else U j) : (bv U m).set k (.bool b) = bv V m := by
  apply List.ext_getElem?
  intro j
  unfold bv
  rw [List.getElem?_set]
  by_cases e : k = j
  · subst e
    by_cases h : k < m
    · simp [h, hV k]
    · simp [h]
  · rw [if_neg e]
    have e' : ¬ j = k := fun x => e x.symm
    by_cases h : j < m
    · simp [h, hV j, e']
    · simp [h]

/-- The value is a slice that says what is used. -/
def SlU (w : World) (v : Value) (U : Nat → Bool) (m : Nat) : Prop := ∃ g off cap, v = .slice (some ⟨g, off, none⟩) m cap ∧ ∀ k, k < m → w.cell? ⟨g, off + k, none⟩ = some (.bool (U k))

theorem SlU.keep {w w' : World} {v : Value} {U : Nat → Bool} {m : Nat} (h : SlU w v U m) (hb : Below w.heap.size w w') : SlU w' v U m := by
  obtain ⟨g, off, cap, rfl, hc⟩ := h
  exact ⟨g, off, cap, rfl, fun k hk => keep_cell hb (hc k hk)⟩

theorem step_back {p : Nat → Bool} {q m : Nat} (h : p q = false) (ha : ∀ x, q + 1 ≤ x → x < m → p x = false) : ∀ x, q ≤ x → x < m → p x = false := fun x h1 h2 => by
  rcases Nat.lt_or_ge q x with h3 | h3
  · exact ha x h3 h2
  · obtain rfl : x = q := by omega
    exact h

def tn (M : List M3) (i : Nat) : Int := (mq M i).z

set_option maxRecDepth 100000 in
set_option maxHeartbeats 4000000 in
theorem matched_any (A B : List M3) (s : Int) (hs : 0 ≤ s ∧ s ≤ 16) (pA : Pl A) (pB : Pl B) (lB : B.length ≤ 32) (c i0 : Nat) (U : Nat → Bool) (hc : i0 + c = A.length) (va vb vu : Value) (w : World) (sA : SlM w va (A.drop i0)) (sB : SlM w vb B) (sU : SlU w vu U B.length) :
    Calls Try.prog 55 #[va, vb, vu, .int .i64 s] w fun e w' => e = .returned (.bool (matchR (runsM A B s) (tn A) (tn B) B.length c i0 U)) ∧ Below w.heap.size w w' := by
  obtain ⟨i1, hi0, hz0, hz1, hz2⟩ := info_parts info4
  have hlA : (A.drop i0).length = c := by rw [List.length_drop]; omega
  have HM0 : Hid (∀ j U', j < c → matchR (runsM A B s) (tn A) (tn B) B.length (c - j) (i0 + j) U' = match lastF (fun k => !U' k && tn B k == tn A (i0 + j)) B.length with | none => false | some k => runsM A B s (i0 + j) k && matchR (runsM A B s) (tn A) (tn B) B.length (c - (j + 1)) (i0 + (j + 1)) (upd U' k)) := Lib.hid fun j U' hj => by
    rw [show c - j = (c - (j + 1)) + 1 by omega]
    rfl
  obtain ⟨a, capa, hva, hla, hca⟩ := sA
  rw [hlA] at hla
  obtain ⟨b, capb, hvb, -, hcb⟩ := sB
  obtain ⟨gu, ou, capu, hvu, hcu⟩ := sU
  subst hva hvb hvu
  rw [hlA] at hca ⊢
  have HCA : Hid (∀ k, k < c → ∃ b off, a = some ⟨b, off, none⟩ ∧ w.cell? ⟨b, off + k * 3, none⟩ = some (.int .i64 (mq A (i0 + k)).x) ∧ w.cell? ⟨b, off + k * 3 + 1, none⟩ = some (.int .i64 (mq A (i0 + k)).y) ∧ w.cell? ⟨b, off + k * 3 + 2, none⟩ = some (.int .i64 (mq A (i0 + k)).z)) := Lib.hid fun k hk => by
    have e : mq (A.drop i0) k = mq A (i0 + k) := by unfold mq; simp [List.getD_eq_getElem?_getD]
    rw [← e]; exact hca k hk
  have HCB := Lib.hid hcb
  have HPA : Hid (∀ k, k < c → 0 ≤ (mq A (i0 + k)).y ∧ (mq A (i0 + k)).y ≤ 16) := Lib.hid fun k hk => pA (i0 + k) (by omega)
  have HPB : Hid (∀ k, k < B.length → 0 ≤ (mq B k).y ∧ (mq B k).y ≤ 16) := Lib.hid pB
  clear hca hcb pA pB hlA hc
  obtain ⟨R, hR⟩ : ∃ R, matchR (runsM A B s) (tn A) (tn B) B.length c i0 U = R := ⟨_, rfl⟩
  have HR := Lib.hid hR
  rw [hR]
  clear hR
  have HLN : Hid (∀ p : Nat → Bool, (∀ k, k < B.length → p k = false) → lastF p B.length = none) := Lib.hid fun p => lastF_isNone
  have HLS : Hid (∀ (p : Nat → Bool) j, p j = true → j < B.length → (∀ k, j < k → k < B.length → p k = false) → lastF p B.length = some j) := Lib.hid fun p j h1 h2 h3 => lastF_isSome h1 h2 h3
  obtain ⟨m, hm⟩ : ∃ m, B.length = m := ⟨_, rfl⟩
  rw [hm] at HR HM0 HCB HPB HLN HLS lB hcu ⊢
  clear hm
  have hown0 : (w.alloc (.cells #[] 4)).ownsRow w.heap.size 4 1 (.slice (some ⟨w.heap.size, 0, none⟩) 0 0) 0 [] :=
    ⟨rfl, .inr ⟨w.heap.size, 0, #[], rfl, Nat.le_refl _, World.alloc_heap_new w _, Nat.le_refl _, Nat.zero_le _, rfl, rfl⟩⟩
  have hcu0 : ∀ j u, (bv U m)[j]? = some u → (w.alloc (.cells #[] 4)).cell? ((⟨gu, ou, none⟩ : Addr).add j) = some u := fun j u hj => by
    have hlt : j < m := by rw [← bv_len U m]; exact (List.getElem?_eq_some_iff.1 hj).1
    rw [bv_get hlt] at hj
    cases hj
    have := keep_cell ((Below.refl _ w).alloc (Nat.le_refl _) (.cells #[] 4)) (hcu j hlt)
    have e : (⟨gu, ou, none⟩ : Addr).add j = ⟨gu, ou + j, none⟩ := by unfold Addr.add; split <;> simp_all
    rw [e]; exact this
  have b0 : Below w.heap.size w (w.alloc (.cells #[] 4)) := (Below.refl _ w).alloc (Nat.le_refl _) _
  have hbl := bv_len U m
  have hbo := bv_one U m
  generalize hbU : bv U m = BU at hcu0 hbl hbo
  have HBU := Lib.hid hbU
  clear hbU hcu
  go_enter Try.func55, Try.ntmps55
  go_upto_region 2 with (first
    | (at_builtin; go_loud (refine wpList_append_own _ rfl _ _ 59 rfl w.heap.size 4 i1 (.bool false) 1 1 Try.underlying59 hi0 hz0 hz1 hz2 rfl (by decide) _ _ _ rfl hown0 _ m capu BU rfl (by rw [hbl, Nat.mul_one]) hcu0 hbo (by unfold maxLen; omega) (by omega) (by simp) ?_; intro v1 w1 hown1 hgrow1 hnil1)))
  have b1 : Below w.heap.size w w1 := b0.grown hgrow1 (by simp) (fun j hj => by cases hj; exact Nat.le_refl _)
  rw [List.nil_append, ← HBU.out, Nat.zero_add] at hown1
  clear hown0 hcu0 b0 hbl hbo hgrow1 hnil1 HBU BU hi0 hz0 hz1 hz2 i1
  go_wp2_with fail
  go_loopw [10] (fun i wr => ∃ (j : Nat) (U' : Nat → Bool), j ≤ c ∧ i = .int .i64 j ∧ wr.ownsRow w.heap.size 4 1 v1 m (bv U' m) ∧ Below w.heap.size w wr ∧ matchR (runsM A B s) (tn A) (tn B) m (c - j) (i0 + j) U' = R) (fun i _ => c - (intOf i).toNat)
  case atStart => exact ⟨0, U, Nat.zero_le _, rfl, hown1, b1, HR.out⟩
  case round =>
    clear hown1 b1 w1
    obtain ⟨j, U', hj, rfl, hown, hbel, hmr⟩ := hrel
    have HMR := Lib.hid hmr
    clear hmr
    by_cases hlt : j < c
    · have j1 : (j : Int) < (c : Int) := by omega
      have e1 : IntKind.i64.wrap ((m : Int) - 1) = (m : Int) - 1 := wi64 _ (by omega)
      have HMJ := Lib.hid ((HM0.out j U' hlt).symm.trans HMR.out)
      clear HMR
      have own0 := hown
      have bel0 := hbel
      clear hown hbel
      go_wp2_with fail
      go_loopw [11, 12] (fun fd kk wr => ∃ q : Nat, q ≤ m ∧ kk = .int .i64 ((q : Int) - 1) ∧ wr.ownsRow w.heap.size 4 1 v1 m (bv U' m) ∧ Below w.heap.size w wr ∧
        ((fd = .int .i64 (-1) ∧ ∀ x, q ≤ x → x < m → (!U' x && tn B x == tn A (i0 + j)) = false) ∨ (∃ x0 : Nat, fd = .int .i64 x0 ∧ q ≤ x0 ∧ x0 < m ∧ (!U' x0 && tn B x0 == tn A (i0 + j)) = true ∧ ∀ x, x0 < x → x < m → (!U' x && tn B x == tn A (i0 + j)) = false)))
        (fun _ kk _ => (intOf kk + 1).toNat)
      case atStart => exact ⟨m, Nat.le_refl _, rfl, own0, bel0, .inl ⟨rfl, fun x h1 h2 => absurd h2 (by omega)⟩⟩
      case round =>
        clear own0 bel0
        obtain ⟨q, hq, rfl, hown, hbel, hfd⟩ := hrel
        have HFD := Lib.hid hfd
        clear hfd
        rcases q with _ | q
        · have j2 : ¬ (0 : Int) ≤ (((0 : Nat) : Int) - 1) := by omega
          rcases HFD.out with ⟨rfl, hall⟩ | ⟨x0, rfl, -, hx, hpx, hall⟩
          · as_aux_lemma =>
            have hR : R = false := by
              have := HMJ.out
              rw [HLN.out _ (fun k hk => hall k (Nat.zero_le _) hk)] at this
              exact this.symm
            subst hR
            clear hall HFD
            have cb : decide ((-1 : Int) < 0) = true := by decide
            go_wp2_with fail
            refine wp_region_grow (by kernel_rfl) (by kernel_rfl) ?_
            repeat (go_big_quiet_step (fail))
            refine wpQuiet_nil ?_
            rintro w3 ⟨gg, hgg⟩
            have hb3 : Below wr.heap.size wr w3 := by rw [hgg]; exact gg.b
            clear hgg gg
            go_wp2
            go_ret
            exact ⟨rfl, keep_below hbel hb3⟩
          · as_aux_lemma =>
            have hMJ := HMJ.out
            rw [HLS.out _ x0 hpx hx hall] at hMJ
            simp only at hMJ
            have HMK := Lib.hid hMJ
            clear hMJ hall hpx HFD
            obtain ⟨ba, oa, rfl, a0, a1, a2⟩ := HCA.out j hlt
            obtain ⟨bb, ob, rfl, d0, d1, d2⟩ := HCB.out x0 hx
            replace a0 := keep_cell hbel a0
            replace a1 := keep_cell hbel a1
            replace a2 := keep_cell hbel a2
            replace d0 := keep_cell hbel d0
            replace d1 := keep_cell hbel d1
            replace d2 := keep_cell hbel d2
            have C := fun w => refRuns_any (mq A (i0 + j)) (mq B x0) s hs (HPA.out j hlt) (HPB.out x0 hx) w
            have j3 : ¬ (x0 : Int) < 0 := by omega
            have cb : decide ((x0 : Int) < 0) = false := decide_eq_false j3
            have j4 : (0 : Int) ≤ (x0 : Int) := by omega
            have j5 : (x0 : Int) < (m : Int) := by omega
            obtain ⟨t, ht⟩ : ∃ t, runs1 (mq A (i0 + j)) (mq B x0) s = t := ⟨_, rfl⟩
            have HT : Hid (runsM A B s (i0 + j) x0 = t) := Lib.hid ht
            simp only [ht] at C
            clear ht
            generalize (mq A (i0 + j)).x = p0 at a0 C
            generalize (mq A (i0 + j)).y = p1 at a1 C
            generalize (mq A (i0 + j)).z = p2 at a2 C
            generalize (mq B x0).x = q0 at d0 C
            generalize (mq B x0).y = q1 at d1 C
            generalize (mq B x0).z = q2 at d2 C
            have G0 := grow_cell a0
            have G1 := grow_cell a1
            have G2 := grow_cell a2
            have G3 := grow_cell d0
            have G4 := grow_cell d1
            have G5 := grow_cell d2
            clear a0 a1 a2 d0 d1 d2
            obtain ⟨g1, cap1, hv1⟩ : ∃ g cap, v1 = .slice (some ⟨g, 0, none⟩) m cap := by
              rcases hown.2 with ⟨-, h0⟩ | ⟨g, cap, cur, h, -⟩
              · omega
              · exact ⟨g, cap, h⟩
            subst hv1
            go_wp2_with fail
            refine wp_region_grow (by kernel_rfl) (by kernel_rfl) ?_
            repeat (go_big_quiet_step ((go_at_call 56; with_reducible exact calls_grow (C _))))
            refine wpQuiet_nil ?_
            rintro w3 ⟨gg, hgg⟩
            have hb3 : Below wr.heap.size wr w3 := by rw [hgg]; exact gg.b
            clear hgg gg G0 G1 G2 G3 G4 G5 C
            have own3 := own_keep hown hb3
            have bel3 := keep_below hbel hb3
            cases t
            · as_aux_lemma =>
              have hR : R = false := by
                have := HMK.out
                rw [HT.out] at this
                exact this.symm
              subst hR
              go_wp2
              go_ret
              exact ⟨rfl, bel3⟩
            · have c0 := own3.cellAt x0 (by omega)
              rw [bv_get hx] at c0
              have f0 := own3.frozenAt x0
              have q1' : ∃ x, w3.cell? ⟨g1, x0, none⟩ = some (.bool x) := ⟨_, c0⟩
              have own4 := (own3.stored x0 (.bool true)).1
              rw [bv_set true (V := upd U' x0) (fun k => by unfold upd; by_cases e : k = x0 <;> simp [e])] at own4
              have gB : w.heap.size ≤ g1 := (own3.lt g1 rfl).1
              generalize U' x0 = y at c0
              clear q1'
              go_wp2
              refine ⟨⟨j + 1, _, by omega, by simp, own4, bel3.setCell (by simpa using gB) _, ?_⟩, by (simp [intOf] <;> omega)⟩
              have := HMK.out
              rw [HT.out, Bool.true_and] at this
              exact this
        · rw [show (((q + 1 : Nat) : Int) - 1) = (q : Int) by omega]
          have j2 : (0 : Int) ≤ (q : Int) := by omega
          have j3 : (q : Int) < (m : Int) := by omega
          obtain ⟨g1, cap1, hv1⟩ : ∃ g cap, v1 = .slice (some ⟨g, 0, none⟩) m cap := by
            rcases hown.2 with ⟨-, h0⟩ | ⟨g, cap, cur, h, -⟩
            · omega
            · exact ⟨g, cap, h⟩
          subst hv1
          have c0 := hown.cellAt q (by omega)
          rw [bv_get (show q < m by omega)] at c0
          obtain ⟨ba, oa, rfl, -, -, a2⟩ := HCA.out j hlt
          obtain ⟨bb, ob, rfl, -, -, b2⟩ := HCB.out q (by omega)
          replace a2 := keep_cell hbel a2
          replace b2 := keep_cell hbel b2
          have e2 : IntKind.i64.wrap ((q : Int) - 1) = (q : Int) - 1 := wi64 _ (by omega)
          obtain ⟨za, hza⟩ : ∃ z, (mq A (i0 + j)).z = z := ⟨_, rfl⟩
          obtain ⟨zb, hzb⟩ : ∃ z, (mq B q).z = z := ⟨_, rfl⟩
          obtain ⟨u, hu⟩ : ∃ u, U' q = u := ⟨_, rfl⟩
          have HP : Hid ((!U' q && tn B q == tn A (i0 + j)) = (!u && zb == za)) := Lib.hid (by unfold tn; rw [hza, hzb, hu])
          rw [hza] at a2
          rw [hzb] at b2
          rw [hu] at c0
          clear hza hzb hu
          have G0 := grow_cell c0
          have G1 := grow_cell a2
          have G2 := grow_cell b2
          clear c0 a2 b2
          cases u
          · by_cases hz : zb = za
            · have jz : (zb == za) = true := by rw [hz]; simp
              rw [jz] at HP
              clear hz
              rcases HFD.out with ⟨rfl, hall⟩ | ⟨x0, rfl, h1, h2, h3, h4⟩
              · as_aux_lemma =>
                have HALL := Lib.hid hall
                clear hall HFD
                go_wp2_with fail
                refine wp_region_grow (by kernel_rfl) (by kernel_rfl) ?_
                repeat (go_big_quiet_step (fail))
                refine wpQuiet_nil ?_
                rintro w3 ⟨gg, hgg⟩
                have hb3 : Below wr.heap.size wr w3 := by rw [hgg]; exact gg.b
                clear hgg gg G0 G1 G2
                have own3 := own_keep hown hb3
                have bel3 := keep_below hbel hb3
                go_wp2
                refine ⟨⟨q, by omega, by simp, own3, bel3, .inr ⟨q, rfl, Nat.le_refl _, by omega, HP.out, fun x hx hxm => HALL.out x hx hxm⟩⟩, by (simp [intOf] <;> omega)⟩
              · as_aux_lemma =>
                have H3 := Lib.hid h3
                have H4 := Lib.hid h4
                have j5 : ¬ (x0 : Int) < 0 := by omega
                clear h3 h4 HFD
                go_wp2_with fail
                refine wp_region_grow (by kernel_rfl) (by kernel_rfl) ?_
                repeat (go_big_quiet_step (fail))
                refine wpQuiet_nil ?_
                rintro w3 ⟨gg, hgg⟩
                have hb3 : Below wr.heap.size wr w3 := by rw [hgg]; exact gg.b
                clear hgg gg G0 G1 G2
                have own3 := own_keep hown hb3
                have bel3 := keep_below hbel hb3
                go_wp2
                refine ⟨⟨q, by omega, by simp, own3, bel3, .inr ⟨x0, rfl, by omega, h2, H3.out, H4.out⟩⟩, by (simp [intOf] <;> omega)⟩
            · as_aux_lemma =>
              have jz : (zb == za) = false := by rw [beq_eq_false_iff_ne]; exact hz
              rw [jz] at HP
              clear hz
              go_wp2_with fail
              refine wp_region_grow (by kernel_rfl) (by kernel_rfl) ?_
              repeat (go_big_quiet_step (fail))
              refine wpQuiet_nil ?_
              rintro w3 ⟨gg, hgg⟩
              have hb3 : Below wr.heap.size wr w3 := by rw [hgg]; exact gg.b
              clear hgg gg G0 G1 G2
              have own3 := own_keep hown hb3
              have bel3 := keep_below hbel hb3
              go_wp2
              refine ⟨⟨q, by omega, by simp, own3, bel3, ?_⟩, by (simp [intOf] <;> omega)⟩
              exact HFD.out.imp (fun ⟨h1, h2⟩ => ⟨h1, step_back HP.out h2⟩) (fun ⟨x0, h1, h2, h3, h4, h5⟩ => ⟨x0, h1, by omega, h3, h4, h5⟩)
          · by_cases hz : zb = za
            · as_aux_lemma =>
              have jz : (zb == za) = true := by rw [hz]; simp
              clear hz
              go_wp2_with fail
              refine wp_region_grow (by kernel_rfl) (by kernel_rfl) ?_
              repeat (go_big_quiet_step (fail))
              refine wpQuiet_nil ?_
              rintro w3 ⟨gg, hgg⟩
              have hb3 : Below wr.heap.size wr w3 := by rw [hgg]; exact gg.b
              clear hgg gg G0 G1 G2
              have own3 := own_keep hown hb3
              have bel3 := keep_below hbel hb3
              go_wp2
              refine ⟨⟨q, by omega, by simp, own3, bel3, ?_⟩, by (simp [intOf] <;> omega)⟩
              exact HFD.out.imp (fun ⟨h1, h2⟩ => ⟨h1, step_back (by rw [HP.out]; rfl) h2⟩) (fun ⟨x0, h1, h2, h3, h4, h5⟩ => ⟨x0, h1, by omega, h3, h4, h5⟩)
            · as_aux_lemma =>
              have jz : (zb == za) = false := by rw [beq_eq_false_iff_ne]; exact hz
              clear hz
              go_wp2_with fail
              refine wp_region_grow (by kernel_rfl) (by kernel_rfl) ?_
              repeat (go_big_quiet_step (fail))
              refine wpQuiet_nil ?_
              rintro w3 ⟨gg, hgg⟩
              have hb3 : Below wr.heap.size wr w3 := by rw [hgg]; exact gg.b
              clear hgg gg G0 G1 G2
              have own3 := own_keep hown hb3
              have bel3 := keep_below hbel hb3
              go_wp2
              refine ⟨⟨q, by omega, by simp, own3, bel3, ?_⟩, by (simp [intOf] <;> omega)⟩
              exact HFD.out.imp (fun ⟨h1, h2⟩ => ⟨h1, step_back (by rw [HP.out]; rfl) h2⟩) (fun ⟨x0, h1, h2, h3, h4, h5⟩ => ⟨x0, h1, by omega, h3, h4, h5⟩)
    · obtain rfl : j = c := by omega
      have h := HMR.out
      rw [Nat.sub_self] at h
      have hR : R = true := h.symm.trans rfl
      clear h
      subst hR
      go_wp2
      go_ret
      exact ⟨rfl, hbel⟩

end Go.Proofs.Ytiebbbeijlfedaa
