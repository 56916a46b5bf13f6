/- The abstract machine, part HA. -/
import Derived.Test.YtiebbbeijlfedaaCB
import Derived.Test.YtiebbbeijlfedaaA6
import Derived.Laws.OwnMore
/- Rows of marks of one's own. -/
namespace Go.Proofs.Ytiebbbeijlfedaa
open Go Go.RowKit Go.Proofs

theorem info61 : (Try.prog.info? 61).map (fun i => (i.zero, i.size, i.bytes)) = some (some (mk 0 0 0), 3, 24) := by kernel_rfl

/-- The cells of marks. -/
def mv1 (m : M3) : List Value := [.int .i64 m.x, .int .i64 m.y, .int .i64 m.z]
def mv (L : List M3) : List Value := L.flatMap mv1

theorem mv_snoc (L : List M3) (m : M3) : mv (L ++ [m]) = mv L ++ [.int .i64 m.x, .int .i64 m.y, .int .i64 m.z] := by simp [mv, mv1]

theorem mv_len (L : List M3) : (mv L).length = L.length * 3 := by
  induction L with
  | nil => rfl
  | cons a L ih =>
    have : mv (a :: L) = mv1 a ++ mv L := rfl
    rw [this, List.length_append, ih]
    simp [mv1]; omega

theorem mv_get : ∀ (L : List M3) (k : Nat), k < L.length → (mv L)[k * 3]? = some (.int .i64 (mq L k).x) ∧ (mv L)[k * 3 + 1]? = some (.int .i64 (mq L k).y) ∧ (mv L)[k * 3 + 2]? = some (.int .i64 (mq L k).z)
  | [], k, h => absurd h (Nat.not_lt_zero _)
  | a :: L, 0, _ => ⟨rfl, rfl, rfl⟩
  | a :: L, k + 1, h => by
    obtain ⟨h0, h1, h2⟩ := mv_get L k (by simpa using h)
    have e : mv (a :: L) = mv1 a ++ mv L := rfl
    have q : mq (a :: L) (k + 1) = mq L k := rfl
    rw [e, q]
    refine ⟨?_, ?_, ?_⟩
    · rw [List.getElem?_append_right (by simp [mv1]; omega), ← h0]; congr 1; simp [mv1]; omega
    · rw [List.getElem?_append_right (by simp [mv1]; omega), ← h1]; congr 1; simp [mv1]; omega
    · rw [List.getElem?_append_right (by simp [mv1]; omega), ← h2]; congr 1; simp [mv1]; omega

theorem slm_nil (w : World) : SlM w (.slice none 0 0) [] := ⟨none, 0, rfl, by simp, fun k hk => absurd hk (Nat.not_lt_zero _)⟩

theorem own_slm {w : World} {base n : Nat} {v : Value} {L : List M3} (h : w.ownsRow base 61 3 v n (mv L)) (hn : L.length = n) (hl : n ≤ 1000000) : SlM w v L := by
  subst hn
  rcases h.2 with ⟨rfl, h0⟩ | ⟨g, cap, cur, rfl, -⟩
  · have : L = [] := List.eq_nil_of_length_eq_zero h0
    subst this
    exact slm_nil w
  · refine ⟨_, cap, rfl, by omega, fun k hk => ⟨g, 0, rfl, ?_, ?_, ?_⟩⟩
    · rw [Nat.zero_add, h.cellAt _ (by omega)]; exact (mv_get L k hk).1
    · rw [Nat.zero_add, h.cellAt _ (by omega)]; exact (mv_get L k hk).2.1
    · rw [Nat.zero_add, h.cellAt _ (by omega)]; exact (mv_get L k hk).2.2

theorem three_cells (a b c : Int) : ∀ u ∈ [Value.int .i64 a, .int .i64 b, .int .i64 c], u.oneCell' = true := by
  intro u hu
  simp only [List.mem_cons, List.not_mem_nil, or_false] at hu
  rcases hu with rfl | rfl | rfl <;> rfl

theorem three_new (w : World) (a b c : Int) : ∀ j u, [Value.int .i64 a, .int .i64 b, .int .i64 c][j]? = some u → (w.alloc (mkObj a b c)).cell? ((⟨w.heap.size, 0, none⟩ : Addr).add j) = some u := by
  intro j u h
  have h1 := World.alloc_heap_new w (mkObj a b c)
  have e1 : (⟨w.heap.size, 0, none⟩ : Addr).add j = ⟨w.heap.size, j, none⟩ := by unfold Addr.add; split <;> simp_all
  rw [e1]
  unfold World.cell?
  rw [h1]
  simpa using h

theorem three_at (w : World) (a b c : Int) (B : Nat) (h : w.heap.size = B) : ∀ j u, [Value.int .i64 a, .int .i64 b, .int .i64 c][j]? = some u → (w.alloc (mkObj a b c)).cell? ((⟨B, 0, none⟩ : Addr).add j) = some u := by
  subst h
  exact three_new w a b c

/-- The marks of one edge. -/
def onE (e : Int) (M : List M3) : List M3 := M.filter fun m => m.x == e

theorem take_mq (M : List M3) {k : Nat} (hk : k < M.length) : M.take (k + 1) = M.take k ++ [mq M k] := by
  rw [List.take_succ_eq_append_getElem hk]
  unfold mq
  simp [List.getD_eq_getElem?_getD, hk]

theorem onE_yes {e : Int} {M : List M3} {k : Nat} (hk : k < M.length) (h : (mq M k).x = e) : onE e (M.take (k + 1)) = onE e (M.take k) ++ [mq M k] := by
  unfold onE
  rw [take_mq M hk, List.filter_append]
  simp [h]

theorem onE_no {e : Int} {M : List M3} {k : Nat} (hk : k < M.length) (h : (mq M k).x ≠ e) : onE e (M.take (k + 1)) = onE e (M.take k) := by
  unfold onE
  rw [take_mq M hk, List.filter_append]
  simp [h]

theorem onE_len (e : Int) (M : List M3) : (onE e M).length ≤ M.length := List.length_filter_le _ _

/-- What On answers. -/
def vOn (M : List M3) (e : Int) : Bool := vMs 0 23 M && wi e 0 23
def OnS (M : List M3) (e : Int) (w : World) (v : Value) (E : Int) : Prop :=
  (vOn M e = false ∧ v = .slice none 0 0 ∧ E = 1) ∨ (vOn M e = true ∧ SlM w v (onE e M) ∧ E = 0)

theorem vMs_len {lo hi : Int} {M : List M3} (h : vMs lo hi M = true) : M.length ≤ 32 := by
  unfold vMs at h
  rw [Bool.and_eq_true, Bool.and_eq_true] at h
  exact of_decide_eq_true h.1.1

end Go.Proofs.Ytiebbbeijlfedaa

/- Walks: On. -/
namespace Go.Proofs.Ytiebbbeijlfedaa
open Go Go.RowKit Go.Proofs

set_option maxRecDepth 100000 in
set_option maxHeartbeats 2000000 in
theorem on_any (v : Value) (M : List M3) (e : Int) (w : World) (h : SlM w v M) :
    Calls Try.prog 20 #[v, .int .i64 e] w fun x w' => ∃ v' E, x = .returned (.tuple #[v', .int .i64 E]) ∧ OnS M e w' v' E ∧ Below w.heap.size w w' := by
  obtain ⟨i0, hi0, hz0, hz1, hz2⟩ := info_parts info61
  have C1 := validMarks_any v 0 23 M w h
  have C2 := fun w => within_any e 0 23 w
  obtain ⟨a, cap, rfl, hl, hc⟩ := h
  have HC := Lib.hid hc
  clear hc
  have HB : vOn M e = false → ∀ W, OnS M e W (.slice none 0 0) 1 := fun h W => .inl ⟨h, rfl, rfl⟩
  have HG : vOn M e = true → ∀ W v', SlM W v' (onE e M) → OnS M e W v' 0 := fun h W v' hs => .inr ⟨h, hs, rfl⟩
  have hvl : vMs 0 23 M = true → M.length ≤ 32 := vMs_len
  unfold vOn at HB HG
  generalize vMs 0 23 M = p at C1 HB HG hvl
  generalize wi e 0 23 = q at C2 HB HG
  cases p
  · have HB' := Lib.hid (HB rfl)
    clear HB HG hvl
    go_enter Try.func20, Try.ntmps20
    go_wp2_with (first
      | (go_at_call 38; with_reducible refine C1.mono ?_; rintro e w1 ⟨rfl, hb⟩)
      | (go_at_call 36; with_reducible refine (C2 _).mono ?_; rintro e w1 ⟨rfl, rfl⟩))
    go_ret2
    exact ⟨_, _, rfl, HB'.out _, hb⟩
  · have _t := True.intro
    cases q
    · have HB' := Lib.hid (HB rfl)
      clear HB HG hvl
      go_enter Try.func20, Try.ntmps20
      go_wp2_with (first
        | (go_at_call 38; with_reducible refine C1.mono ?_; rintro e w1 ⟨rfl, hb⟩)
        | (go_at_call 36; with_reducible refine (C2 _).mono ?_; rintro e w1 ⟨rfl, rfl⟩))
      go_ret2
      exact ⟨_, _, rfl, HB'.out _, hb⟩
    · have HG' := Lib.hid (HG rfl)
      have hn := hvl rfl
      have hT : onE e (M.take M.length) = onE e M := by rw [List.take_length]
      have HT := Lib.hid hT
      clear HB HG hvl hT
      have HL : Hid (∀ k, (onE e (M.take k)).length ≤ 32) := Lib.hid fun k => Nat.le_trans (onE_len _ _) (by rw [List.length_take]; omega)
      have HY : Hid (∀ k, k < M.length → (mq M k).x = e → onE e (M.take (k + 1)) = onE e (M.take k) ++ [mq M k]) := Lib.hid fun k => onE_yes
      have HN : Hid (∀ k, k < M.length → (mq M k).x ≠ e → onE e (M.take (k + 1)) = onE e (M.take k)) := Lib.hid fun k => onE_no
      obtain ⟨n, hn0⟩ : ∃ n, M.length = n := ⟨_, rfl⟩
      rw [hn0] at hn hl HC HY HN HT C1 ⊢
      clear hn0
      go_enter Try.func20, Try.ntmps20
      go_wp2_with (first
        | (go_at_call 38; with_reducible refine C1.mono ?_; rintro e w1 ⟨rfl, hb⟩)
        | (go_at_call 36; with_reducible refine (C2 _).mono ?_; rintro e w1 ⟨rfl, rfl⟩))
      clear C1 C2
      go_loopw [6, 20] (fun u i wr => ∃ k : Nat, k ≤ n ∧ i = .int .i64 k ∧ wr.ownsRow w.heap.size 61 3 u (onE e (M.take k)).length (mv (onE e (M.take k))) ∧ Below w.heap.size w wr) (fun _ i _ => n - (intOf i).toNat)
      case atStart => exact ⟨0, Nat.zero_le _, rfl, World.ownsRow_nil _ _ _ _, hb⟩
      case round =>
        clear hb w1
        obtain ⟨k, hk, rfl, hown, hbel⟩ := hrel
        by_cases hlt : k < n
        · have j1 : (k : Int) < (n : Int) := by omega
          obtain ⟨b, off, rfl, c0, c1, c2⟩ := HC.out k hlt
          replace c0 := keep_cell hbel c0
          replace c1 := keep_cell hbel c1
          replace c2 := keep_cell hbel c2
          have hlen := HL.out k
          have hY := HY.out k hlt
          have hN := HN.out k hlt
          obtain ⟨m, hm⟩ : ∃ m, mq M k = m := ⟨_, rfl⟩
          rw [hm] at c0 c1 c2 hY hN
          clear hm
          obtain ⟨x, y, z⟩ := m
          simp only at c0 c1 c2 hY hN
          generalize onE e (M.take k) = XS at hown hlen hY hN ⊢
          by_cases hx : x = e
          · have hY' := Lib.hid (hY hx)
            clear hY hN
            subst hx
            have o1 := hown.alloc (mkObj x y z)
            have o2 := o1.alloc (mkObj x y z)
            have b2 := ((hbel.alloc hbel.size (mkObj x y z)).alloc (by have := hbel.size; simp; omega) (mkObj x y z))
            go_wp2_with (first
              | (at_builtin; go_loud (refine wpList_append_own _ rfl _ _ 23 rfl w.heap.size 61 i0 (mk 0 0 0) 3 24 Try.underlying23 hi0 hz0 hz1 hz2 rfl (by decide) _ _ _ rfl o2 _ 1 1 [.int .i64 x, .int .i64 y, .int .i64 z] rfl rfl (three_at (wr.alloc (mkObj x y z)) x y z _ (by simp)) (three_cells _ _ _) (by unfold maxLen; omega) (by omega) (by have := hbel.size; simp; omega) ?_; intro v1 w4 hown4 hgrow4 hnil4)))
            refine ⟨⟨k + 1, by omega, by simp, ?_, ?_⟩, by simp [intOf]; omega⟩
            · rw [hY'.out, List.length_append, mv_snoc]
              exact hown4
            · exact b2.grown hgrow4 (by have := hbel.size; simp; omega) (fun j hj => (o2.lt j hj).1)
          · have hN' := Lib.hid (hN hx)
            clear hY hN
            have jx : (x == e) = false := by rw [beq_eq_false_iff_ne]; exact hx
            have o1 := hown.alloc (mkObj x y z)
            have b1 := hbel.alloc hbel.size (mkObj x y z)
            go_wp2
            exact ⟨⟨k + 1, by omega, by simp, by rw [hN'.out]; exact o1, b1⟩, by simp [intOf]; omega⟩
        · obtain rfl : k = n := by omega
          have hl2 := HL.out k
          have HT' := HT.out
          go_wp2
          go_ret2
          exact ⟨_, _, rfl, HG'.out _ _ (by rw [HT'] at hown; rw [HT'] at hl2; exact own_slm hown rfl (by omega)), hbel⟩

end Go.Proofs.Ytiebbbeijlfedaa

/- Walks: the reference's On. -/
namespace Go.Proofs.Ytiebbbeijlfedaa
open Go Go.RowKit Go.Proofs

def badE (M : List M3) : Bool := (List.range M.length).any fun k => !wi (mq M k).x 0 23
def rOn (M : List M3) (e : Int) : Bool := !badE M && rMs M && wi e 0 23

theorem badE_true {M : List M3} (k : Nat) (hk : k < M.length) (h : wi (mq M k).x 0 23 = false) : badE M = true := by
  unfold badE
  rw [List.any_eq_true]
  exact ⟨k, List.mem_range.2 hk, by simp [h]⟩

theorem badE_false {M : List M3} (h : ∀ k, k < M.length → wi (mq M k).x 0 23 = true) : badE M = false := by
  unfold badE
  rw [List.any_eq_false]
  intro k hk
  simp [h k (List.mem_range.1 hk)]

theorem badM_split (M : List M3) : badM 0 23 M = (badE M || badT M) := by
  cases hE : badE M
  · cases hT : badT M
    · refine badM_false fun k hk => ?_
      unfold badE at hE
      unfold badT at hT
      rw [List.any_eq_false] at hE hT
      have h1 := hE k (List.mem_range.2 hk)
      have h2 := hT k (List.mem_range.2 hk)
      unfold M3.ok2 at h2
      unfold M3.ok
      simp at h1 h2 ⊢
      exact ⟨⟨h1, h2.1⟩, h2.2⟩
    · unfold badT at hT
      rw [List.any_eq_true] at hT
      obtain ⟨k, hk, h⟩ := hT
      refine badM_true k (List.mem_range.1 hk) ?_
      unfold M3.ok2 at h
      unfold M3.ok
      cases hx : wi (mq M k).x 0 23 <;> cases hy : wi (mq M k).y 0 16 <;> cases hz : wi (mq M k).z 1 16 <;> simp_all
  · unfold badE at hE
    rw [List.any_eq_true] at hE
    obtain ⟨k, hk, h⟩ := hE
    refine badM_true k (List.mem_range.1 hk) ?_
    unfold M3.ok
    simp at h
    simp [h]

theorem vOn_ref (M : List M3) (e : Int) : vOn M e = rOn M e := by
  unfold vOn rOn vMs rMs
  rw [badM_split]
  cases badE M <;> cases badT M <;> cases risesM M <;> cases decide (M.length ≤ 32) <;> rfl

set_option maxRecDepth 100000 in
set_option maxHeartbeats 4000000 in
theorem refOn_any (v : Value) (M : List M3) (e : Int) (w : World) (h : SlM w v M) :
    Calls Try.prog 21 #[v, .int .i64 e] w fun x w' => ∃ v' E, x = .returned (.tuple #[v', .int .i64 E]) ∧ OnS M e w' v' E ∧ Below w.heap.size w w' := by
  obtain ⟨i0, hi0, hz0, hz1, hz2⟩ := info_parts info61
  have C1 := fun w' (hb : Below w.heap.size w w') => refMarks_any v M w' (h.keep hb)
  have C2 := fun w => refWithin_any e 0 23 w
  obtain ⟨a, cap, rfl, hl, hc⟩ := h
  have HC := Lib.hid hc
  clear hc
  have hO := vOn_ref M e
  have HB : vOn M e = false → ∀ W, OnS M e W (.slice none 0 0) 1 := fun h W => .inl ⟨h, rfl, rfl⟩
  have HG : vOn M e = true → ∀ W v', SlM W v' (onE e M) → OnS M e W v' 0 := fun h W v' hs => .inr ⟨h, hs, rfl⟩
  have hvl : rMs M = true → M.length ≤ 32 := fun h => by
    unfold rMs at h
    rw [Bool.and_eq_true, Bool.and_eq_true] at h
    exact of_decide_eq_true h.1.1
  rw [hO] at HB HG
  clear hO
  unfold rOn at HB HG
  have hET := badE_true (M := M)
  have hEF := badE_false (M := M)
  generalize badE M = r at HB HG hET hEF
  generalize rMs M = p at C1 HB HG hvl
  generalize wi e 0 23 = q at C2 HB HG
  have HET := Lib.hid hET
  have HEF := Lib.hid hEF
  have HC1 := Lib.hid C1
  have HBH := Lib.hid HB
  have HGH := Lib.hid HG
  have HV := Lib.hid hvl
  have HT := Lib.hid (show onE e (M.take M.length) = onE e M by rw [List.take_length])
  clear hET hEF C1 HB HG hvl
  have HL : Hid (∀ k, (onE e (M.take k)).length ≤ M.length) := Lib.hid fun k => Nat.le_trans (onE_len _ _) (by rw [List.length_take]; omega)
  have HY : Hid (∀ k, k < M.length → (mq M k).x = e → onE e (M.take (k + 1)) = onE e (M.take k) ++ [mq M k]) := Lib.hid fun k => onE_yes
  have HN : Hid (∀ k, k < M.length → (mq M k).x ≠ e → onE e (M.take (k + 1)) = onE e (M.take k)) := Lib.hid fun k => onE_no
  obtain ⟨n, hn0⟩ : ∃ n, M.length = n := ⟨_, rfl⟩
  rw [hn0] at hl HC HY HN HT HC1 HET HEF HV HL ⊢
  clear hn0
  go_enter Try.func21, Try.ntmps21
  go_wp2_with fail
  go_loopw [6] (fun i wr => ∃ k : Nat, k ≤ n ∧ i = .int .i64 k ∧ Below w.heap.size w wr ∧ ∀ j, j < k → wi (mq M j).x 0 23 = true) (fun i _ => n - (intOf i).toNat)
  case atStart => exact ⟨0, Nat.zero_le _, rfl, Below.refl _ _, by simp⟩
  case round =>
    obtain ⟨k, hk, rfl, hbel, hall⟩ := hrel
    have HA := Lib.hid hall
    clear hall
    by_cases hlt : k < n
    · have j1 : (k : Int) < (n : Int) := by omega
      obtain ⟨b, off, rfl, c0, -, -⟩ := HC.out k hlt
      replace c0 := keep_cell hbel c0
      obtain ⟨x, hx⟩ : ∃ x, (mq M k).x = x := ⟨_, rfl⟩
      rw [hx] at c0
      have HX := Lib.hid hx
      clear hx
      have C3 := fun w => refWithin_any x 0 23 w
      obtain ⟨t, ht⟩ : ∃ t, wi x 0 23 = t := ⟨_, rfl⟩
      rw [ht] at C3
      have HW := Lib.hid ht
      clear ht
      cases t
      · have hr := HET.out k hlt (by rw [HX.out]; exact HW.out)
        subst hr
        have HB' := Lib.hid (HBH.out rfl)
        go_wp2_with (first | (go_at_call 39; with_reducible refine (C3 _).mono ?_; rintro e w1 ⟨rfl, rfl⟩))
        go_ret2
        exact ⟨_, _, rfl, HB'.out _, hbel⟩
      · go_wp2_with (first | (go_at_call 39; with_reducible refine (C3 _).mono ?_; rintro e w1 ⟨rfl, rfl⟩))
        refine ⟨⟨k + 1, by omega, by simp, hbel, fun j hj => ?_⟩, by simp [intOf]; omega⟩
        rcases Nat.lt_or_ge j k with h | h
        · exact HA.out j h
        · obtain rfl : j = k := by omega
          rw [HX.out]; exact HW.out
    · obtain rfl : k = n := by omega
      have hr := HEF.out (fun j hj => HA.out j hj)
      subst hr
      have C1 := HC1.out wr hbel
      have j1 : ¬ (k : Int) < (k : Int) := by omega
      clear HA HET HEF HC1
      cases p
      · have HB' := Lib.hid (HBH.out rfl)
        go_wp2_with (first
          | (go_at_call 41; with_reducible refine C1.mono ?_; rintro e w1 ⟨rfl, hb1⟩; have hb2 := keep_below hbel hb1)
          | (go_at_call 39; with_reducible refine (C2 _).mono ?_; rintro e w1 ⟨rfl, rfl⟩))
        go_ret2
        exact ⟨_, _, rfl, HB'.out _, hb2⟩
      · have hn := HV.out rfl
        cases q
        · have HB' := Lib.hid (HBH.out rfl)
          go_wp2_with (first
            | (go_at_call 41; with_reducible refine C1.mono ?_; rintro e w1 ⟨rfl, hb1⟩; have hb2 := keep_below hbel hb1)
            | (go_at_call 39; with_reducible refine (C2 _).mono ?_; rintro e w1 ⟨rfl, rfl⟩))
          go_ret2
          exact ⟨_, _, rfl, HB'.out _, hb2⟩
        · have HG' := Lib.hid (HGH.out rfl)
          clear HBH HGH HV
          go_wp2_with (first
            | (go_at_call 41; with_reducible refine C1.mono ?_; rintro e w1 ⟨rfl, hb1⟩; have hb2 := keep_below hbel hb1)
            | (go_at_call 39; with_reducible refine (C2 _).mono ?_; rintro e w1 ⟨rfl, rfl⟩))
          clear C1 C2 hbel hb1
          go_loopw [7, 8] (fun u i wr => ∃ j : Nat, j ≤ k ∧ i = .int .i64 j ∧ wr.ownsRow w.heap.size 61 3 u (onE e (M.take j)).length (mv (onE e (M.take j))) ∧ Below w.heap.size w wr) (fun _ i _ => k - (intOf i).toNat)
          case atStart => exact ⟨0, Nat.zero_le _, rfl, World.ownsRow_nil _ _ _ _, hb2⟩
          case round =>
            clear hb2
            obtain ⟨j, hj, rfl, hown, hbel⟩ := hrel
            by_cases hlt2 : j < k
            · have j2 : (j : Int) < (k : Int) := by omega
              obtain ⟨b, off, rfl, c0, c1, c2⟩ := HC.out j hlt2
              replace c0 := keep_cell hbel c0
              replace c1 := keep_cell hbel c1
              replace c2 := keep_cell hbel c2
              have hlen := HL.out j
              have hY := HY.out j hlt2
              have hN := HN.out j hlt2
              obtain ⟨m, hm⟩ : ∃ m, mq M j = m := ⟨_, rfl⟩
              rw [hm] at c0 c1 c2 hY hN
              clear hm
              obtain ⟨x, y, z⟩ := m
              simp only at c0 c1 c2 hY hN
              generalize onE e (M.take j) = XS at hown hlen hY hN ⊢
              by_cases hx : x = e
              · have hY' := Lib.hid (hY hx)
                clear hY hN
                subst hx
                have o2 := hown.alloc (mkObj x y z)
                have b2 := hbel.alloc hbel.size (mkObj x y z)
                go_wp2_with (first
                  | (at_builtin; go_loud (refine wpList_append_own _ rfl _ _ 23 rfl w.heap.size 61 i0 (mk 0 0 0) 3 24 Try.underlying23 hi0 hz0 hz1 hz2 rfl (by decide) _ _ _ rfl o2 _ 1 1 [.int .i64 x, .int .i64 y, .int .i64 z] rfl rfl (three_at wr x y z _ (by simp)) (three_cells _ _ _) (by unfold maxLen; omega) (by omega) (by have := hbel.size; simp; omega) ?_; intro v1 w4 hown4 hgrow4 hnil4)))
                refine ⟨⟨j + 1, by omega, by simp, ?_, ?_⟩, by simp [intOf]; omega⟩
                · rw [hY'.out, List.length_append, mv_snoc]
                  exact hown4
                · exact b2.grown hgrow4 (by have := hbel.size; simp; omega) (fun j hj => (o2.lt j hj).1)
              · have hN' := Lib.hid (hN hx)
                clear hY hN
                have jx : (x == e) = false := by rw [beq_eq_false_iff_ne]; exact hx
                go_wp2
                exact ⟨⟨j + 1, by omega, by simp, by rw [hN'.out]; exact hown, hbel⟩, by simp [intOf]; omega⟩
            · obtain rfl : j = k := by omega
              have hl2 := HL.out j
              have HT' := HT.out
              go_wp2
              go_ret2
              exact ⟨_, _, rfl, HG'.out _ _ (by rw [HT'] at hown; rw [HT'] at hl2; exact own_slm hown rfl (by omega)), hbel⟩

end Go.Proofs.Ytiebbbeijlfedaa

/- Walks: Count of both. -/
namespace Go.Proofs.Ytiebbbeijlfedaa
open Go Go.RowKit Go.Proofs

def OnL (M : List M3) (e : Int) : List M3 := if vOn M e = true then onE e M else []
def OnE (M : List M3) (e : Int) : Int := if vOn M e = true then 0 else 1

theorem OnS.sl {M : List M3} {e : Int} {w : World} {v : Value} {E : Int} (h : OnS M e w v E) : SlM w v (OnL M e) ∧ E = OnE M e := by
  unfold OnL OnE
  rcases h with ⟨h, rfl, rfl⟩ | ⟨h, hs, rfl⟩
  · rw [h]; exact ⟨slm_nil w, rfl⟩
  · rw [h]; exact ⟨hs, rfl⟩

theorem OnL_len (M : List M3) (e : Int) : (OnL M e).length ≤ 32 := by
  unfold OnL
  split
  · rename_i h
    unfold vOn at h
    rw [Bool.and_eq_true] at h
    exact Nat.le_trans (onE_len e M) (vMs_len h.1)
  · simp

/-- How many marks lie in a span. -/
def cnt (L : List M3) (lo hi : Int) : Nat := (L.filter fun m => wi m.y lo hi).length
theorem cnt_yes {L : List M3} {lo hi : Int} {k : Nat} (hk : k < L.length) (h : wi (mq L k).y lo hi = true) : cnt (L.take (k + 1)) lo hi = cnt (L.take k) lo hi + 1 := by
  unfold cnt
  rw [take_mq L hk, List.filter_append]
  simp [h]
theorem cnt_no {L : List M3} {lo hi : Int} {k : Nat} (hk : k < L.length) (h : wi (mq L k).y lo hi = false) : cnt (L.take (k + 1)) lo hi = cnt (L.take k) lo hi := by
  unfold cnt
  rw [take_mq L hk, List.filter_append]
  simp [h]
theorem cnt_le (L : List M3) (lo hi : Int) : cnt L lo hi ≤ L.length := List.length_filter_le _ _

set_option maxRecDepth 100000 in
set_option maxHeartbeats 2000000 in
theorem count_any (v : Value) (M : List M3) (e lo hi : Int) (w : World) (h : SlM w v M) :
    Calls Try.prog 22 #[v, .int .i64 e, spn lo hi] w fun x w' => x = .returned (.tuple #[.int .i64 (cnt (OnL M e) lo hi : Nat), .int .i64 (OnE M e)]) ∧ Below w.heap.size w w' := by
  have b0 : Below w.heap.size w (w.alloc (spnObj lo hi)) := (Below.refl _ _).alloc (Nat.le_refl _) _
  have s0 := Sp.new w lo hi
  have C1 := (on_any v M e _ (h.keep b0)).mono fun x w' hx => show ∃ v', x = .returned (.tuple #[v', .int .i64 (OnE M e)]) ∧ SlM w' v' (OnL M e) ∧ Below _ _ w' from by
    obtain ⟨v', E, rfl, hs, hb⟩ := hx
    obtain ⟨hS, rfl⟩ := hs.sl
    exact ⟨v', rfl, hS, hb⟩
  have hL := OnL_len M e
  clear h
  generalize OnL M e = L at C1 hL ⊢
  generalize OnE M e = E at C1 ⊢
  go_enter Try.func22, Try.ntmps22
  go_wp2_with fail
  refine C1.mono ?_
  rintro x w1 ⟨v', rfl, hS, hb⟩
  have s1 := s0.keep hb
  have b1 := keep_below b0 hb
  clear C1 s0 b0 hb
  have HY : Hid (∀ k, k < L.length → wi (mq L k).y lo hi = true → cnt (L.take (k + 1)) lo hi = cnt (L.take k) lo hi + 1) := Lib.hid fun k => cnt_yes
  have HN : Hid (∀ k, k < L.length → wi (mq L k).y lo hi = false → cnt (L.take (k + 1)) lo hi = cnt (L.take k) lo hi) := Lib.hid fun k => cnt_no
  have HT := Lib.hid (show cnt (L.take L.length) lo hi = cnt L lo hi by rw [List.take_length])
  have HK : Hid (∀ k, cnt (L.take k) lo hi ≤ L.length) := Lib.hid fun k => Nat.le_trans (cnt_le _ _ _) (by rw [List.length_take]; omega)
  obtain ⟨a, cap, rfl, hl, hc⟩ := hS
  have HC : Hid (∀ W, Below w1.heap.size w1 W → ∀ k, k < L.length → ∃ b off, a = some ⟨b, off, none⟩ ∧ W.cell? ⟨b, off + k * 3 + 0, none⟩ = some (.int .i64 (mq L k).x) ∧ W.cell? ⟨b, off + k * 3 + 1, none⟩ = some (.int .i64 (mq L k).y) ∧ W.cell? ⟨b, off + k * 3 + 2, none⟩ = some (.int .i64 (mq L k).z)) := Lib.hid fun W hW k hk => by
    obtain ⟨b, off, rfl, c0, c1, c2⟩ := hc k hk
    exact ⟨b, off, rfl, keep_cell hW c0, keep_cell hW c1, keep_cell hW c2⟩
  clear hc
  obtain ⟨n, hn0⟩ : ∃ n, L.length = n := ⟨_, rfl⟩
  rw [hn0] at hL hl HY HN HT HK HC ⊢
  clear hn0
  go_wp2_with fail
  go_loopw [10, 21] (fun u i wr => ∃ k : Nat, k ≤ n ∧ i = .int .i64 k ∧ u = .int .i64 (cnt (L.take k) lo hi : Nat) ∧ Below w.heap.size w wr ∧ Below w1.heap.size w1 wr ∧ Sp wr w.heap.size lo hi) (fun _ i _ => n - (intOf i).toNat)
  case atStart => exact ⟨0, Nat.zero_le _, rfl, rfl, b1, Below.refl _ _, s1⟩
  case round =>
    clear b1 s1
    obtain ⟨k, hk, rfl, rfl, hbel, hbel1, sp⟩ := hrel
    by_cases hlt : k < n
    · have j1 : (k : Int) < (n : Int) := by omega
      obtain ⟨b, off, rfl, c0, c1, c2⟩ := HC.out wr hbel1 k hlt
      simp only [Nat.add_zero] at c0
      have hlen := HK.out k
      have hY := HY.out k hlt
      have hN := HN.out k hlt
      obtain ⟨m, hm⟩ : ∃ m, mq L k = m := ⟨_, rfl⟩
      rw [hm] at c0 c1 c2 hY hN
      clear hm
      obtain ⟨x, y, z⟩ := m
      simp only at c0 c1 c2 hY hN
      generalize cnt (L.take k) lo hi = X at hlen hY hN ⊢
      have C3 := fun w => contains51_any lo hi y w
      have sp' := sp.alloc (mkObj x y z)
      have s0 := sp'.c0
      have s1 := sp'.c1
      have b2 := hbel.alloc hbel.size (mkObj x y z)
      have b3 := hbel1.alloc hbel1.size (mkObj x y z)
      have e1 : IntKind.i64.wrap ((X : Int) + 1) = X + 1 := wi64 _ (by omega)
      cases ht : wi y lo hi
      · have hN' := Lib.hid (hN ht)
        rw [ht] at C3
        clear hY hN ht
        go_wp2_with (first | (go_at_call 51; with_reducible refine (C3 _).mono ?_; rintro e w2 ⟨rfl, hb2⟩))
        exact ⟨⟨k + 1, by omega, by simp, by rw [hN'.out], keep_below b2 hb2, keep_below b3 hb2, sp'.keep hb2⟩, by simp [intOf]; omega⟩
      · have hY' := Lib.hid (hY ht)
        rw [ht] at C3
        clear hY hN ht
        go_wp2_with (first | (go_at_call 51; with_reducible refine (C3 _).mono ?_; rintro e w2 ⟨rfl, hb2⟩))
        exact ⟨⟨k + 1, by omega, by simp, by rw [hY'.out]; simp, keep_below b2 hb2, keep_below b3 hb2, sp'.keep hb2⟩, by simp [intOf]; omega⟩
    · obtain rfl : k = n := by omega
      have HT' := HT.out
      go_wp2
      go_ret2
      exact ⟨by rw [← HT']; rfl, hbel⟩

set_option maxRecDepth 100000 in
set_option maxHeartbeats 2000000 in
theorem refCount_any (v : Value) (M : List M3) (e lo hi : Int) (w : World) (h : SlM w v M) :
    Calls Try.prog 23 #[v, .int .i64 e, spn lo hi] w fun x w' => x = .returned (.tuple #[.int .i64 (cnt (OnL M e) lo hi : Nat), .int .i64 (OnE M e)]) ∧ Below w.heap.size w w' := by
  have b0 : Below w.heap.size w (w.alloc (spnObj lo hi)) := (Below.refl _ _).alloc (Nat.le_refl _) _
  have s0 := Sp.new w lo hi
  have C1 := (refOn_any v M e _ (h.keep b0)).mono fun x w' hx => show ∃ v', x = .returned (.tuple #[v', .int .i64 (OnE M e)]) ∧ SlM w' v' (OnL M e) ∧ Below _ _ w' from by
    obtain ⟨v', E, rfl, hs, hb⟩ := hx
    obtain ⟨hS, rfl⟩ := hs.sl
    exact ⟨v', rfl, hS, hb⟩
  have hL := OnL_len M e
  clear h
  generalize OnL M e = L at C1 hL ⊢
  generalize OnE M e = E at C1 ⊢
  go_enter Try.func23, Try.ntmps23
  go_wp2_with fail
  refine C1.mono ?_
  rintro x w1 ⟨v', rfl, hS, hb⟩
  have s1 := s0.keep hb
  have b1 := keep_below b0 hb
  clear C1 s0 b0 hb
  have HY : Hid (∀ k, k < L.length → wi (mq L k).y lo hi = true → cnt (L.take (k + 1)) lo hi = cnt (L.take k) lo hi + 1) := Lib.hid fun k => cnt_yes
  have HN : Hid (∀ k, k < L.length → wi (mq L k).y lo hi = false → cnt (L.take (k + 1)) lo hi = cnt (L.take k) lo hi) := Lib.hid fun k => cnt_no
  have HT := Lib.hid (show cnt (L.take L.length) lo hi = cnt L lo hi by rw [List.take_length])
  have HK : Hid (∀ k, cnt (L.take k) lo hi ≤ L.length) := Lib.hid fun k => Nat.le_trans (cnt_le _ _ _) (by rw [List.length_take]; omega)
  obtain ⟨a, cap, rfl, hl, hc⟩ := hS
  have HC : Hid (∀ W, Below w1.heap.size w1 W → ∀ k, k < L.length → ∃ b off, a = some ⟨b, off, none⟩ ∧ W.cell? ⟨b, off + k * 3 + 1, none⟩ = some (.int .i64 (mq L k).y)) := Lib.hid fun W hW k hk => by
    obtain ⟨b, off, rfl, c0, c1, c2⟩ := hc k hk
    exact ⟨b, off, rfl, keep_cell hW c1⟩
  clear hc
  obtain ⟨n, hn0⟩ : ∃ n, L.length = n := ⟨_, rfl⟩
  rw [hn0] at hL hl HY HN HT HK HC ⊢
  clear hn0
  go_wp2_with fail
  go_loopw [10, 11] (fun u i wr => ∃ k : Nat, k ≤ n ∧ i = .int .i64 k ∧ u = .int .i64 (cnt (L.take k) lo hi : Nat) ∧ Below w.heap.size w wr ∧ Below w1.heap.size w1 wr ∧ Sp wr w.heap.size lo hi) (fun _ i _ => n - (intOf i).toNat)
  case atStart => exact ⟨0, Nat.zero_le _, rfl, rfl, b1, Below.refl _ _, s1⟩
  case round =>
    clear b1 s1
    obtain ⟨k, hk, rfl, rfl, hbel, hbel1, sp⟩ := hrel
    by_cases hlt : k < n
    · have j1 : (k : Int) < (n : Int) := by omega
      obtain ⟨b, off, rfl, c1⟩ := HC.out wr hbel1 k hlt
      have hlen := HK.out k
      have hY := HY.out k hlt
      have hN := HN.out k hlt
      obtain ⟨m, hm⟩ : ∃ m, mq L k = m := ⟨_, rfl⟩
      rw [hm] at c1 hY hN
      clear hm
      obtain ⟨x, y, z⟩ := m
      simp only at c1 hY hN
      generalize cnt (L.take k) lo hi = X at hlen hY hN ⊢
      have C3 := fun w => refWithin_any y lo hi w
      have s0 := sp.c0
      have s1 := sp.c1
      have e1 : IntKind.i64.wrap ((X : Int) + 1) = X + 1 := wi64 _ (by omega)
      have G0 := grow_cell c1
      have G1 := grow_cell s0
      have G2 := grow_cell s1
      cases ht : wi y lo hi
      · have hN' := Lib.hid (hN ht)
        rw [ht] at C3
        clear hY hN ht
        go_wp2_with fail
        refine wp_region_grow (by kernel_rfl) (by kernel_rfl) ?_
        repeat (go_big_quiet_step ((go_at_call 39; with_reducible exact calls_grow_same (C3 _))))
        refine wpQuiet_nil ?_
        rintro w2 ⟨g, hg⟩
        have hb2 : Below wr.heap.size wr w2 := by rw [hg]; exact g.b
        clear hg g G0 G1 G2 c1 s0 s1
        go_wp2
        exact ⟨⟨k + 1, by omega, by simp, by rw [hN'.out], keep_below hbel hb2, keep_below hbel1 hb2, sp.keep hb2⟩, by simp [intOf]; omega⟩
      · have hY' := Lib.hid (hY ht)
        rw [ht] at C3
        clear hY hN ht
        go_wp2_with fail
        refine wp_region_grow (by kernel_rfl) (by kernel_rfl) ?_
        repeat (go_big_quiet_step ((go_at_call 39; with_reducible exact calls_grow_same (C3 _))))
        refine wpQuiet_nil ?_
        rintro w2 ⟨g, hg⟩
        have hb2 : Below wr.heap.size wr w2 := by rw [hg]; exact g.b
        clear hg g G0 G1 G2 c1 s0 s1
        go_wp2
        exact ⟨⟨k + 1, by omega, by simp, by rw [hY'.out]; simp, keep_below hbel hb2, keep_below hbel1 hb2, sp.keep hb2⟩, by simp [intOf]; omega⟩
    · obtain rfl : k = n := by omega
      have HT' := HT.out
      go_wp2
      go_ret2
      exact ⟨by rw [← HT']; rfl, hbel⟩

end Go.Proofs.Ytiebbbeijlfedaa

/- Walks: marks on one edge, of both; equal lists of marks. -/
namespace Go.Proofs.Ytiebbbeijlfedaa
open Go Go.RowKit Go.Proofs

def vOne (M : List M3) : Bool := decide (M.length = 0) || vMs (mq M 0).x (mq M 0).x M
def othE (M : List M3) : Bool := (List.range M.length).any fun k => decide ((mq M k).x ≠ (mq M 0).x)
def rOne (M : List M3) : Bool := !othE M && rMs M

theorem othE_true {M : List M3} (k : Nat) (hk : k < M.length) (h : (mq M k).x ≠ (mq M 0).x) : othE M = true := by
  unfold othE
  rw [List.any_eq_true]
  exact ⟨k, List.mem_range.2 hk, by simp [h]⟩

theorem othE_false {M : List M3} (h : ∀ k, k < M.length → (mq M k).x = (mq M 0).x) : othE M = false := by
  unfold othE
  rw [List.any_eq_false]
  intro k hk
  simp [h k (List.mem_range.1 hk)]

theorem wi_one (x y : Int) : wi x y y = decide (x = y) := by
  unfold wi
  by_cases h : x = y
  · subst h; simp
  · simp [h]; omega

theorem badM_one (M : List M3) : badM (mq M 0).x (mq M 0).x M = (othE M || badT M) := by
  cases hE : othE M
  · cases hT : badT M
    · refine badM_false fun k hk => ?_
      unfold othE at hE
      unfold badT at hT
      rw [List.any_eq_false] at hE hT
      have h1 := hE k (List.mem_range.2 hk)
      have h2 := hT k (List.mem_range.2 hk)
      unfold M3.ok2 at h2
      unfold M3.ok
      rw [wi_one]
      simp at h1 h2 ⊢
      exact ⟨⟨h1, h2.1⟩, h2.2⟩
    · unfold badT at hT
      rw [List.any_eq_true] at hT
      obtain ⟨k, hk, h⟩ := hT
      refine badM_true k (List.mem_range.1 hk) ?_
      unfold M3.ok2 at h
      unfold M3.ok
      cases hx : wi (mq M k).x (mq M 0).x (mq M 0).x <;> cases hy : wi (mq M k).y 0 16 <;> cases hz : wi (mq M k).z 1 16 <;> simp_all
  · unfold othE at hE
    rw [List.any_eq_true] at hE
    obtain ⟨k, hk, h⟩ := hE
    refine badM_true k (List.mem_range.1 hk) ?_
    unfold M3.ok
    rw [wi_one]
    simp at h
    simp [h]

theorem vOne_ref (M : List M3) : vOne M = rOne M := by
  unfold vOne rOne vMs rMs
  rw [badM_one]
  by_cases h : M.length = 0
  · have : M = [] := List.eq_nil_of_length_eq_zero h
    subst this
    rfl
  · rw [decide_eq_false h]
    cases othE M <;> cases badT M <;> cases risesM M <;> cases decide (M.length ≤ 32) <;> rfl

set_option maxRecDepth 100000 in
set_option maxHeartbeats 2000000 in
theorem onOne_any (v : Value) (M : List M3) (w : World) (h : SlM w v M) :
    Calls Try.prog 52 #[v] w fun e w' => e = .returned (.bool (vOne M)) ∧ Below w.heap.size w w' := by
  unfold vOne
  by_cases h0 : M.length = 0
  · rw [decide_eq_true h0]
    obtain ⟨a, cap, rfl, hl, hc⟩ := h
    rw [h0]
    clear hc hl
    go_enter Try.func52, Try.ntmps52
    go_wp2
    go_ret
    exact ⟨rfl, Below.refl _ _⟩
  · rw [decide_eq_false h0]
    simp only [Bool.false_or]
    have C2 := fun w' (hb : Below w.heap.size w w') => validMarks_any v (mq M 0).x (mq M 0).x M w' (h.keep hb)
    obtain ⟨a, cap, rfl, hl, hc⟩ := h
    obtain ⟨b, off, rfl, c0, -, -⟩ := hc 0 (by omega)
    clear hc
    rw [Nat.zero_mul, Nat.add_zero] at c0
    generalize (mq M 0).x = x at c0 C2 ⊢
    have C1 := fun w => one_any x w
    generalize vMs x x M = r at C2 ⊢
    obtain ⟨n, hn⟩ : ∃ n, M.length = n := ⟨_, rfl⟩
    rw [hn] at h0 hl C2 ⊢
    clear hn
    have j1 : ((n : Int) == 0) = false := by rw [beq_eq_false_iff_ne]; omega
    have j2 : (0 : Int) < (n : Int) := by omega
    go_enter Try.func52, Try.ntmps52
    go_wp2_with (first
      | (go_at_call 46; with_reducible refine (C1 _).mono ?_; rintro e w1 ⟨rfl, hb1⟩)
      | (go_at_call 38; with_reducible refine (C2 _ hb1).mono ?_; rintro e w2 ⟨rfl, hb2⟩))
    go_ret
    exact ⟨rfl, keep_below hb1 hb2⟩

set_option maxRecDepth 100000 in
set_option maxHeartbeats 2000000 in
theorem refOne_any (v : Value) (M : List M3) (w : World) (h : SlM w v M) :
    Calls Try.prog 54 #[v] w fun e w' => e = .returned (.bool (vOne M)) ∧ Below w.heap.size w w' := by
  rw [vOne_ref]
  have C1 := fun w' (hb : Below w.heap.size w w') => refMarks_any v M w' (h.keep hb)
  obtain ⟨a, cap, rfl, hl, hc⟩ := h
  have HC := Lib.hid hc
  clear hc
  unfold rOne
  have HET := Lib.hid (othE_true (M := M))
  have HEF := Lib.hid (othE_false (M := M))
  have HC1 := Lib.hid C1
  clear C1
  generalize othE M = r at HET HEF ⊢
  generalize rMs M = p at HC1 ⊢
  obtain ⟨n, hn⟩ : ∃ n, M.length = n := ⟨_, rfl⟩
  rw [hn] at HC HC1 HET HEF hl ⊢
  clear hn
  go_enter Try.func54, Try.ntmps54
  go_wp2_with fail
  go_loopw [3] (fun i wr => ∃ k : Nat, k ≤ n ∧ i = .int .i64 k ∧ Below w.heap.size w wr ∧ ∀ j, j < k → (mq M j).x = (mq M 0).x) (fun i _ => n - (intOf i).toNat)
  case atStart => exact ⟨0, Nat.zero_le _, rfl, Below.refl _ _, by simp⟩
  case round =>
    obtain ⟨k, hk, rfl, hbel, hall⟩ := hrel
    have HA := Lib.hid hall
    clear hall
    by_cases hlt : k < n
    · have j1 : (k : Int) < (n : Int) := by omega
      have j2 : (0 : Int) < (n : Int) := by omega
      obtain ⟨b, off, rfl, c0, -, -⟩ := HC.out k hlt
      obtain ⟨b', off', hbb, d0, -, -⟩ := HC.out 0 (by omega)
      obtain ⟨rfl, rfl⟩ : b = b' ∧ off = off' := by cases hbb; exact ⟨rfl, rfl⟩
      clear hbb
      rw [Nat.zero_mul, Nat.add_zero] at d0
      replace c0 := keep_cell hbel c0
      replace d0 := keep_cell hbel d0
      obtain ⟨x, hx⟩ : ∃ x, (mq M k).x = x := ⟨_, rfl⟩
      obtain ⟨y, hy⟩ : ∃ y, (mq M 0).x = y := ⟨_, rfl⟩
      rw [hx] at c0
      rw [hy] at d0
      have HX := Lib.hid hx
      have HY := Lib.hid hy
      clear hx hy
      have G0 := grow_cell c0
      have G1 := grow_cell d0
      by_cases he : x = y
      · have HE := Lib.hid he
        have j3 : (x == y) = true := by rw [he]; simp
        clear he
        go_wp2_with fail
        refine wp_region_grow (by kernel_rfl) (by kernel_rfl) ?_
        repeat (go_big_quiet_step (fail))
        refine wpQuiet_nil ?_
        rintro w2 ⟨g, hg⟩
        have hb2 : Below wr.heap.size wr w2 := by rw [hg]; exact g.b
        clear hg g G0 G1 c0 d0
        go_wp2
        refine ⟨⟨k + 1, by omega, by simp, keep_below hbel hb2, fun j hj => ?_⟩, by simp [intOf]; omega⟩
        rcases Nat.lt_or_ge j k with h | h
        · exact HA.out j h
        · obtain rfl : j = k := by omega
          rw [HX.out, HY.out]; exact HE.out
      · have hr := HET.out k hlt (by rw [HX.out, HY.out]; exact he)
        subst hr
        have j3 : (x == y) = false := by rw [beq_eq_false_iff_ne]; exact he
        clear he
        go_wp2_with fail
        refine wp_region_grow (by kernel_rfl) (by kernel_rfl) ?_
        repeat (go_big_quiet_step (fail))
        refine wpQuiet_nil ?_
        rintro w2 ⟨g, hg⟩
        have hb2 : Below wr.heap.size wr w2 := by rw [hg]; exact g.b
        clear hg g G0 G1 c0 d0
        go_wp2
        go_ret
        exact ⟨by simp, keep_below hbel hb2⟩
    · obtain rfl : k = n := by omega
      have hr := HEF.out (fun j hj => HA.out j hj)
      subst hr
      have C1 := HC1.out wr hbel
      go_wp2_with (go_at_call 41; with_reducible refine C1.mono ?_; rintro e w1 ⟨rfl, hb1⟩)
      go_ret
      exact ⟨by simp, keep_below hbel hb1⟩

theorem run_mk_neq (a b c : Int) (w : World) : (binOp .neq 61 (mk a b c) (mk a b c)).run Try.prog w = .ok (.bool false) w := by
  go_simp

set_option maxRecDepth 100000 in
set_option maxHeartbeats 2000000 in
theorem sameMarks_any {M : List M3} {v1 v2 : Value} (w : World) (h1 : SlM w v1 M) (h2 : SlM w v2 M) (hl : M.length ≤ 1000) :
    Calls Try.prog 26 #[v1, v2] w fun e w' => e = .returned (.bool true) ∧ Below w.heap.size w w' := by
  obtain ⟨a1, c1, rfl, hl1, H1⟩ := h1
  obtain ⟨a2, c2, rfl, hl2, H2⟩ := h2
  have HC1 := Lib.hid H1
  have HC2 := Lib.hid H2
  clear H1 H2
  go_enter Try.func26, Try.ntmps26
  go_wp2_with fail
  go_loopw [5] (fun i wr => ∃ k : Nat, k ≤ M.length ∧ i = .int .i64 k ∧ Below w.heap.size w wr) (fun i _ => M.length - (intOf i).toNat)
  case atStart => exact ⟨0, Nat.zero_le _, rfl, Below.refl _ _⟩
  case round =>
    obtain ⟨k, hk, rfl, hbel⟩ := hrel
    by_cases hlt : k < M.length
    · have j1 : (k : Int) < (M.length : Int) := by omega
      obtain ⟨b1, o1, rfl, x0, x1, x2⟩ := HC1.out k hlt
      obtain ⟨b2, o2, rfl, y0, y1, y2⟩ := HC2.out k hlt
      have hq := run_mk_neq
      generalize (mq M k).x = a at x0 y0
      generalize (mq M k).y = b at x1 y1
      generalize (mq M k).z = c at x2 y2
      have G0 := grow_cell (keep_cell hbel x0)
      have G1 := grow_cell (keep_cell hbel x1)
      have G2 := grow_cell (keep_cell hbel x2)
      have G5 := grow_cell (keep_cell hbel y0)
      have G6 := grow_cell (keep_cell hbel y1)
      have G7 := grow_cell (keep_cell hbel y2)
      clear x0 x1 x2 y0 y1 y2
      go_wp2_with fail
      refine wp_region_grow (by kernel_rfl) (by kernel_rfl) ?_
      repeat (go_big_quiet_step (fail))
      refine wpQuiet_nil ?_
      rintro w4 ⟨z, hz⟩
      have hb : Below wr.heap.size wr w4 := by rw [hz]; exact z.b
      clear hz z G0 G1 G2 G5 G6 G7 hq
      have bel4 := keep_below hbel hb
      clear hb
      go_wp2
      exact ⟨⟨k + 1, by omega, by simp, bel4⟩, by simp [intOf]; omega⟩
    · obtain rfl : k = M.length := by omega
      go_wp2
      go_ret
      exact ⟨rfl, hbel⟩

end Go.Proofs.Ytiebbbeijlfedaa
