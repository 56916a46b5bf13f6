/- The abstract machine, part LV. -/
import Derived.ArgAppend
import Derived.Test.YtdohlggbeagedaaGreatLU
import Derived.Lib.AppendZeros
/- Walks: Clone of a row of numbers. -/
namespace Go.Proofs.YtdohlggbeagedaaGreat
open Go Go.RowKit Go.Proofs Go.Abs Go.Plain

/-- The numbers of a list, as cells. -/
def numL (s : Nat) (f : Nat → Nat) : List Value := (List.range s).map fun i => .int .i64 (f i : Nat)

theorem numL_one (s : Nat) (f : Nat → Nat) : ∀ u ∈ numL s f, u.oneCell' = true := by
  intro u hu
  unfold numL at hu
  simp at hu
  obtain ⟨i, _, rfl⟩ := hu
  rfl

theorem own_low {W : World} {b b' : Nat} {e : TypeId} {size n : Nat} {v : Value} {xs : List Value} (h : W.ownsRow b e size v n xs) (hb : b' ≤ b) : W.ownsRow b' e size v n xs :=
  ⟨h.1, h.2.imp id fun ⟨g, cap, cur, h1, h2, h3⟩ => ⟨g, cap, cur, h1, Nat.le_trans hb h2, h3⟩⟩

theorem run_nil_eql (a : Addr) (n c : Nat) (w : World) : (binOp .eql 74 (.slice (some a) n c) (.slice none 0 0)).run Tryz.prog w = .ok (.bool false) w := by
  kernel_rfl

end Go.Proofs.YtdohlggbeagedaaGreat

/- Walks: Clone, Reverse of points. -/
namespace Go.Proofs.YtdohlggbeagedaaGreat
open Go Go.RowKit Go.Proofs Go.Abs Go.Plain

theorem run_nil_eql32 (a : Addr) (n c : Nat) (w : World) : (binOp .eql 26 (.slice (some a) n c) (.slice none 0 0)).run Tryz.prog w = .ok (.bool false) w := by
  kernel_rfl

set_option maxRecDepth 100000 in
set_option maxHeartbeats 2000000 in
theorem pclone_any (b off cap : Nat) (L : Pl) (hs : 0 < L.length) (hs2 : L.length ≤ 1000000) (w : World) (hp : PtsAt w b off L) :
    Calls Tryz.prog 127 #[.slice (some ⟨b, off, none⟩) L.length cap] w fun e w' => ∃ v, e = .returned v ∧ w'.ownsRow w.heap.size 66 2 v L.length (ptCells L) ∧ Below w.heap.size w w' := by
  obtain ⟨i0, hi, hz0, hz1, hz2⟩ := info_parts info66
  have NE := run_nil_eql32 ⟨b, off, none⟩ L.length cap
  have hlen := ptCells_len L
  have HC := Lib.hid (fun o : Obj => pts_cells (hp.keep ((Below.refl _ _).alloc (Nat.le_refl _) o)))
  have HO := Lib.hid (ptCells_one L)
  obtain ⟨xs, hxs⟩ : ∃ xs, ptCells L = xs := ⟨_, rfl⟩
  rw [hxs] at hlen HC HO ⊢
  clear hxs hp
  obtain ⟨n, hn⟩ : ∃ n, L.length = n := ⟨_, rfl⟩
  rw [hn] at hs hs2 NE hlen ⊢
  clear hn
  go_enter Tryz.func127, Tryz.ntmps127
  go_wp2_with (at_builtin; refine wpList_append_grows _ rfl _ _ 26 rfl 66 i0 (pt 0 0) 2 16 Tryz.underlying26 hi hz0 hz1 hz2 rfl (by decide) _ 0 0 [] rfl (by simp) rfl (by simp) ⟨b, off, none⟩ n cap xs rfl hlen (HC.out _) HO.out (by omega) (by unfold maxLen; omega) (by omega) ?_; intro v' w' hown hgr)
  go_ret
  have hz : (w.alloc (Obj.cells #[] 66)).heap.size = w.heap.size + 1 := by simp
  refine ⟨v', rfl, ?_, ((Below.refl _ w).alloc (Nat.le_refl _) (Obj.cells #[] 66)).grown hgr (by omega) (fun k e => by cases e)⟩
  have := own_low hown (b' := w.heap.size) (by omega)
  simpa using this

theorem getD_ext {L M : Pl} (hl : L.length = M.length) (h : ∀ k, k < L.length → L.getD k (0, 0) = M.getD k (0, 0)) : L = M := by
  apply List.ext_getElem? 
  intro k
  by_cases hk : k < L.length
  · rw [getD_some hk, getD_some (by omega), h k hk]
  · rw [List.getElem?_eq_none (by omega), List.getElem?_eq_none (by omega)]

/-- The list of which k first and k last elements have changed places. -/
def revTo (L : Pl) (k : Nat) : Pl := (List.range L.length).map fun m => if m < k ∨ L.length - k ≤ m then L.getD (L.length - 1 - m) (0, 0) else L.getD m (0, 0)

theorem revTo_len (L : Pl) (k : Nat) : (revTo L k).length = L.length := by unfold revTo; simp

theorem revTo_get {L : Pl} {k m : Nat} (hm : m < L.length) : (revTo L k).getD m (0, 0) = if m < k ∨ L.length - k ≤ m then L.getD (L.length - 1 - m) (0, 0) else L.getD m (0, 0) := by
  unfold revTo
  rw [List.getD_eq_getElem?_getD, List.getElem?_map, List.getElem?_range hm]
  rfl

theorem revTo_zero (L : Pl) : revTo L 0 = L := getD_ext (revTo_len L 0) fun m hm => by
  rw [revTo_len] at hm
  rw [revTo_get hm, if_neg (by omega)]

theorem revTo_end {L : Pl} {k : Nat} (h : L.length ≤ 2 * k + 1) : revTo L k = L.reverse := getD_ext (by rw [revTo_len, List.length_reverse]) fun m hm => by
  rw [revTo_len] at hm
  rw [revTo_get hm, rev_getD hm]
  split
  · rfl
  · congr 1
    omega

theorem set_getD {L : Pl} {i k : Nat} {p : Int × Int} (hk : k < L.length) : (L.set i p).getD k (0, 0) = if i = k then p else L.getD k (0, 0) := by
  rw [List.getD_eq_getElem?_getD, List.getD_eq_getElem?_getD, List.getElem?_set]
  by_cases h : i = k
  · subst h
    simp [hk]
  · simp [h]

theorem revTo_succ {L : Pl} {k m : Nat} (h : m + k + 1 = L.length) (hkm : k < m) : ((revTo L k).set k ((revTo L k).getD m (0, 0))).set m ((revTo L k).getD k (0, 0)) = revTo L (k + 1) := by
  have hl := revTo_len L k
  refine getD_ext (by simp [revTo_len]) fun j hj => ?_
  simp only [List.length_set, hl] at hj
  rw [set_getD (by simpa [hl] using hj), set_getD (by simpa [hl] using hj), revTo_get hj, revTo_get (by omega), revTo_get (by omega), revTo_get hj]
  by_cases h1 : m = j
  · subst h1
    rw [if_pos rfl, if_neg (by omega), if_pos (by omega)]
    congr 1
    omega
  · rw [if_neg h1]
    by_cases h2 : k = j
    · subst h2
      rw [if_pos rfl, if_neg (by omega), if_pos (by omega)]
      congr 1
      omega
    · rw [if_neg h2]
      by_cases h3 : j < k ∨ L.length - k ≤ j
      · rw [if_pos h3, if_pos (by omega)]
      · rw [if_neg h3, if_neg (by omega)]

theorem ptCells_set (L : Pl) (k : Nat) (x y : Int) : ((ptCells L).set (k * 2) (.int .i64 x)).set (k * 2 + 1) (.int .i64 y) = ptCells (L.set k (x, y)) := by
  induction L generalizing k with
  | nil => rfl
  | cons p ps ih =>
    cases k with
    | zero => rfl
    | succ k =>
      rw [show (k + 1) * 2 = k * 2 + 1 + 1 by omega]
      simp only [ptCells, List.set_cons_succ]
      rw [ih k]

/-- A cell of a row of one's own is set. -/
theorem own_setCell {W : World} {base g n cap c : Nat} {e : TypeId} {size : Nat} {xs : List Value} (v : Value) (h : W.ownsRow base e size (.slice (some ⟨g, 0, none⟩) n cap) n xs) (_hc : c < n * size) :
    (W.setCell ⟨g, c, none⟩ v).ownsRow base e size (.slice (some ⟨g, 0, none⟩) n cap) n (xs.set c v) := by
  obtain ⟨h1, ⟨h2, _⟩ | ⟨g', cap', cur, e1, e2, e3, e4, e5, e6, e7⟩⟩ := h
  · cases h2
  · cases e1
    refine ⟨by simpa using h1, .inr ⟨g, cap, cur.setIfInBounds c v, rfl, e2, put_heap v e3, e4, e5, by simpa using e6, ?_⟩⟩
    rw [Array.toList_setIfInBounds, ← e7, List.take_set]

theorem own_frozen {W : World} {base g n cap c : Nat} {e : TypeId} {size : Nat} {xs : List Value} (h : W.ownsRow base e size (.slice (some ⟨g, 0, none⟩) n cap) n xs) : W.frozen? ⟨g, c, none⟩ = false := by
  obtain ⟨h1, ⟨h2, _⟩ | ⟨g', cap', cur, e1, e2, e3, e4, e5, e6, e7⟩⟩ := h
  · cases h2
  · cases e1
    exact thaw_at e3

theorem own_pts {W : World} {base g cap : Nat} {L : Pl} (h : W.ownsRow base 66 2 (.slice (some ⟨g, 0, none⟩) L.length cap) L.length (ptCells L)) (k : Nat) (hk : k < L.length) :
    W.cell? ⟨g, k * 2, none⟩ = some (.int .i64 (px L k)) ∧ W.cell? ⟨g, k * 2 + 1, none⟩ = some (.int .i64 (py L k)) := by
  obtain ⟨h1, h2⟩ := ptCells_get L k hk
  have c1 := World.ownsRow.cells (g := g) h rfl _ _ h1
  have c2 := World.ownsRow.cells (g := g) h rfl _ _ h2
  rw [Addr.add_lit, Nat.zero_add] at c1 c2
  exact ⟨c1, c2⟩

/-- Two points of a row of one's own change their values. -/
theorem own_swap {W : World} {base g cap k m : Nat} {L : Pl} (a b c d : Int) (h : W.ownsRow base 66 2 (.slice (some ⟨g, 0, none⟩) L.length cap) L.length (ptCells L)) (hk : k < L.length) (hm : m < L.length) :
    ((((W.setCell ⟨g, k * 2, none⟩ (.int .i64 a)).setCell ⟨g, k * 2 + 1, none⟩ (.int .i64 b)).setCell ⟨g, m * 2, none⟩ (.int .i64 c)).setCell ⟨g, m * 2 + 1, none⟩ (.int .i64 d)).ownsRow base 66 2 (.slice (some ⟨g, 0, none⟩) L.length cap) L.length (ptCells ((L.set k (a, b)).set m (c, d))) := by
  have := own_setCell (.int .i64 d) (own_setCell (.int .i64 c) (own_setCell (.int .i64 b) (own_setCell (.int .i64 a) h (c := k * 2) (by omega)) (c := k * 2 + 1) (by omega)) (c := m * 2) (by omega)) (c := m * 2 + 1) (by omega)
  rwa [ptCells_set, ptCells_set] at this

theorem grown_set4 {W : World} {g a b c d : Nat} (p q r s : Value) : W.grownBy ((((W.setCell ⟨g, a, none⟩ p).setCell ⟨g, b, none⟩ q).setCell ⟨g, c, none⟩ r).setCell ⟨g, d, none⟩ s) (some g) :=
  (((grownBy_set W g a p).trans (grownBy_set _ g b q)).trans (grownBy_set _ g c r)).trans (grownBy_set _ g d s)

theorem grown_drew {W X : World} {row : Option Nat} (h : W.grownBy X row) : W.grownBy (X.drewN 1) row := ⟨h.os, h.tape, h.output, h.size, h.block⟩

set_option maxRecDepth 100000 in
set_option maxHeartbeats 2000000 in
theorem reverse_any (base g cap : Nat) (L : Pl) (hs2 : L.length ≤ 1000000) (w : World) (ho : w.ownsRow base 66 2 (.slice (some ⟨g, 0, none⟩) L.length cap) L.length (ptCells L)) :
    Calls Tryz.prog 128 #[.slice (some ⟨g, 0, none⟩) L.length cap] w fun e w' => e = .returned (.tuple #[]) ∧ w'.ownsRow base 66 2 (.slice (some ⟨g, 0, none⟩) L.length cap) L.length (ptCells L.reverse) ∧ w.grownBy w' (some g) := by
  go_enter Tryz.func128, Tryz.ntmps128
  go_wp2_with fail
  go_loopw [2, 3] (fun i j wr => ∃ (k : Nat) (j' : Int), i = .int .i64 k ∧ j = .int .i64 j' ∧ j' + k + 1 = L.length ∧ 2 * k ≤ L.length ∧ wr.ownsRow base 66 2 (.slice (some ⟨g, 0, none⟩) L.length cap) L.length (ptCells (revTo L k)) ∧ w.grownBy wr (some g)) (fun i _ _ => L.length - (intOf i).toNat)
  case atStart => exact ⟨0, _, rfl, rfl, by omega, by omega, by rw [revTo_zero]; exact ho, World.grownBy.refl _ _⟩
  case round =>
    obtain ⟨k, j, rfl, rfl, hjk, hk2, hown, hg⟩ := hrel
    have hl := revTo_len L k
    by_cases hlt : (k : Int) < j
    · obtain ⟨m, rfl⟩ : ∃ m : Nat, j = (m : Int) := ⟨j.toNat, by omega⟩
      have HS := Lib.hid (revTo_succ (L := L) (k := k) (m := m) (by omega) (by omega))
      have hown' := hown
      rw [← hl] at hown'
      obtain ⟨c0, c1⟩ := own_pts hown' k (by omega)
      obtain ⟨c2, c3⟩ := own_pts hown' m (by omega)
      have z0 := own_frozen (c := k * 2) hown
      have z1 := own_frozen (c := k * 2 + 1) hown
      have z2 := own_frozen (c := m * 2) hown
      have z3 := own_frozen (c := m * 2 + 1) hown
      have HW := Lib.hid (fun a b c d => own_swap (k := k) (m := m) a b c d hown' (by omega) (by omega))
      have HP : Hid ((revTo L k).getD m (0, 0) = (px (revTo L k) m, py (revTo L k) m) ∧ (revTo L k).getD k (0, 0) = (px (revTo L k) k, py (revTo L k) k)) := Lib.hid ⟨rfl, rfl⟩
      have j1 : (k : Int) < (L.length : Int) := by omega
      have j2 : (m : Int) < (L.length : Int) := by omega
      have j3 : k < m := by omega
      clear hown hown'
      generalize px (revTo L k) k = x0, py (revTo L k) k = y0, px (revTo L k) m = x1, py (revTo L k) m = y1 at *
      go_wp2_with fail
      go_region
      have HN := HW.out x1 y1 x0 y0
      rw [← HP.out.1, ← HP.out.2, HS.out, hl] at HN
      have hg2 := hg.trans (grown_set4 (W := wr) (g := g) (a := k * 2) (b := k * 2 + 1) (c := m * 2) (d := m * 2 + 1) (.int .i64 x1) (.int .i64 y1) (.int .i64 x0) (.int .i64 y0))
      have HN2 := Lib.hid (owns_drew 1 HN)
      have HG2 := Lib.hid (grown_drew hg2)
      clear HN hg2 c0 c1 c2 c3 z0 z1 z2 z3 HS HW HP
      go_wp2
      refine ⟨⟨k + 1, (m : Int) - 1, by simp, rfl, by omega, by omega, HN2.out, HG2.out⟩, by simp [intOf]; omega⟩
    · have hend := revTo_end (L := L) (k := k) (by omega)
      rw [hend] at hown
      go_wp2
      refine bodyPost_end (results_none rfl _ _ _) rfl ⟨rfl, hown, hg⟩

end Go.Proofs.YtdohlggbeagedaaGreat

/- Walks: Grow, Concat of two slices of points. -/
namespace Go.Proofs.YtdohlggbeagedaaGreat
open Go Go.RowKit Go.Proofs Go.Abs Go.Plain

set_option maxRecDepth 100000 in
set_option maxHeartbeats 2000000 in
theorem grow_any (n : Nat) (h0 : 0 < n) (hn : n ≤ 1000000) (w : World) :
    Calls Tryz.prog 155 #[.slice none 0 0, .int .i64 n] w fun e w' => ∃ v, e = .returned v ∧ w'.ownsRow w.heap.size 66 2 v 0 [] ∧ Below w.heap.size w w' := by
  obtain ⟨i0, hi, hz0, hz1, hz2⟩ := info_parts info66
  have j0 : (0 : Int) < (n : Int) := by omega
  have j1 : ¬ (n : Int) < 0 := by omega
  go_enter Tryz.func155, Tryz.ntmps155
  have HG := Lib.hid (grownCap_ge w n 0 66)
  have HM := Lib.hid (grownCap_le_maxLen w n 0 66 (by unfold maxLen; omega))
  have R := fun ty => Lib.run_append_nil_zeros w 26 3 ty 66 i0 (pt 0 0) .i64 .i64 Tryz.underlying26 Tryz.underlying3 hi hz0 n h0 (by rw [hz1]; omega) (by omega) (by rw [hz2]; omega)
  have HZ := Lib.hid (size_zeroCells (pt 0 0).cells)
  obtain ⟨c, hc⟩ : ∃ c, grownCap w n 0 66 = c := ⟨_, rfl⟩
  rw [hc] at HG HM
  simp only [hc] at R
  have hcz : 0 ≤ c := Nat.zero_le _
  clear hc
  obtain ⟨cs, hcs⟩ : ∃ cs, Builtin.zeroCells (pt 0 0).cells n ++ Builtin.zeroCells (pt 0 0).cells (c - n) = cs := ⟨_, rfl⟩
  have hcl : Hid (cs.size = c * 2) := Lib.hid (by
    rw [← hcs, Array.size_append, HZ.out, HZ.out]
    show n * 2 + (c - n) * 2 = c * 2
    have := HG.out
    omega)
  rw [hcs] at R
  clear hcs
  go_wp2_with (at_builtin; refine Lib.wpList_append_run _ rfl _ _ _ _ rfl _ _ rfl rfl _ _ (R _) ?_)
  go_ret
  have hb : Below w.heap.size w (w.drew.alloc (.cells cs 66)) := (below_drewN (Below.refl _ w) 1).alloc (Nat.le_refl _) _
  refine ⟨_, rfl, ⟨rfl, .inr ⟨w.heap.size, c, cs, rfl, Nat.le_refl _, World.alloc_heap_new w.drew _, Nat.zero_le _, HM.out, hcl.out, ?_⟩⟩, hb⟩
  rw [Nat.zero_mul, List.take_zero]

end Go.Proofs.YtdohlggbeagedaaGreat

/- Walks: Concat of two slices of points. -/
namespace Go.Proofs.YtdohlggbeagedaaGreat
open Go Go.RowKit Go.Proofs Go.Abs Go.Plain

set_option maxRecDepth 100000 in
set_option maxHeartbeats 4000000 in
theorem concat_any (h ca cb bA oA bB oB : Nat) (LA LB : Pl) (hA : 0 < LA.length) (hl : LA.length + LB.length ≤ 1000) (w : World) (c0 : w.cell? ⟨h, 0, none⟩ = some (.slice (some ⟨bA, oA, none⟩) LA.length ca)) (c1 : w.cell? ⟨h, 1, none⟩ = some (.slice (some ⟨bB, oB, none⟩) LB.length cb))
    (pA : PtsAt w bA oA LA) (pB : PtsAt w bB oB LB) :
    Calls Tryz.prog 129 #[.slice (some ⟨h, 0, none⟩) 2 2] w fun e w' => ∃ v, e = .returned v ∧ w'.ownsRow w.heap.size 66 2 v (LA.length + LB.length) (ptCells (LA ++ LB)) ∧ Below w.heap.size w w' := by
  obtain ⟨i0, hi, hz0, hz1, hz2⟩ := info_parts info66
  have HA := Lib.hid (fun x : Grow w => pts_cells (pA.keep x.b))
  have HB := Lib.hid (fun x : Grow w => pts_cells (pB.keep x.b))
  have H1 := Lib.hid (And.intro (ptCells_one LA) (ptCells_one LB))
  have L1 := ptCells_len LA
  have L2 := ptCells_len LB
  have HC := Lib.hid (ptCells_append LA LB)
  obtain ⟨xa, hxa⟩ : ∃ xs, ptCells LA = xs := ⟨_, rfl⟩
  obtain ⟨xb, hxb⟩ : ∃ xs, ptCells LB = xs := ⟨_, rfl⟩
  rw [hxa, hxb] at HC
  rw [hxa] at HA H1 L1
  rw [hxb] at HB H1 L2
  obtain ⟨xc, hxc⟩ : ∃ xs, ptCells (LA ++ LB) = xs := ⟨_, rfl⟩
  rw [hxc] at HC ⊢
  clear hxa hxb hxc pA pB
  obtain ⟨na, hna⟩ : ∃ n, LA.length = n := ⟨_, rfl⟩
  obtain ⟨nb, hnb⟩ : ∃ n, LB.length = n := ⟨_, rfl⟩
  rw [hna] at hA hl c0 L1 ⊢
  rw [hnb] at hl c1 L2 ⊢
  clear hna hnb
  have hG : ∀ w', Calls Tryz.prog 155 #[.slice none 0 0, .int .i64 ((na + nb : Nat) : Int)] w' fun e w'' => ∃ v, e = .returned v ∧ w''.ownsRow w'.heap.size 66 2 v 0 [] ∧ Below w'.heap.size w' w'' := fun w' => grow_any (na + nb) (by omega) (by omega) w'
  obtain ⟨nt, hnt⟩ : ∃ n, na + nb = n := ⟨_, rfl⟩
  rw [hnt] at hG hl ⊢
  go_enter Tryz.func129, Tryz.ntmps129
  go_wp2_with fail
  go_loopw [3, 11] (fun s i wr => w = wr ∧ ((s = .int .i64 0 ∧ i = .int .i64 0) ∨ (s = .int .i64 na ∧ i = .int .i64 1) ∨ (s = .int .i64 nt ∧ i = .int .i64 2))) (fun _ i _ => 2 - (intOf i).toNat)
  case atStart => exact ⟨rfl, .inl ⟨rfl, rfl⟩⟩
  case round =>
    obtain ⟨rfl, ⟨rfl, rfl⟩ | ⟨rfl, rfl⟩ | ⟨rfl, rfl⟩⟩ := hrel
    · have j1 : ¬ (na : Int) < 0 := by omega
      go_wp2
      exact ⟨⟨by simp, .inr (.inl ⟨by simp, by simp⟩)⟩, by simp [intOf]⟩
    · have j1 : ¬ (nt : Int) < 0 := by omega
      have j2 : (na : Int) + (nb : Int) = (nt : Int) := by omega
      have j3 : ¬ (na : Int) + (nb : Int) < 0 := by omega
      go_wp2
      exact ⟨⟨by simp, .inr (.inr ⟨by simp, by simp⟩)⟩, by simp [intOf]⟩
    · go_wp2_with fail
      refine (hG _).mono ?_
      rintro e w1 ⟨v0, rfl, ho0, hb0⟩
      go_wp2_with fail
      go_loopw [6, 27] (fun v i wr => Below wr.heap.size wr wr ∧ Below w.heap.size w wr ∧ ((i = .int .i64 0 ∧ wr.ownsRow w.heap.size 66 2 v 0 []) ∨ (i = .int .i64 1 ∧ wr.ownsRow w.heap.size 66 2 v na xa) ∨ (i = .int .i64 2 ∧ wr.ownsRow w.heap.size 66 2 v nt xc))) (fun _ i _ => 2 - (intOf i).toNat)
      case atStart => exact ⟨Below.refl _ _, hb0, .inl ⟨rfl, ho0⟩⟩
      case round =>
        clear hG ho0 hb0
        obtain ⟨-, hbel, ⟨rfl, hown⟩ | ⟨rfl, hown⟩ | ⟨rfl, hown⟩⟩ := hrel
        · have k0 := keep_cell hbel c0
          have HA2 := HA.out ⟨_, hbel⟩
          have hsz := hbel.size
          go_wp2_with (at_builtin; refine wpList_append_own _ rfl _ _ 26 rfl w.heap.size 66 i0 (pt 0 0) 2 16 Tryz.underlying26 hi hz0 hz1 hz2 rfl (by decide) _ _ _ rfl hown ⟨bA, oA, none⟩ na ca xa rfl L1 HA2 H1.out.1 (by unfold maxLen; omega) (by omega) hsz ?_; intro v6 w6 hown6 hg6 _)
          refine ⟨⟨Below.refl _ _, hbel.grown hg6 hsz (fun j e => (hown.lt j e).1), .inr (.inl ⟨by simp, by simpa using hown6⟩)⟩, by simp [intOf]⟩
        · have k1 := keep_cell hbel c1
          have HB2 := HB.out ⟨_, hbel⟩
          have hsz := hbel.size
          go_wp2_with (at_builtin; refine wpList_append_own _ rfl _ _ 26 rfl w.heap.size 66 i0 (pt 0 0) 2 16 Tryz.underlying26 hi hz0 hz1 hz2 rfl (by decide) _ _ _ rfl hown ⟨bB, oB, none⟩ nb cb xb rfl L2 HB2 H1.out.2 (by unfold maxLen; omega) (by omega) hsz ?_; intro v6 w6 hown6 hg6 _)
          refine ⟨⟨Below.refl _ _, hbel.grown hg6 hsz (fun j e => (hown.lt j e).1), .inr (.inr ⟨by simp, by rw [HC.out, ← hnt]; exact hown6⟩)⟩, by simp [intOf]⟩
        · go_wp2
          go_ret
          exact ⟨_, rfl, hown, hbel⟩

end Go.Proofs.YtdohlggbeagedaaGreat
