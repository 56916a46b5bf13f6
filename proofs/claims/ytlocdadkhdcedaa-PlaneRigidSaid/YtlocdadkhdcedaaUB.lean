/- The abstract machine, part UB. -/
import Derived.Test.YtlocdadkhdcedaaUA
import Derived.Test.YtlocdadkhdcedaaMF
import Derived.Test.YtlocdadkhdcedaaMH
import Derived.Test.YtlocdadkhdcedaaKD
/- Moves of outlines: what Move returns is an outline, congruent by the setting; the inverse, the composed motion (plain). -/
namespace Go.Proofs.Ytlocdadkhdcedaa
open Go Go.RowKit Go.Proofs

/-- What a list is moved to. -/
def mvQ (b : Bool) (t : Nat) (x y : Int) (L : Pl) : Pl := placeL (turnL b (mvL b t x y L))
/-- The number of the least of the moved ones. -/
def mvM (b : Bool) (t : Nat) (x y : Int) (L : Pl) : Nat := leastK (px (turnL b (mvL b t x y L))) (py (turnL b (mvL b t x y L))) L.length

section
variable {b : Bool} {t : Nat} {x y : Int} {L : Pl}

theorem mvT_len : (turnL b (mvL b t x y L)).length = L.length := by rw [turnL_len, mvL_len]
theorem mvQ_len : (mvQ b t x y L).length = L.length := by unfold mvQ; rw [placeL_len, mvT_len]

theorem mvM_lt (h : 0 < L.length) : mvM b t x y L < L.length := leastK_lt _ _ _ h

theorem mvQ_rot : mvQ b t x y L = rotL (mvM b t x y L) (turnL b (mvL b t x y L)) := by
  unfold mvQ mvM placeL
  rw [mvT_len]

theorem mvQ_getM (h : 0 < L.length) {j : Nat} (hj : j < L.length) : (mvQ b t x y L).getD j (0, 0) = (mvL b t x y L).getD (sg b L.length (mvM b t x y L) j) (0, 0) := by
  rw [mvQ_rot, place_sg (by rw [mvL_len]; exact mvM_lt h) (by rw [mvL_len]; exact hj), mvL_len]

theorem mvQ_lies (h : 0 < L.length) : Lies b (mvP b t x y) (mvM b t x y L) L (mvQ b t x y L) where
  len := mvQ_len
  rig := rig_mv b t x y
  lt := mvM_lt h
  get j hj := by rw [mvQ_getM h hj, getD_map (sg_lt h)]

theorem mvT_apart (h : Apart L) : Apart (turnL b (mvL b t x y L)) := (h.mv b t x y).turn b

theorem mvQ_pts (h : 0 < L.length) (hv : vPts (mvL b t x y L) = true) : vPts (mvQ b t x y L) = true := by
  rw [vPts_iff] at hv ⊢
  intro k hk
  rw [mvQ_len] at hk
  rw [mvQ_getM h hk]
  exact hv _ (by rw [mvL_len]; exact sg_lt h)

theorem mvQ_sum (h : 0 < L.length) : sumL (mvQ b t x y L) = sumL L := by
  rw [mvQ_rot]
  exact sumL_Q b t x y (mvM_lt h)

theorem mvQ_least (h : 0 < L.length) (hA : Apart L) : leastK (px (mvQ b t x y L)) (py (mvQ b t x y L)) (mvQ b t x y L).length = 0 :=
  least_place (mvT_apart hA) (by rw [mvT_len]; exact h)

theorem mvQ_out (hL : vOut L = true) (hv : vPts (mvL b t x y L) = true) : vOut (mvQ b t x y L) = true := by
  have h3 := (vOut_n hL).1
  have h0 : 0 < L.length := by omega
  exact (mvQ_lies h0).out hL (mvQ_pts h0 hv) (mvQ_sum h0) (mvQ_least h0 (vOut_apart hL))

/-- The setting lays a corner where it has gone. -/
theorem sg_lay {n m i : Nat} (hm : m < n) (hi : i < n) (h2 : 2 ≤ n) : shiftS b n m < n ∧ sg b n m (layN n (shiftS b n m) b i) = i := by
  have hs : shiftS b n m < n := by unfold shiftS; split <;> exact Nat.mod_lt _ (by omega)
  refine ⟨hs, ?_⟩
  have hl := layN_lt (b := b) hs hi
  have e := layN_int (b := b) hs hi
  obtain ⟨N, hN⟩ : ∃ N, layN n (shiftS b n m) b i = N := ⟨_, rfl⟩
  rw [hN] at hl e ⊢
  cases b
  · have hS : shiftS false n m = if n - m < n then n - m else n - m - n := mod2 (by omega)
    unfold layI Plain.ed at e
    simp only [Bool.false_eq_true, if_false] at e
    show (N + m) % n = i
    rw [mod2 (by omega)]
    split at hS <;> split at e <;> split <;> omega
  · have hS : shiftS true n m = if 2 * n - 2 - m < n then 2 * n - 2 - m else 2 * n - 2 - m - n := mod2 (by omega)
    unfold layI Plain.ed at e
    simp only [if_true] at e
    show n - 1 - (N + m) % n = i
    rw [mod2 (by omega)]
    split at hS <;> split at e <;> (try split at e) <;> split <;> omega

/-- The setting that Move tells is one of those by which both are congruent. -/
theorem mvQ_sett (hL : vOut L = true) (hv : vPts (mvL b t x y L) = true) : (shiftS b L.length (mvM b t x y L), b) ∈ settV L (mvQ b t x y L) := by
  have h3 := (vOut_n hL).1
  have h0 : 0 < L.length := by omega
  have hQ := mvQ_out hL hv
  have hl := mvQ_lies (b := b) (t := t) (x := x) (y := y) h0
  obtain ⟨m, hm⟩ : ∃ m, mvM b t x y L = m := ⟨_, rfl⟩
  rw [hm] at hl ⊢
  have hml := hl.lt
  unfold settV
  rw [if_pos ⟨hL, hQ, mvQ_len.symm⟩, mem_settL]
  refine ⟨(sg_lay (i := 0) hml h0 (by omega)).1, cong_mk (fun i hi => ?_) (fun i k hi hk => ?_)⟩
  · have h1 := sg_lay (b := b) hml hi (by omega)
    rw [hl.bend (layN_lt h1.1 hi), h1.2]
  · have h1 := sg_lay (b := b) hml hi (by omega)
    have h2 := sg_lay (b := b) hml hk (by omega)
    show sqr (L.getD i (0, 0)) (L.getD k (0, 0)) = sqr ((mvQ b t x y L).getD _ (0, 0)) ((mvQ b t x y L).getD _ (0, 0))
    rw [hl.get _ (layN_lt h1.1 hi), hl.get _ (layN_lt h2.1 hk), h1.2, h2.2, hl.rig.sqr]

end

/-! ### motions -/
theorem mv_inv {t : Int} {b : Bool} {x y : Int} (h0 : 0 ≤ t) (h3 : t ≤ 3) (p : Int × Int) : mvP b (invT t b).toNat (-(invP t b x y).1) (-(invP t b x y).2) (mvP b t.toNat x y p) = p := by
  have : t = 0 ∨ t = 1 ∨ t = 2 ∨ t = 3 := by omega
  obtain ⟨p1, p2⟩ := p
  rcases this with rfl | rfl | rfl | rfl <;> cases b <;> simp [invP, invT, mvP, tn, rt, mir] <;> omega

theorem mv_mv {t1 t2 : Int} {b1 b2 : Bool} {x1 y1 x2 y2 : Int} (h0 : 0 ≤ t1) (h3 : t1 ≤ 3) (k0 : 0 ≤ t2) (k3 : t2 ≤ 3) (p : Int × Int) :
    mvP b2 t2.toNat x2 y2 (mvP b1 t1.toNat x1 y1 p) = mvP (b1 != b2) (comT t1 t2 b2).toNat (mvP b2 t2.toNat x2 y2 (x1, y1)).1 (mvP b2 t2.toNat x2 y2 (x1, y1)).2 p := by
  have h1 : t1 = 0 ∨ t1 = 1 ∨ t1 = 2 ∨ t1 = 3 := by omega
  have h2 : t2 = 0 ∨ t2 = 1 ∨ t2 = 2 ∨ t2 = 3 := by omega
  obtain ⟨p1, p2⟩ := p
  rcases h1 with rfl | rfl | rfl | rfl <;> rcases h2 with rfl | rfl | rfl | rfl <;> cases b1 <;> cases b2 <;> simp [comT, mvP, tn, rt, mir] <;> omega

theorem place_idx {A B : Pl} (hA : Apart A) (h0 : 0 < A.length) (hl : B.length = A.length) (a : Nat) (h : ∀ j, j < A.length → B.getD j (0, 0) = A.getD ((j + a) % A.length) (0, 0)) :
    leastK (px A) (py A) A.length = (leastK (px B) (py B) A.length + a) % A.length := by
  have hmB := leastL_lt (L := B) (by omega)
  rw [hl] at hmB
  refine least_only hA (Nat.mod_lt _ h0) fun k hk => ?_
  have hB := leastL_min B (k := (k + (A.length - a % A.length)) % A.length) (by rw [hl]; exact Nat.mod_lt _ h0)
  rw [h _ (Nat.mod_lt _ h0), hl, h _ hmB] at hB
  have hk2 : ((k + (A.length - a % A.length)) % A.length + a) % A.length = k := by
    have ha : a % A.length < A.length := Nat.mod_lt _ h0
    rw [Nat.mod_add_mod, ← Nat.add_mod_mod, show k + (A.length - a % A.length) + a % A.length = k + A.length by omega, Nat.add_mod_right, Nat.mod_eq_of_lt hk]
  rw [hk2] at hB
  exact hB

theorem rev_idx {n m j : Nat} (hj : j < n) (hm : m < n) : n - 1 - (n - 1 - j + m) % n = (j + (n - m)) % n := by
  rw [mod2 (a := n - 1 - j + m) (by omega), mod2 (a := j + (n - m)) (by omega)]
  split <;> split <;> omega

section
variable {b : Bool} {L : Pl} {t : Int} {x y : Int}

/-- The inverse's list. -/
theorem back_get (hL : 0 < L.length) (h0 : 0 ≤ t) (h3 : t ≤ 3) {j : Nat} (hj : j < L.length) :
    (mvL b (invT t b).toNat (-(invP t b x y).1) (-(invP t b x y).2) (mvQ b t.toNat x y L)).getD j (0, 0) = L.getD (sg b L.length (mvM b t.toNat x y L) j) (0, 0) := by
  rw [getD_map (by rw [mvQ_len]; exact hj), (mvQ_lies hL).get j hj, mv_inv h0 h3]

theorem back_pts (hL : vOut L = true) (h0 : 0 ≤ t) (h3 : t ≤ 3) : vPts (mvL b (invT t b).toNat (-(invP t b x y).1) (-(invP t b x y).2) (mvQ b t.toNat x y L)) = true := by
  obtain ⟨l3, -, hv⟩ := vOut_n hL
  rw [vPts_iff] at hv ⊢
  intro k hk
  rw [mvL_len, mvQ_len] at hk
  rw [back_get (by omega) h0 h3 hk]
  exact hv _ (sg_lt (by omega))

theorem back_turn (hL : 0 < L.length) (h0 : 0 ≤ t) (h3 : t ≤ 3) {j : Nat} (hj : j < L.length) :
    (turnL b (mvL b (invT t b).toNat (-(invP t b x y).1) (-(invP t b x y).2) (mvQ b t.toNat x y L))).getD j (0, 0) = L.getD ((j + (if b then L.length - mvM b t.toNat x y L else mvM b t.toNat x y L)) % L.length) (0, 0) := by
  have hm := mvM_lt (b := b) (t := t.toNat) (x := x) (y := y) hL
  cases b
  · exact back_get hL h0 h3 hj
  · show (mvL true _ _ _ _).reverse.getD j (0, 0) = _
    rw [rev_getD (by rw [mvL_len, mvQ_len]; exact hj), mvL_len, mvQ_len, back_get hL h0 h3 (by omega)]
    congr 1
    exact rev_idx hj hm

theorem back_list (hL : vOut L = true) (h0 : 0 ≤ t) (h3 : t ≤ 3) : mvQ b (invT t b).toNat (-(invP t b x y).1) (-(invP t b x y).2) (mvQ b t.toNat x y L) = L := by
  have l3 := (vOut_n hL).1
  show placeL (turnL b (mvL b (invT t b).toNat (-(invP t b x y).1) (-(invP t b x y).2) (mvQ b t.toNat x y L))) = L
  rw [place_same (A := L) (vOut_apart hL) (by rw [mvT_len, mvQ_len]) _ (fun j hj => back_turn (by omega) h0 h3 hj), place_out (vOut_iff.1 hL).2.2.2.2.2.1]

/-- The inverse's setting. -/
theorem back_shift (hL : vOut L = true) (h0 : 0 ≤ t) (h3 : t ≤ 3) :
    ((shiftS b L.length (mvM b (invT t b).toNat (-(invP t b x y).1) (-(invP t b x y).2) (mvQ b t.toNat x y L)) : Nat) : Int) = Plain.inv (shiftS b L.length (mvM b t.toNat x y L) : Nat) b L.length := by
  have l3 := (vOut_n hL).1
  have hl : (turnL b (mvL b (invT t b).toNat (-(invP t b x y).1) (-(invP t b x y).2) (mvQ b t.toNat x y L))).length = L.length := by rw [mvT_len, mvQ_len]
  have e := place_idx (A := L) (vOut_apart hL) (by omega) hl _ (fun j hj => back_turn (by omega) h0 h3 hj)
  rw [(vOut_iff.1 hL).2.2.2.2.2.1] at e
  have hm := mvM_lt (b := b) (t := t.toNat) (x := x) (y := y) (L := L) (by omega)
  have hm' := mvM_lt (b := b) (t := (invT t b).toNat) (x := -(invP t b x y).1) (y := -(invP t b x y).2) (L := mvQ b t.toNat x y L) (by rw [mvQ_len]; omega)
  rw [mvQ_len] at hm'
  have e' : 0 = (mvM b (invT t b).toNat (-(invP t b x y).1) (-(invP t b x y).2) (mvQ b t.toNat x y L) + (if b then L.length - mvM b t.toNat x y L else mvM b t.toNat x y L)) % L.length := by
    have : mvM b (invT t b).toNat (-(invP t b x y).1) (-(invP t b x y).2) (mvQ b t.toNat x y L) = leastK (px (turnL b (mvL b (invT t b).toNat (-(invP t b x y).1) (-(invP t b x y).2) (mvQ b t.toNat x y L)))) (py (turnL b (mvL b (invT t b).toNat (-(invP t b x y).1) (-(invP t b x y).2) (mvQ b t.toNat x y L)))) L.length := by
      unfold mvM
      rw [mvQ_len]
    rw [this]
    exact e
  clear e
  generalize mvM b (invT t b).toNat (-(invP t b x y).1) (-(invP t b x y).2) (mvQ b t.toNat x y L) = m' at *
  generalize mvM b t.toNat x y L = m at *
  generalize L.length = n at *
  cases b
  · have hS : shiftS false n m = if n - m < n then n - m else n - m - n := mod2 (by omega)
    have hS' : shiftS false n m' = if n - m' < n then n - m' else n - m' - n := mod2 (by omega)
    simp only [Bool.false_eq_true, if_false] at e'
    rw [mod2 (by omega)] at e'
    unfold Plain.inv
    simp only [Bool.false_eq_true, if_false]
    split at hS <;> split at hS' <;> split at e' <;> split <;> omega
  · simp only [if_true] at e'
    rw [mod2 (by omega)] at e'
    have : m' = m := by split at e' <;> omega
    subst this
    rfl

end

section
variable {b1 b2 : Bool} {L : Pl} {t1 t2 : Int} {x1 y1 x2 y2 : Int}

/-- The composed motion. -/
abbrev coL (t1 : Int) (b1 : Bool) (x1 y1 : Int) (t2 : Int) (b2 : Bool) (x2 y2 : Int) (L : Pl) : Pl :=
  mvL (b1 != b2) (comT t1 t2 b2).toNat (mvP b2 t2.toNat x2 y2 (x1, y1)).1 (mvP b2 t2.toNat x2 y2 (x1, y1)).2 L

theorem two_get (hL : 0 < L.length) (h0 : 0 ≤ t1) (h3 : t1 ≤ 3) (k0 : 0 ≤ t2) (k3 : t2 ≤ 3) {j : Nat} (hj : j < L.length) :
    (mvL b2 t2.toNat x2 y2 (mvQ b1 t1.toNat x1 y1 L)).getD j (0, 0) = (coL t1 b1 x1 y1 t2 b2 x2 y2 L).getD (sg b1 L.length (mvM b1 t1.toNat x1 y1 L) j) (0, 0) := by
  rw [getD_map (by rw [mvQ_len]; exact hj), (mvQ_lies hL).get j hj, mv_mv h0 h3 k0 k3, getD_map (sg_lt hL)]

theorem two_pts (hL : 0 < L.length) (h0 : 0 ≤ t1) (h3 : t1 ≤ 3) (k0 : 0 ≤ t2) (k3 : t2 ≤ 3) (hv : vPts (mvL b2 t2.toNat x2 y2 (mvQ b1 t1.toNat x1 y1 L)) = true) : vPts (coL t1 b1 x1 y1 t2 b2 x2 y2 L) = true := by
  rw [vPts_iff] at hv ⊢
  intro k hk
  rw [mvL_len] at hk
  obtain ⟨j, hj, e⟩ := sg_onto (b := b1) hk (mvM_lt (b := b1) (t := t1.toNat) (x := x1) (y := y1) hL)
  have := hv j (by rw [mvL_len, mvQ_len]; exact hj)
  rw [two_get hL h0 h3 k0 k3 hj, e] at this
  exact this

theorem two_list (hL : vOut L = true) (h0 : 0 ≤ t1) (h3 : t1 ≤ 3) (k0 : 0 ≤ t2) (k3 : t2 ≤ 3) :
    mvQ b2 t2.toNat x2 y2 (mvQ b1 t1.toNat x1 y1 L) = mvQ (b1 != b2) (comT t1 t2 b2).toNat (mvP b2 t2.toNat x2 y2 (x1, y1)).1 (mvP b2 t2.toNat x2 y2 (x1, y1)).2 L := by
  have l3 := (vOut_n hL).1
  have hm := mvM_lt (b := b1) (t := t1.toNat) (x := x1) (y := y1) (L := L) (by omega)
  have G := fun j (hj : j < L.length) => two_get (b1 := b1) (b2 := b2) (x1 := x1) (y1 := y1) (x2 := x2) (y2 := y2) (L := L) (by omega) h0 h3 k0 k3 hj
  show placeL (turnL b2 (mvL b2 t2.toNat x2 y2 (mvQ b1 t1.toNat x1 y1 L))) = placeL (turnL (b1 != b2) (coL t1 b1 x1 y1 t2 b2 x2 y2 L))
  have hlA : (coL t1 b1 x1 y1 t2 b2 x2 y2 L).length = L.length := mvL_len ..
  have hlB : (mvL b2 t2.toNat x2 y2 (mvQ b1 t1.toNat x1 y1 L)).length = L.length := by rw [mvL_len, mvQ_len]
  have hA : Apart (coL t1 b1 x1 y1 t2 b2 x2 y2 L) := (vOut_apart hL).mv _ _ _ _
  generalize coL t1 b1 x1 y1 t2 b2 x2 y2 L = A at *
  generalize mvL b2 t2.toNat x2 y2 (mvQ b1 t1.toNat x1 y1 L) = B at *
  generalize mvM b1 t1.toNat x1 y1 L = m at *
  have hlT : (turnL (b1 != b2) A).length = L.length := by rw [turnL_len, hlA]
  refine place_same (hA.turn _) (by rw [turnL_len, turnL_len, hlA, hlB]) (if b2 then L.length - m else m) fun j hj => ?_
  rw [hlT] at hj ⊢
  have hn : 0 < L.length := by omega
  cases b2
  · show B.getD j (0, 0) = _
    rw [G j hj]
    simp only [Bool.bne_false, Bool.false_eq_true, if_false]
    cases b1
    · rfl
    · show _ = A.reverse.getD _ (0, 0)
      rw [rev_getD (by rw [hlA]; exact Nat.mod_lt _ hn), hlA]
      rfl
  · show B.reverse.getD j (0, 0) = _
    rw [rev_getD (by rw [hlB]; exact hj), hlB, G _ (by omega)]
    simp only [if_true]
    cases b1
    · show A.getD ((L.length - 1 - j + m) % L.length) (0, 0) = A.reverse.getD _ (0, 0)
      rw [rev_getD (by rw [hlA]; exact Nat.mod_lt _ hn), hlA, ← rev_idx hj hm]
      congr 1
      have := Nat.mod_lt (L.length - 1 - j + m) hn
      omega
    · show A.getD (L.length - 1 - (L.length - 1 - j + m) % L.length) (0, 0) = A.getD _ (0, 0)
      rw [rev_idx hj hm]

end

end Go.Proofs.Ytlocdadkhdcedaa

/- The law of rigid motions: its facts. -/
namespace Go.Proofs.Ytlocdadkhdcedaa
open Go Go.RowKit Go.Proofs Go.Abs Go.Plain

/-- Is one of the first k the one? -/
def fnd (l : List (Nat × Bool)) (p : Nat × Bool) (k : Nat) : Bool := (l.take k).contains p

theorem fnd_succ {l : List (Nat × Bool)} {p q : Nat × Bool} {k : Nat} (h : l[k]? = some q) : fnd l p (k + 1) = (fnd l p k || ((q.1 : Int) == (p.1 : Int) && q.2 == p.2)) := by
  unfold fnd
  rw [List.take_add_one, h, Bool.eq_iff_iff]
  obtain ⟨a, c⟩ := q
  obtain ⟨d, e⟩ := p
  simp only [List.contains_eq_mem, Option.toList_some, List.mem_append, List.mem_singleton, decide_eq_true_eq, Bool.or_eq_true, Bool.and_eq_true, beq_iff_eq, Prod.mk.injEq]
  constructor
  · rintro (h | ⟨rfl, rfl⟩)
    · exact .inl h
    · exact .inr ⟨rfl, rfl⟩
  · rintro (h | ⟨h1, h2⟩)
    · exact .inl h
    · exact .inr ⟨by omega, h2.symm⟩

theorem fnd_all {l : List (Nat × Bool)} {p : Nat × Bool} (h : p ∈ l) : fnd l p l.length = true := by
  unfold fnd
  rw [List.take_length]
  simpa using h

theorem inv_valid {t : Int} {b : Bool} {x y : Int} (h : vMo t x y = true) : vMo (invT t b) (-(invP t b x y).1) (-(invP t b x y).2) = true := by
  unfold vMo at h ⊢
  simp only [Bool.and_eq_true, decide_eq_true_eq] at h
  obtain ⟨h0, h3, hx, hy⟩ := h
  have hr := invT_range (b := b) h0 h3
  have hs := mvP_small (b := b) (n := (invT t b).toNat) (p := (x, y)) (by
    unfold withinB at hx hy
    simp only [Bool.and_eq_true, decide_eq_true_eq] at hx hy
    unfold Small
    exact ⟨by omega, by omega⟩)
  rw [decide_eq_true hr.1, decide_eq_true hr.2]
  unfold Small at hs
  unfold withinB
  have e : invP t b x y = mvP b (invT t b).toNat 0 0 (x, y) := rfl
  rw [e]
  simp only [Bool.true_and, Bool.and_eq_true, decide_eq_true_eq]
  omega

theorem sett_self {L Q : Pl} {s : Nat} {b : Bool} (h : (s, b) ∈ settV L Q) : (0, false) ∈ settV L L := by
  obtain ⟨h1, h2, h3⟩ := settV_inv h
  have h4 := (settV_com h h3).2
  have e : comN L.length s b (invN L.length s b) b = 0 := by
    have := comN_int (b := b) (c := b) h2 (invN_lt (b := b) h2)
    rw [invN_int h2, Plain.inv_ed (by omega) (by omega)] at this
    omega
  rw [e] at h4
  simpa using h4

/-- What a move of an outline tells, once it stays on the grid. -/
theorem moveS_in {L : Pl} {t : Int} {b : Bool} {x y : Int} (ho : vOut L = true) (hm : vMo t x y = true) {base : Nat} {W : World} {v : Value} {s : Int} {sb : Bool} {E : Int} (h : MoveS L t b x y base W v s sb E) :
    (vPts (mvL b t.toNat x y L) = false ∧ v = .slice none 0 0 ∧ s = 0 ∧ sb = false ∧ E = 2) ∨
    (vPts (mvL b t.toNat x y L) = true ∧ SlV W v (mvQ b t.toNat x y L) ∧ s = (shiftS b L.length (mvM b t.toNat x y L) : Nat) ∧ sb = b ∧ E = 0) := by
  have hl := vOut_n ho
  have hq := mvQ_len (b := b) (t := t.toNat) (x := x) (y := y) (L := L)
  rcases h with ⟨g, -⟩ | ⟨-, p, h1, h2, h3, h4⟩ | ⟨-, p, o, h2, h3, h4⟩
  · rw [ho, hm] at g
    cases g
  · exact .inl ⟨p, h1, h2, h3, h4⟩
  · refine .inr ⟨p, slv_own (base := base) ?_ (by omega), h2, h3, h4⟩
    rw [hq]
    exact o

/-- The facts of the law. -/
structure RigidF (L : Pl) (t1 : Int) (b1 : Bool) (x1 y1 : Int) (Q : Pl) (S : Nat) (T X Y : Int) : Prop where
  len : Q.length = L.length
  out : vOut Q = true
  sum : sumL Q = sumL L
  lt : S < L.length
  mem : (S, b1) ∈ settV L Q
  self : (0, false) ∈ settV L L
  inv : invV t1 b1 x1 y1 = .tuple #[mo T b1 X Y, .int .i64 0]
  back : ∀ {base W v s sb E}, MoveS Q T b1 X Y base W v s sb E → SlV W v L ∧ s = Plain.inv (S : Int) b1 (L.length : Int) ∧ sb = b1 ∧ E = 0
  next : ∀ {t2 b2 x2 y2}, vMo t2 x2 y2 = true → ∀ {base W v s sb E}, MoveS Q t2 b2 x2 y2 base W v s sb E → E = 2 ∨ (E = 0 ∧ ∃ N : Pl, N.length ≤ 1000 ∧ SlV W v N ∧
    (vMo (comT t1 t2 b2) (mvP b2 t2.toNat x2 y2 (x1, y1)).1 (mvP b2 t2.toNat x2 y2 (x1, y1)).2 = true →
      ∀ {base' W' v' s' sb' E'}, MoveS L (comT t1 t2 b2) (b1 != b2) (mvP b2 t2.toNat x2 y2 (x1, y1)).1 (mvP b2 t2.toNat x2 y2 (x1, y1)).2 base' W' v' s' sb' E' → SlV W' v' N ∧ E' = 0))

theorem rigid_facts {L : Pl} {t1 : Int} {b1 : Bool} {x1 y1 : Int} (ho : vOut L = true) (hm : vMo t1 x1 y1 = true) (vm : vPts (mvL b1 t1.toNat x1 y1 L) = true) :
    RigidF L t1 b1 x1 y1 (mvQ b1 t1.toNat x1 y1 L) (shiftS b1 L.length (mvM b1 t1.toNat x1 y1 L)) (invT t1 b1) (-(invP t1 b1 x1 y1).1) (-(invP t1 b1 x1 y1).2) := by
  obtain ⟨h3, h24, -⟩ := vOut_n ho
  obtain ⟨⟨t10, t13⟩, -⟩ := vMo_parts hm
  have hmem := mvQ_sett ho vm
  have hout := mvQ_out ho vm
  have hiv := inv_valid (b := b1) hm
  refine ⟨mvQ_len, hout, mvQ_sum (by omega), (settV_inv hmem).2.1, hmem, sett_self hmem, ?_, ?_, ?_⟩
  · unfold invV
    rw [if_pos hm]
  · intro base W v s sb E h
    rcases moveS_in hout hiv h with ⟨g, -⟩ | ⟨-, o, h2, h3', h4⟩
    · rw [back_pts ho t10 t13] at g
      cases g
    · rw [back_list ho t10 t13] at o
      refine ⟨o, ?_, h3', h4⟩
      rw [h2, mvQ_len, back_shift ho t10 t13]
  · intro t2 b2 x2 y2 hm2 base W v s sb E h
    obtain ⟨⟨t20, t23⟩, -⟩ := vMo_parts hm2
    rcases moveS_in hout hm2 h with ⟨-, -, -, -, h4⟩ | ⟨g, o, -, -, h4⟩
    · exact .inl h4
    · refine .inr ⟨h4, _, by rw [mvQ_len, mvQ_len]; omega, o, fun hc base' W' v' s' sb' E' h' => ?_⟩
      rcases moveS_in ho hc h' with ⟨g', -⟩ | ⟨-, o', -, -, h4'⟩
      · have := two_pts (b1 := b1) (x1 := x1) (y1 := y1) (L := L) (by omega) t10 t13 t20 t23 g
        rw [this] at g'
        cases g'
      · rw [← two_list ho t10 t13 t20 t23] at o'
        exact ⟨o', h4'⟩

end Go.Proofs.Ytlocdadkhdcedaa
