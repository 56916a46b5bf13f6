/- The abstract machine, part LZ. -/
import Derived.Test.YtdohlggbeagedaaGreatLY
/- Moves of outlines: what Move returns is an outline, congruent by the setting; the inverse, the composed motion (plain). -/
namespace Go.Proofs.YtdohlggbeagedaaGreat
open Go Go.RowKit Go.Proofs

/-- What a list is moved to. -/
def mvQ (b : Bool) (t : Nat) (x y : Int) (L : Pl) : Pl := placeL (turnL b (mvL b t x y L))
/-- The number of the least of the moved ones. -/
def mvM (b : Bool) (t : Nat) (x y : Int) (L : Pl) : Nat := leastK (px (turnL b (mvL b t x y L))) (py (turnL b (mvL b t x y L))) L.length

section
variable {b : Bool} {t : Nat} {x y : Int} {L : Pl}

theorem mvT_len : (turnL b (mvL b t x y L)).length = L.length := by rw [turnL_len, mvL_len]
theorem mvQ_len : (mvQ b t x y L).length = L.length := by unfold mvQ; rw [placeL_len, mvT_len]

theorem mvM_lt (h : 0 < L.length) : mvM b t x y L < L.length := leastK_lt _ _ _ h

theorem mvQ_rot : mvQ b t x y L = rotL (mvM b t x y L) (turnL b (mvL b t x y L)) := by
  unfold mvQ mvM placeL
  rw [mvT_len]

theorem mvQ_getM (h : 0 < L.length) {j : Nat} (hj : j < L.length) : (mvQ b t x y L).getD j (0, 0) = (mvL b t x y L).getD (sg b L.length (mvM b t x y L) j) (0, 0) := by
  rw [mvQ_rot, place_sg (by rw [mvL_len]; exact mvM_lt h) (by rw [mvL_len]; exact hj), mvL_len]

theorem mvQ_lies (h : 0 < L.length) : Lies b (mvP b t x y) (mvM b t x y L) L (mvQ b t x y L) where
  len := mvQ_len
  rig := rig_mv b t x y
  lt := mvM_lt h
  get j hj := by rw [mvQ_getM h hj, getD_map (sg_lt h)]

theorem mvT_apart (h : Apart L) : Apart (turnL b (mvL b t x y L)) := (h.mv b t x y).turn b

theorem mvQ_pts (h : 0 < L.length) (hv : vPts (mvL b t x y L) = true) : vPts (mvQ b t x y L) = true := by
  rw [vPts_iff] at hv ⊢
  intro k hk
  rw [mvQ_len] at hk
  rw [mvQ_getM h hk]
  exact hv _ (by rw [mvL_len]; exact sg_lt h)

theorem mvQ_sum (h : 0 < L.length) : sumL (mvQ b t x y L) = sumL L := by
  rw [mvQ_rot]
  exact sumL_Q b t x y (mvM_lt h)

theorem mvQ_least (h : 0 < L.length) (hA : Apart L) : leastK (px (mvQ b t x y L)) (py (mvQ b t x y L)) (mvQ b t x y L).length = 0 :=
  least_place (mvT_apart hA) (by rw [mvT_len]; exact h)

theorem mvQ_out (hL : vOut L = true) (hv : vPts (mvL b t x y L) = true) : vOut (mvQ b t x y L) = true := by
  have h3 := (vOut_n hL).1
  have h0 : 0 < L.length := by omega
  exact (mvQ_lies h0).out hL (mvQ_pts h0 hv) (mvQ_sum h0) (mvQ_least h0 (vOut_apart hL))

/-- The setting lays a corner where it has gone. -/
theorem sg_lay {n m i : Nat} (hm : m < n) (hi : i < n) (h2 : 2 ≤ n) : shiftS b n m < n ∧ sg b n m (layN n (shiftS b n m) b i) = i := by
  have hs : shiftS b n m < n := by unfold shiftS; split <;> exact Nat.mod_lt _ (by omega)
  refine ⟨hs, ?_⟩
  have hl := layN_lt (b := b) hs hi
  have e := layN_int (b := b) hs hi
  obtain ⟨N, hN⟩ : ∃ N, layN n (shiftS b n m) b i = N := ⟨_, rfl⟩
  rw [hN] at hl e ⊢
  cases b
  · have hS : shiftS false n m = if n - m < n then n - m else n - m - n := mod2 (by omega)
    unfold layI Plain.ed at e
    simp only [Bool.false_eq_true, if_false] at e
    show (N + m) % n = i
    rw [mod2 (by omega)]
    split at hS <;> split at e <;> split <;> omega
  · have hS : shiftS true n m = if 2 * n - 2 - m < n then 2 * n - 2 - m else 2 * n - 2 - m - n := mod2 (by omega)
    unfold layI Plain.ed at e
    simp only [if_true] at e
    show n - 1 - (N + m) % n = i
    rw [mod2 (by omega)]
    split at hS <;> split at e <;> (try split at e) <;> split <;> omega

/-- The setting that Move tells is one of those by which both are congruent. -/
theorem mvQ_sett (hL : vOut L = true) (hv : vPts (mvL b t x y L) = true) : (shiftS b L.length (mvM b t x y L), b) ∈ settV L (mvQ b t x y L) := by
  have h3 := (vOut_n hL).1
  have h0 : 0 < L.length := by omega
  have hQ := mvQ_out hL hv
  have hl := mvQ_lies (b := b) (t := t) (x := x) (y := y) h0
  obtain ⟨m, hm⟩ : ∃ m, mvM b t x y L = m := ⟨_, rfl⟩
  rw [hm] at hl ⊢
  have hml := hl.lt
  unfold settV
  rw [if_pos ⟨hL, hQ, mvQ_len.symm⟩, mem_settL]
  refine ⟨(sg_lay (i := 0) hml h0 (by omega)).1, cong_mk (fun i hi => ?_) (fun i k hi hk => ?_)⟩
  · have h1 := sg_lay (b := b) hml hi (by omega)
    rw [hl.bend (layN_lt h1.1 hi), h1.2]
  · have h1 := sg_lay (b := b) hml hi (by omega)
    have h2 := sg_lay (b := b) hml hk (by omega)
    show sqr (L.getD i (0, 0)) (L.getD k (0, 0)) = sqr ((mvQ b t x y L).getD _ (0, 0)) ((mvQ b t x y L).getD _ (0, 0))
    rw [hl.get _ (layN_lt h1.1 hi), hl.get _ (layN_lt h2.1 hk), h1.2, h2.2, hl.rig.sqr]

end

theorem place_idx {A B : Pl} (hA : Apart A) (h0 : 0 < A.length) (hl : B.length = A.length) (a : Nat) (h : ∀ j, j < A.length → B.getD j (0, 0) = A.getD ((j + a) % A.length) (0, 0)) :
    leastK (px A) (py A) A.length = (leastK (px B) (py B) A.length + a) % A.length := by
  have hmB := leastL_lt (L := B) (by omega)
  rw [hl] at hmB
  refine least_only hA (Nat.mod_lt _ h0) fun k hk => ?_
  have hB := leastL_min B (k := (k + (A.length - a % A.length)) % A.length) (by rw [hl]; exact Nat.mod_lt _ h0)
  rw [h _ (Nat.mod_lt _ h0), hl, h _ hmB] at hB
  have hk2 : ((k + (A.length - a % A.length)) % A.length + a) % A.length = k := by
    have ha : a % A.length < A.length := Nat.mod_lt _ h0
    rw [Nat.mod_add_mod, ← Nat.add_mod_mod, show k + (A.length - a % A.length) + a % A.length = k + A.length by omega, Nat.add_mod_right, Nat.mod_eq_of_lt hk]
  rw [hk2] at hB
  exact hB

theorem rev_idx {n m j : Nat} (hj : j < n) (hm : m < n) : n - 1 - (n - 1 - j + m) % n = (j + (n - m)) % n := by
  rw [mod2 (a := n - 1 - j + m) (by omega), mod2 (a := j + (n - m)) (by omega)]
  split <;> split <;> omega

section
variable {b : Bool} {L : Pl} {t : Int} {x y : Int}

end

section
variable {b1 b2 : Bool} {L : Pl} {t1 t2 : Int} {x1 y1 x2 y2 : Int}

end

end Go.Proofs.YtdohlggbeagedaaGreat

/- The law of rigid motions: its facts. -/
namespace Go.Proofs.YtdohlggbeagedaaGreat
open Go Go.RowKit Go.Proofs Go.Abs Go.Plain

/-- Is one of the first k the one? -/
def fnd (l : List (Nat × Bool)) (p : Nat × Bool) (k : Nat) : Bool := (l.take k).contains p

theorem fnd_succ {l : List (Nat × Bool)} {p q : Nat × Bool} {k : Nat} (h : l[k]? = some q) : fnd l p (k + 1) = (fnd l p k || ((q.1 : Int) == (p.1 : Int) && q.2 == p.2)) := by
  unfold fnd
  rw [List.take_add_one, h, Bool.eq_iff_iff]
  obtain ⟨a, c⟩ := q
  obtain ⟨d, e⟩ := p
  simp only [List.contains_eq_mem, Option.toList_some, List.mem_append, List.mem_singleton, decide_eq_true_eq, Bool.or_eq_true, Bool.and_eq_true, beq_iff_eq, Prod.mk.injEq]
  constructor
  · rintro (h | ⟨rfl, rfl⟩)
    · exact .inl h
    · exact .inr ⟨rfl, rfl⟩
  · rintro (h | ⟨h1, h2⟩)
    · exact .inl h
    · exact .inr ⟨by omega, h2.symm⟩

theorem fnd_all {l : List (Nat × Bool)} {p : Nat × Bool} (h : p ∈ l) : fnd l p l.length = true := by
  unfold fnd
  rw [List.take_length]
  simpa using h

theorem sett_self {L Q : Pl} {s : Nat} {b : Bool} (h : (s, b) ∈ settV L Q) : (0, false) ∈ settV L L := by
  obtain ⟨h1, h2, h3⟩ := settV_inv h
  have h4 := (settV_com h h3).2
  have e : comN L.length s b (invN L.length s b) b = 0 := by
    have := comN_int (b := b) (c := b) h2 (invN_lt (b := b) h2)
    rw [invN_int h2, Plain.inv_ed (by omega) (by omega)] at this
    omega
  rw [e] at h4
  simpa using h4

/-- What a move of an outline tells, once it stays on the grid. -/
theorem moveS_in {L : Pl} {t : Int} {b : Bool} {x y : Int} (ho : vOut L = true) (hm : vMo t x y = true) {base : Nat} {W : World} {v : Value} {s : Int} {sb : Bool} {E : Int} (h : MoveS L t b x y base W v s sb E) :
    (vPts (mvL b t.toNat x y L) = false ∧ v = .slice none 0 0 ∧ s = 0 ∧ sb = false ∧ E = 2) ∨
    (vPts (mvL b t.toNat x y L) = true ∧ SlV W v (mvQ b t.toNat x y L) ∧ s = (shiftS b L.length (mvM b t.toNat x y L) : Nat) ∧ sb = b ∧ E = 0) := by
  have hl := vOut_n ho
  have hq := mvQ_len (b := b) (t := t.toNat) (x := x) (y := y) (L := L)
  rcases h with ⟨g, -⟩ | ⟨-, p, h1, h2, h3, h4⟩ | ⟨-, p, o, h2, h3, h4⟩
  · rw [ho, hm] at g
    cases g
  · exact .inl ⟨p, h1, h2, h3, h4⟩
  · refine .inr ⟨p, slv_own (base := base) ?_ (by omega), h2, h3, h4⟩
    rw [hq]
    exact o

end Go.Proofs.YtdohlggbeagedaaGreat
