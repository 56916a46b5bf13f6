/- The abstract machine, part MB. -/
import Derived.Test.YtlocdadkhdcedaaXE
import Derived.Test.YtlocdadkhdcedaaRB
import Derived.Test.YtlocdadkhdcedaaSA
import Derived.Test.YtlocdadkhdcedaaMA
/- Lists of points: turned round, moved; the least point; corners are distinct (plain). -/
namespace Go.Proofs.Ytlocdadkhdcedaa
open Go Go.RowKit Go.Proofs

theorem no_two {xs ys : Nat → Int} {n i k : Nat} (hs : simpleS xs ys n = true) (hf : ∀ x, x < n → strK xs ys n x = false) (hi : i < k) (hk : k < n) : ¬ (xs k = xs i ∧ ys k = ys i) := by
  rintro ⟨ex, ey⟩
  unfold simpleS at hs
  rw [decide_eq_true_eq] at hs
  have hstr : ∀ x, x < n → ¬ (xs ((x + 1) % n) = xs x ∧ ys ((x + 1) % n) = ys x) := by
    rintro x hx ⟨e1, e2⟩
    have := hf x hx
    unfold strK strB at this
    rw [e1, e2, cross_same] at this
    simp at this
  by_cases h2 : k = i + 1
  · subst h2
    refine hstr i (by omega) ?_
    rw [Nat.mod_eq_of_lt (by omega)]
    exact ⟨ex, ey⟩
  · by_cases h3 : i = 0 ∧ k = n - 1
    · obtain ⟨rfl, rfl⟩ := h3
      refine hstr (n - 1) (by omega) ?_
      rw [show (n - 1 + 1) % n = 0 by rw [show n - 1 + 1 = n by omega, Nat.mod_self]]
      exact ⟨ex.symm, ey.symm⟩
    · have hm := hs k hk i hi
      have hw : wantS n i k = 0 := by unfold wantS; rw [if_neg (by omega)]
      rw [hw] at hm
      unfold meetK at hm
      rw [ex, ey] at hm
      exact meetS_shared _ _ _ _ _ _ hm

/-- The first of the least, by less. -/
def leastR (xs ys : Nat → Int) : Nat → Nat
  | 0 => 0
  | k + 1 => if lessS (xs k) (ys k) (xs (leastR xs ys k)) (ys (leastR xs ys k)) = true then k else leastR xs ys k

theorem leastR_eq (xs ys : Nat → Int) : ∀ k, leastR xs ys k = leastK xs ys k
  | 0 => rfl
  | k + 1 => by
    unfold leastR leastK
    rw [leastR_eq xs ys k]
    by_cases h : cmpP (xs k) (ys k) (xs (leastK xs ys k)) (ys (leastK xs ys k)) < 0
    · rw [if_pos h, if_pos ((cmpP_less _ _ _ _).1 h)]
    · rw [if_neg h, if_neg (fun hh => h ((cmpP_less _ _ _ _).2 hh))]

abbrev Pl := List (Int × Int)

/-- The list from its k-th element on, and then its first ones. -/
def rotL (k : Nat) (L : Pl) : Pl := L.drop k ++ L.take k
/-- The list from its least point on. -/
def placeL (L : Pl) : Pl := rotL (leastK (px L) (py L) L.length) L
/-- Twice the area. -/
def sumL (L : Pl) : Int := sumD (px L) (py L) L.length (List.range L.length)
/-- Counterclockwise, from the least point on. -/
def normL (L : Pl) : Pl := placeL (if sumL L < 0 then L.reverse else L)

theorem rotL_len (k : Nat) (L : Pl) : (rotL k L).length = L.length := by
  unfold rotL
  rw [List.length_append, List.length_drop, List.length_take]
  omega

theorem placeL_len (L : Pl) : (placeL L).length = L.length := rotL_len _ _

theorem normL_len (L : Pl) : (normL L).length = L.length := by
  unfold normL
  rw [placeL_len]
  split
  · exact List.length_reverse
  · rfl

theorem rotL_get {k j : Nat} {L : Pl} (hk : k < L.length) (hj : j < L.length) : (rotL k L)[j]? = L[(j + k) % L.length]? := by
  unfold rotL
  rw [List.getElem?_append, List.length_drop]
  split
  · rename_i h
    rw [List.getElem?_drop, Nat.mod_eq_of_lt (by omega), Nat.add_comm]
  · rename_i h
    rw [List.getElem?_take, if_pos (by omega)]
    have : (j + k) % L.length = j + k - L.length := by
      rw [Nat.mod_eq_sub_mod (by omega), Nat.mod_eq_of_lt (by omega)]
    rw [this]
    congr 1
    omega

def mvL (b : Bool) (t : Nat) (x y : Int) (L : Pl) : Pl := L.map (mvP b t x y)

theorem getD_map {b : Bool} {t : Nat} {x y : Int} {L : Pl} {k : Nat} (hk : k < L.length) : (mvL b t x y L).getD k (0, 0) = mvP b t x y (L.getD k (0, 0)) := by
  unfold mvL
  rw [List.getD_eq_getElem?_getD, List.getD_eq_getElem?_getD, List.getElem?_map, List.getElem?_eq_getElem hk]
  rfl

theorem mvL_len (b : Bool) (t : Nat) (x y : Int) (L : Pl) : (mvL b t x y L).length = L.length := List.length_map _

theorem sumL_mv (b : Bool) (t : Nat) (x y : Int) (L : Pl) : sumL (mvL b t x y L) = if b then - sumL L else sumL L := by
  have hz : ∀ k, k < L.length → (k + 1) % L.length < L.length := fun k hk => Nat.mod_lt _ (by omega)
  have h1 : sumL (mvL b t x y L) = ((List.range L.length).map fun k => (if b then - det (L.getD k (0, 0)) (L.getD ((k + 1) % L.length) (0, 0)) else det (L.getD k (0, 0)) (L.getD ((k + 1) % L.length) (0, 0))) +
      ((fun j => (tn t (mir b (L.getD j (0, 0)))).1 * y - x * (tn t (mir b (L.getD j (0, 0)))).2) k - (fun j => (tn t (mir b (L.getD j (0, 0)))).1 * y - x * (tn t (mir b (L.getD j (0, 0)))).2) ((k + 1) % L.length))).sum := by
    unfold sumL sumD
    rw [mvL_len]
    congr 1
    refine List.map_congr_left fun k hk => ?_
    have hk := List.mem_range.1 hk
    show det ((mvL b t x y L).getD k (0, 0)) ((mvL b t x y L).getD ((k + 1) % L.length) (0, 0)) = _
    rw [getD_map hk, getD_map (hz k hk), det_mv]
  rw [h1, sum_add, sum_tele]
  cases b
  · show _ = sumL L
    rw [Int.add_zero]
    rfl
  · show _ = - sumL L
    simp only [if_true]
    rw [sum_neg, Int.add_zero]
    rfl

/-- No two elements are one. -/
def Apart (L : Pl) : Prop := ∀ i k, i < k → k < L.length → L.getD i (0, 0) ≠ L.getD k (0, 0)

theorem vOut_apart {L : Pl} (h : vOut L = true) : Apart L := by
  have hs : simpleS (px L) (py L) L.length = true := by
    unfold vOut at h
    simp only [Bool.and_eq_true, decide_eq_true_eq] at h
    exact h.2.2.2.2.2.2
  intro i k hi hk e
  refine no_two hs (fun x hx => vOut_str h x hx) hi hk ?_
  unfold px py
  rw [e]
  exact ⟨rfl, rfl⟩

theorem Apart.mv {L : Pl} (h : Apart L) (b : Bool) (t : Nat) (x y : Int) : Apart (mvL b t x y L) := by
  intro i k hi hk e
  rw [mvL_len] at hk
  rw [getD_map (by omega), getD_map hk] at e
  exact h i k hi hk (mvP_inj e)

theorem getD_some {L : Pl} {i : Nat} (h : i < L.length) : L[i]? = some (L.getD i (0, 0)) := by
  rw [List.getD_eq_getElem?_getD, List.getElem?_eq_getElem h]
  rfl

theorem rotL_getD {k j : Nat} {L : Pl} (hk : k < L.length) (hj : j < L.length) : (rotL k L).getD j (0, 0) = L.getD ((j + k) % L.length) (0, 0) := by
  rw [List.getD_eq_getElem?_getD, List.getD_eq_getElem?_getD, rotL_get hk hj]

theorem rev_getD {j : Nat} {L : Pl} (hj : j < L.length) : L.reverse.getD j (0, 0) = L.getD (L.length - 1 - j) (0, 0) := by
  rw [List.getD_eq_getElem?_getD, List.getD_eq_getElem?_getD, List.getElem?_reverse hj]

theorem Apart.eq {L : Pl} (h : Apart L) {i k : Nat} (hi : i < L.length) (hk : k < L.length) (e : L.getD i (0, 0) = L.getD k (0, 0)) : i = k := by
  rcases Nat.lt_trichotomy i k with h1 | h1 | h1
  · exact absurd e (h i k h1 hk)
  · exact h1
  · exact absurd e.symm (h k i h1 hi)

theorem Apart.rev {L : Pl} (h : Apart L) : Apart L.reverse := by
  intro i k hi hk e
  rw [List.length_reverse] at hk
  rw [rev_getD (by omega), rev_getD hk] at e
  have := h.eq (by omega) (by omega) e
  omega

theorem mod_inj {n i j k : Nat} (hi : i < n) (hj : j < n) (h : (i + k) % n = (j + k) % n) : i = j := by
  have h1 := Nat.div_add_mod (i + k) n
  have h2 := Nat.div_add_mod (j + k) n
  rw [h] at h1
  generalize (i + k) / n = p, (j + k) / n = q, (j + k) % n = r at h1 h2
  rcases Nat.lt_trichotomy p q with h3 | rfl | h3
  · have : n * (p + 1) ≤ n * q := Nat.mul_le_mul_left n h3
    rw [Nat.mul_add] at this
    omega
  · omega
  · have : n * (q + 1) ≤ n * p := Nat.mul_le_mul_left n h3
    rw [Nat.mul_add] at this
    omega

theorem Apart.rot {L : Pl} (h : Apart L) {m : Nat} (hm : m < L.length) : Apart (rotL m L) := by
  intro i k hi hk e
  rw [rotL_len] at hk
  rw [rotL_getD hm (by omega), rotL_getD hm hk] at e
  have := h.eq (Nat.mod_lt _ (by omega)) (Nat.mod_lt _ (by omega)) e
  have := mod_inj (by omega) hk this
  omega

theorem leastL_lt {L : Pl} (h : 0 < L.length) : leastK (px L) (py L) L.length < L.length := leastK_lt _ _ _ h

/-- The setting of an outline in the moved one. -/
def shiftS (b : Bool) (n m : Nat) : Nat := if b then (2 * n - 2 - m) % n else (n - m) % n
/-- The number of the moved corner 0. -/
def posS (b : Bool) (n m : Nat) : Nat := if b then n - 1 - m else (n - m) % n

/-- What a list is placed from. -/
def turnL (b : Bool) (M : Pl) : Pl := if b then M.reverse else M

theorem turnL_len (b : Bool) (M : Pl) : (turnL b M).length = M.length := by
  cases b
  · rfl
  · exact List.length_reverse

theorem pos_get {b : Bool} {M : Pl} {m : Nat} (hm : m < M.length) : (rotL m (turnL b M)).getD (posS b M.length m) (0, 0) = M.getD 0 (0, 0) ∧ posS b M.length m < M.length := by
  have hl := turnL_len b M
  cases b
  · unfold posS
    simp only [Bool.false_eq_true, if_false]
    have h0 : (M.length - m) % M.length < M.length := Nat.mod_lt _ (by omega)
    refine ⟨?_, h0⟩
    rw [rotL_getD (by omega) (by omega), hl]
    rw [Nat.mod_add_mod, show M.length - m + m = M.length by omega, Nat.mod_self]
    rfl
  · unfold posS
    simp only [if_true]
    refine ⟨?_, by omega⟩
    rw [rotL_getD (by omega) (by omega), hl, show M.length - 1 - m + m = M.length - 1 by omega, Nat.mod_eq_of_lt (by omega)]
    show M.reverse.getD _ _ = _
    rw [rev_getD (by omega)]
    congr 1
    omega

theorem pos_shift {b : Bool} {n m : Nat} (hm : m < n) (_h2 : 2 ≤ n) : (if b then (posS b n m + n - 1) % n else posS b n m) = shiftS b n m := by
  cases b
  · rfl
  · unfold posS shiftS
    simp only [if_true]
    congr 1
    omega

/-- Which number the reference takes. -/
theorem shift_only {b : Bool} {M : Pl} {m k : Nat} (h3 : 3 ≤ M.length) (hm : m < M.length) (hA : Apart M) (hk : k < M.length) :
    (((rotL m (turnL b M)).getD k (0, 0) = M.getD 0 (0, 0) ∧ (rotL m (turnL b M)).getD ((k + 1) % M.length) (0, 0) = M.getD 1 (0, 0)) ∨
      ((rotL m (turnL b M)).getD k (0, 0) = M.getD 1 (0, 0) ∧ (rotL m (turnL b M)).getD ((k + 1) % M.length) (0, 0) = M.getD 0 (0, 0))) ↔ k = shiftS b M.length m := by
  have hl := turnL_len b M
  have hk1 : (k + 1) % M.length < M.length := Nat.mod_lt _ (by omega)
  have e1 : ((k + 1) % M.length + m) % M.length = ((k + m) % M.length + 1) % M.length := by
    rw [Nat.mod_add_mod, Nat.mod_add_mod]
    congr 1
    omega
  rw [rotL_getD (by omega) (by omega), rotL_getD (by omega) (by omega), hl, e1]
  obtain ⟨r, hr⟩ : ∃ r, (k + m) % M.length = r := ⟨_, rfl⟩
  have hrl : r < M.length := by rw [← hr]; exact Nat.mod_lt _ (by omega)
  rw [hr]
  have hr1 : (r + 1) % M.length < M.length := Nat.mod_lt _ (by omega)
  have hs : (r + 1) % M.length = if r + 1 = M.length then 0 else r + 1 := by
    split
    · rename_i h
      rw [h, Nat.mod_self]
    · exact Nat.mod_eq_of_lt (by omega)
  have hz : shiftS b M.length m < M.length := by
    unfold shiftS
    split <;> exact Nat.mod_lt _ (by omega)
  cases b
  · have key : k = shiftS false M.length m ↔ r = 0 := by
      constructor
      · intro h
        rw [← hr, h]
        unfold shiftS
        simp only [Bool.false_eq_true, if_false]
        rw [Nat.mod_add_mod, show M.length - m + m = M.length by omega, Nat.mod_self]
      · intro h
        refine mod_inj (k := m) hk hz ?_
        rw [hr, h]
        unfold shiftS
        simp only [Bool.false_eq_true, if_false]
        rw [Nat.mod_add_mod, show M.length - m + m = M.length by omega, Nat.mod_self]
    rw [key]
    show (M.getD r _ = _ ∧ M.getD _ _ = _ ∨ M.getD r _ = _ ∧ M.getD _ _ = _) ↔ _
    constructor
    · rintro (⟨h1, _⟩ | ⟨h1, h2⟩)
      · exact hA.eq hrl (by omega) h1
      · have h4 := hA.eq hrl (by omega) h1
        have h5 := hA.eq hr1 (by omega) h2
        subst h4
        rw [hs] at h5
        split at h5 <;> omega
    · rintro rfl
      refine .inl ⟨rfl, ?_⟩
      rw [hs, if_neg (by omega)]
  · have key : k = shiftS true M.length m ↔ r = M.length - 2 := by
      constructor
      · intro h
        rw [← hr, h]
        unfold shiftS
        simp only [if_true]
        rw [Nat.mod_add_mod, show 2 * M.length - 2 - m + m = M.length - 2 + M.length by omega, Nat.add_mod_right, Nat.mod_eq_of_lt (by omega)]
      · intro h
        refine mod_inj (k := m) hk hz ?_
        rw [hr, h]
        unfold shiftS
        simp only [if_true]
        rw [Nat.mod_add_mod, show 2 * M.length - 2 - m + m = M.length - 2 + M.length by omega, Nat.add_mod_right, Nat.mod_eq_of_lt (by omega)]
    rw [key]
    show (M.reverse.getD r _ = _ ∧ M.reverse.getD _ _ = _ ∨ M.reverse.getD r _ = _ ∧ M.reverse.getD _ _ = _) ↔ _
    rw [rev_getD hrl, rev_getD hr1]
    constructor
    · rintro (⟨h1, h2⟩ | ⟨h1, h2⟩)
      · have h4 := hA.eq (by omega) (by omega) h1
        have h5 := hA.eq (by omega) (by omega) h2
        rw [hs] at h5
        split at h5 <;> omega
      · have h4 := hA.eq (by omega) (by omega) h1
        omega
    · rintro rfl
      refine .inr ⟨?_, ?_⟩
      · congr 1
        omega
      · congr 1
        rw [hs, if_neg (by omega)]
        omega

end Go.Proofs.Ytlocdadkhdcedaa

/- Flat lists; lists out of which corners are left (plain). -/
namespace Go.Proofs.Ytlocdadkhdcedaa
open Go Go.RowKit Go.Proofs

/-- Leave out the first of a kind, so many times at most. -/
def eraseN (kind : Pl → Nat → Bool) : Nat → Pl → Pl
  | 0, L => L
  | f + 1, L => match (List.range L.length).find? (kind L) with
    | none => L
    | some k => eraseN kind f (L.eraseIdx k)

def leaveL (kind : Pl → Nat → Bool) (L : Pl) : Pl := eraseN kind L.length L

/-- k is the first of a kind. -/
def FirstAt (kind : Pl → Nat → Bool) (L : Pl) (k : Nat) : Prop := k < L.length ∧ kind L k = true ∧ ∀ j, j < k → kind L j = false

theorem find_range {p : Nat → Bool} {n k : Nat} (hk : k < n) (h : p k = true) (hb : ∀ j, j < k → p j = false) : (List.range n).find? p = some k := by
  rw [List.find?_eq_some_iff_getElem]
  refine ⟨h, k, by simpa using hk, by simp, fun j hj => ?_⟩
  simp only [List.getElem_range]
  rw [hb j hj]
  rfl

theorem leaveL_some {kind : Pl → Nat → Bool} {L : Pl} {k : Nat} (h : FirstAt kind L k) : leaveL kind L = leaveL kind (L.eraseIdx k) := by
  obtain ⟨hk, h1, h2⟩ := h
  unfold leaveL
  have e : (L.eraseIdx k).length = L.length - 1 := List.length_eraseIdx_of_lt hk
  rw [e]
  obtain ⟨m, hm⟩ : ∃ m, L.length = m + 1 := ⟨L.length - 1, by omega⟩
  rw [hm]
  show (match (List.range L.length).find? (kind L) with | none => L | some k => eraseN kind m (L.eraseIdx k)) = _
  rw [find_range hk h1 h2]
  rfl

theorem leaveL_none {kind : Pl → Nat → Bool} {L : Pl} (h : ∀ j, j < L.length → kind L j = false) : leaveL kind L = L := by
  unfold leaveL
  cases hm : L.length with
  | zero => rfl
  | succ m =>
    show (match (List.range L.length).find? (kind L) with | none => L | some k => eraseN kind m (L.eraseIdx k)) = _
    have : (List.range L.length).find? (kind L) = none := by
      rw [List.find?_eq_none]
      intro j hj
      rw [h j (List.mem_range.1 hj)]
      simp
    rw [this]

/-- A corner that is its next one. -/
def repK (L : Pl) (k : Nat) : Bool := px L k == px L ((k + 1) % L.length) && py L k == py L ((k + 1) % L.length)
/-- A corner that is straight. -/
def strL (L : Pl) (k : Nat) : Bool := strK (px L) (py L) L.length k

/-- Are all points on one line? -/
def flatS (L : Pl) : Bool := match (List.range L.length).find? (fun k => !(px L k == px L 0 && py L k == py L 0)) with
  | none => true
  | some k => (List.range L.length).all fun m => cross (px L 0) (py L 0) (px L k) (py L k) (px L m) (py L m) == 0

theorem flatS_some {L : Pl} {k : Nat} (hk : k < L.length) (h : (px L k == px L 0 && py L k == py L 0) = false) (hb : ∀ j, j < k → (px L j == px L 0 && py L j == py L 0) = true) :
    flatS L = (List.range L.length).all fun m => cross (px L 0) (py L 0) (px L k) (py L k) (px L m) (py L m) == 0 := by
  unfold flatS
  rw [find_range hk (by rw [h]; rfl) (fun j hj => by rw [hb j hj]; rfl)]

theorem flatS_none {L : Pl} (hb : ∀ j, j < L.length → (px L j == px L 0 && py L j == py L 0) = true) : flatS L = true := by
  unfold flatS
  have : (List.range L.length).find? (fun k => !(px L k == px L 0 && py L k == py L 0)) = none := by
    rw [List.find?_eq_none]
    intro j hj
    rw [hb j (List.mem_range.1 hj)]
    simp
  rw [this]

/-- Two elements are not one. -/
def Two (L : Pl) : Prop := ∃ i j, i < L.length ∧ j < L.length ∧ L.getD i (0, 0) ≠ L.getD j (0, 0)

theorem Two.len {L : Pl} (h : Two L) : 2 ≤ L.length := by
  obtain ⟨i, j, hi, hj, hne⟩ := h
  rcases Nat.lt_or_ge 1 L.length with h | h
  · exact h
  · exfalso
    obtain rfl : i = j := by omega
    exact hne rfl

theorem two_flat {L : Pl} (h : flatS L = false) : Two L := by
  by_cases hall : ∀ j, j < L.length → (px L j == px L 0 && py L j == py L 0) = true
  · rw [flatS_none hall] at h
    cases h
  · simp only [Classical.not_forall] at hall
    obtain ⟨j, hj, hne⟩ := hall
    refine ⟨j, 0, hj, by omega, fun e => hne ?_⟩
    unfold px py
    rw [e]
    simp

theorem repK_eq {L : Pl} {k : Nat} (h : repK L k = true) : L.getD k (0, 0) = L.getD ((k + 1) % L.length) (0, 0) := by
  unfold repK px py at h
  simp only [Bool.and_eq_true, beq_iff_eq] at h
  exact Prod.ext h.1 h.2

theorem mem_of_two {L : Pl} : Two L ↔ ∃ p ∈ L, ∃ q ∈ L, p ≠ q := by
  constructor
  · rintro ⟨i, j, hi, hj, hne⟩
    exact ⟨_, List.mem_of_getElem? (getD_some hi), _, List.mem_of_getElem? (getD_some hj), hne⟩
  · rintro ⟨p, hp, q, hq, hne⟩
    obtain ⟨i, hi, rfl⟩ := List.mem_iff_getElem.1 hp
    obtain ⟨j, hj, rfl⟩ := List.mem_iff_getElem.1 hq
    refine ⟨i, j, hi, hj, ?_⟩
    rw [List.getD_eq_getElem?_getD, List.getD_eq_getElem?_getD, List.getElem?_eq_getElem hi, List.getElem?_eq_getElem hj]
    exact hne

/-- Leaving out a corner that is its next one leaves two that are not one. -/
theorem Two.erase {L : Pl} (h : Two L) {k : Nat} (hk : k < L.length) (hr : repK L k = true) : Two (L.eraseIdx k) := by
  have h2 := h.len
  rw [mem_of_two] at h ⊢
  obtain ⟨p, hp, q, hq, hne⟩ := h
  have key : ∀ x ∈ L, x ∈ L.eraseIdx k := by
    intro x hx
    obtain ⟨i, hi, rfl⟩ := List.mem_iff_getElem.1 hx
    by_cases hik : i = k
    · subst hik
      have e := repK_eq hr
      have hn : (i + 1) % L.length < L.length := Nat.mod_lt _ (by omega)
      have hne' : (i + 1) % L.length ≠ i := by
        by_cases hl : i + 1 = L.length
        · rw [hl, Nat.mod_self]; omega
        · rw [Nat.mod_eq_of_lt (by omega)]; omega
      have e2 : L[i] = L[(i + 1) % L.length] := by
        rw [List.getD_eq_getElem?_getD, List.getD_eq_getElem?_getD, List.getElem?_eq_getElem hi, List.getElem?_eq_getElem hn] at e
        exact e
      rw [e2]
      exact List.mem_eraseIdx_iff_getElem.2 ⟨_, hn, hne', rfl⟩
    · exact List.mem_eraseIdx_iff_getElem.2 ⟨i, hi, hik, rfl⟩
  exact ⟨p, key p hp, q, key q hq, hne⟩

end Go.Proofs.Ytlocdadkhdcedaa
