/- The abstract machine, part JF. -/
import Derived.Test.YtpknllbglppjcaaJB
/- The area of a closed polygon whose edges meet only where they follow one another is not 0 (plain). -/
namespace Go.Proofs.Ytpknllbglppjcaa
open Go Go.RowKit Go.Proofs

/-! ### stretched -/
def mp (K : Int) (p : P2) : P2 := (K * p.1, 2 * p.2)

theorem mp_crs (K : Int) (a b c : P2) : crs (mp K a) (mp K b) (mp K c) = (2 * K) * crs a b c := by
  show cross (K * a.1) (2 * a.2) (K * b.1) (2 * b.2) (K * c.1) (2 * c.2) = (2 * K) * cross a.1 a.2 b.1 b.2 c.1 c.2
  unfold cross
  grind

theorem lie_alt {z a b : P2} : lieP z a b ↔ crs a b z = 0 ∧ (a.1 ≤ z.1 ∨ b.1 ≤ z.1) ∧ (z.1 ≤ a.1 ∨ z.1 ≤ b.1) ∧ (a.2 ≤ z.2 ∨ b.2 ≤ z.2) ∧ (z.2 ≤ a.2 ∨ z.2 ≤ b.2) := by
  unfold lieP
  omega

theorem mp_lie {K : Int} (hK : 0 < K) {z a b : P2} : lieP (mp K z) (mp K a) (mp K b) ↔ lieP z a b := by
  rw [lie_alt, lie_alt, mp_crs, zero_mul' (show 0 < 2 * K by omega)]
  have h : ∀ u v : Int, K * u ≤ K * v ↔ u ≤ v := fun u v => ⟨fun h => Int.le_of_mul_le_mul_left h hK, fun h => Int.mul_le_mul_of_nonneg_left h (by omega)⟩
  show _ ∧ (K * a.1 ≤ K * z.1 ∨ K * b.1 ≤ K * z.1) ∧ (K * z.1 ≤ K * a.1 ∨ K * z.1 ≤ K * b.1) ∧ (2 * a.2 ≤ 2 * z.2 ∨ 2 * b.2 ≤ 2 * z.2) ∧ (2 * z.2 ≤ 2 * a.2 ∨ 2 * z.2 ≤ 2 * b.2) ↔ _
  rw [h, h, h, h]
  omega

theorem mp_dj {K : Int} (hK : 0 < K) {a b A B : P2} (h : Dj a b A B) : Dj (mp K a) (mp K b) (mp K A) (mp K B) where
  cr := by
    have := h.cr
    have k : 0 < 2 * K := by omega
    rw [mp_crs, mp_crs, mp_crs, mp_crs, pos_mul k, pos_mul k, pos_mul k, pos_mul k, neg_mul' k, neg_mul' k, neg_mul' k, neg_mul' k]
    exact this
  la := fun x => h.la ((mp_lie hK).1 x)
  lb := fun x => h.lb ((mp_lie hK).1 x)
  lA := fun x => h.lA ((mp_lie hK).1 x)
  lB := fun x => h.lB ((mp_lie hK).1 x)

theorem mp_sim {K : Int} (hK : 0 < K) {P : Nat → P2} {n : Nat} (h : Sim P n) : Sim (fun j => mp K (P j)) n where
  three := h.three
  dis i k hi hk h1 h2 h3 := mp_dj hK (h.dis i k hi hk h1 h2 h3)
  bend i hi := by
    have := h.bend i hi
    rw [mp_crs]
    intro e
    exact this ((zero_mul' (show 0 < 2 * K by omega)).1 e)

/-! ### sums -/
theorem sum_swap (f : Nat → Nat → Int) (m : Nat) : ∀ n, ((List.range n).map fun i => ((List.range m).map fun j => f i j).sum).sum = ((List.range m).map fun j => ((List.range n).map fun i => f i j).sum).sum
  | 0 => (sum_zero (f := fun j => ((List.range 0).map fun i => f i j).sum) (n := m) (fun _ _ => rfl)).symm
  | n + 1 => by
    have e : ((List.range m).map fun j => ((List.range (n + 1)).map fun i => f i j).sum).sum = ((List.range m).map fun j => ((List.range n).map fun i => f i j).sum + f n j).sum := by
      congr 1
      refine List.map_congr_left fun j _ => ?_
      rw [List.range_succ, List.map_append, List.sum_append]
      simp
    rw [e, sum_add, ← sum_swap f m n, List.range_succ, List.map_append, List.sum_append]
    simp

theorem sum_below (d X : Int) : ∀ N : Nat, 0 ≤ X → ((List.range N).map fun x : Nat => if (x : Int) < X then d else 0).sum = d * (if (N : Int) ≤ X then (N : Int) else X)
  | 0, h => by rw [if_pos (by omega)]; simp
  | N + 1, h => by
    rw [List.range_succ, List.map_append, List.sum_append, sum_below d X N h]
    simp only [List.map_cons, List.map_nil, List.sum_cons, List.sum_nil, Int.add_zero]
    by_cases c1 : (N : Int) < X
    · rw [if_pos (by omega), if_pos c1, if_pos (by omega)]
      push_cast
      rw [Int.mul_add, Int.mul_one]
    · rw [if_neg c1, Int.add_zero]
      by_cases c2 : (N : Int) ≤ X
      · rw [if_pos c2, if_neg (by omega), show (N : Int) = X by omega]
      · rw [if_neg c2, if_neg (by omega)]

theorem sum_strip (E A B L T : Int) (h0 : 0 ≤ L) (h1 : L ≤ T) : ∀ N : Nat, ((List.range N).map fun h : Nat => if L ≤ (h : Int) ∧ (h : Int) < T then E * (A * (2 * T - (2 * (h : Int) + 1)) + B * ((2 * (h : Int) + 1) - 2 * L)) else 0).sum =
    E * (A * (2 * (T - L) * (if (N : Int) ≤ L then 0 else if (N : Int) ≤ T then N - L else T - L) - (if (N : Int) ≤ L then 0 else if (N : Int) ≤ T then N - L else T - L) * (if (N : Int) ≤ L then 0 else if (N : Int) ≤ T then N - L else T - L)) +
      B * ((if (N : Int) ≤ L then 0 else if (N : Int) ≤ T then N - L else T - L) * (if (N : Int) ≤ L then 0 else if (N : Int) ≤ T then N - L else T - L)))
  | 0 => by
    rw [if_pos (show ((0 : Nat) : Int) ≤ L by simpa using h0)]
    simp
  | N + 1 => by
    rw [List.range_succ, List.map_append, List.sum_append, sum_strip E A B L T h0 h1 N]
    simp only [List.map_cons, List.map_nil, List.sum_cons, List.sum_nil, Int.add_zero]
    by_cases c1 : (N : Int) < L
    · rw [if_pos (show (N : Int) ≤ L by omega), if_pos (show ((N + 1 : Nat) : Int) ≤ L by omega), if_neg (by omega)]
      simp
    · by_cases c2 : (N : Int) < T
      · have e1 : (if (N : Int) ≤ L then 0 else if (N : Int) ≤ T then (N : Int) - L else T - L) = N - L := by split <;> (try split) <;> omega
        have e2 : (if ((N + 1 : Nat) : Int) ≤ L then 0 else if ((N + 1 : Nat) : Int) ≤ T then ((N + 1 : Nat) : Int) - L else T - L) = N - L + 1 := by split <;> (try split) <;> omega
        rw [e1, e2, if_pos ⟨by omega, c2⟩]
        generalize (N : Int) = M
        grind
      · have e1 : (if (N : Int) ≤ L then 0 else if (N : Int) ≤ T then (N : Int) - L else T - L) = T - L := by split <;> (try split) <;> omega
        have e2 : (if ((N + 1 : Nat) : Int) ≤ L then 0 else if ((N + 1 : Nat) : Int) ≤ T then ((N + 1 : Nat) : Int) - L else T - L) = T - L := by split <;> (try split) <;> omega
        rw [e1, e2, if_neg (by omega), Int.add_zero]

theorem sum_strip_all {E A B L T : Int} (h0 : 0 ≤ L) (h1 : L ≤ T) {N : Nat} (h2 : T ≤ N) : ((List.range N).map fun h : Nat => if L ≤ (h : Int) ∧ (h : Int) < T then E * (A * (2 * T - (2 * (h : Int) + 1)) + B * ((2 * (h : Int) + 1) - 2 * L)) else 0).sum = E * (T - L) * (T - L) * (A + B) := by
  rw [sum_strip E A B L T h0 h1 N]
  have e1 : (if (N : Int) ≤ L then 0 else if (N : Int) ≤ T then (N : Int) - L else T - L) = T - L := by split <;> (try split) <;> omega
  rw [e1]
  grind

theorem sum_mul (c : Int) (f : Nat → Int) : ∀ l : List Nat, (l.map fun j => c * f j).sum = c * (l.map f).sum
  | [] => by simp
  | x :: l => by
    simp only [List.map_cons, List.sum_cons, sum_mul c f l, Int.mul_add]

/-- A number that all of some divide. -/
theorem all_divide (v : Nat → Int) (hv : ∀ j, 0 < v j) : ∀ n, ∃ K : Int, 0 < K ∧ ∀ j, j < n → ∃ E : Int, 0 < E ∧ E * v j = K
  | 0 => ⟨1, by omega, fun j hj => by omega⟩
  | n + 1 => by
    obtain ⟨K, hK, h⟩ := all_divide v hv n
    refine ⟨K * v n, Int.mul_pos hK (hv n), fun j hj => ?_⟩
    by_cases c : j = n
    · subst c
      exact ⟨K, hK, rfl⟩
    · obtain ⟨E, hE, e⟩ := h j (by omega)
      refine ⟨E * v n, Int.mul_pos hE (hv n), ?_⟩
      rw [← e]
      grind

end Go.Proofs.Ytpknllbglppjcaa

/- The area of a closed polygon whose edges meet only where they follow one another is not 0 (plain). -/
namespace Go.Proofs.Ytpknllbglppjcaa
open Go Go.RowKit Go.Proofs

section
variable {P : Nat → P2} {n : Nat} {K : Int}

theorem mp_lo (j : Nat) : lo (fun i => mp K (P i)) n j = mp K (lo P n j) := by
  unfold lo
  show (if 2 * (P j).2 < 2 * (P ((j + 1) % n)).2 then mp K (P j) else mp K (P ((j + 1) % n))) = _
  by_cases h : (P j).2 < (P ((j + 1) % n)).2
  · rw [if_pos (by omega), if_pos h]
  · rw [if_neg (by omega), if_neg h]

theorem mp_tp (j : Nat) : tp (fun i => mp K (P i)) n j = mp K (tp P n j) := by
  unfold tp
  show (if 2 * (P j).2 < 2 * (P ((j + 1) % n)).2 then mp K (P ((j + 1) % n)) else mp K (P j)) = _
  by_cases h : (P j).2 < (P ((j + 1) % n)).2
  · rw [if_pos (by omega), if_pos h]
  · rw [if_neg (by omega), if_neg h]

theorem mp_dir (j : Nat) : dir (fun i => mp K (P i)) n j = dir P n j := by
  unfold dir
  show (if 2 * (P j).2 < 2 * (P ((j + 1) % n)).2 then (1 : Int) else -1) = _
  by_cases h : (P j).2 < (P ((j + 1) % n)).2
  · rw [if_pos (by omega), if_pos h]
  · rw [if_neg (by omega), if_neg h]

/-- Where an edge is at a height. -/
def XX (E : Int) (a b : P2) (y : Int) : Int := E * (a.1 * (2 * b.2 - y) + b.1 * (y - 2 * a.2))

theorem mp_side {E : Int} {a b : P2} (hK : E * dn a b * 2 = K) (x y : Int) : crs (mp K a) (mp K b) (x, y) = 2 * dn a b * (XX E a b y - x) := by
  rw [← hK]
  unfold XX dn
  show cross (E * (b.2 - a.2) * 2 * a.1) (2 * a.2) (E * (b.2 - a.2) * 2 * b.1) (2 * b.2) x y = _
  unfold cross
  grind

theorem lo_le (j : Nat) : (lo P n j).2 ≤ (tp P n j).2 := by
  unfold lo tp
  split <;> omega

theorem lo_tp_in {j : Nat} (hj : j < n) (hc : ∀ j, j < n → (0 ≤ (P j).1 ∧ (P j).1 ≤ 4096) ∧ 0 ≤ (P j).2 ∧ (P j).2 ≤ 4096) :
    ((0 ≤ (lo P n j).1 ∧ (lo P n j).1 ≤ 4096) ∧ 0 ≤ (lo P n j).2 ∧ (lo P n j).2 ≤ 4096) ∧ ((0 ≤ (tp P n j).1 ∧ (tp P n j).1 ≤ 4096) ∧ 0 ≤ (tp P n j).2 ∧ (tp P n j).2 ≤ 4096) := by
  have h1 := hc j hj
  have h2 := hc ((j + 1) % n) (Nat.mod_lt _ (by omega))
  unfold lo tp
  split <;> exact ⟨by assumption, by assumption⟩

theorem XX_in {E : Int} {a b : P2} (hE : 0 < E) (hK : E * dn a b * 2 = K) (ha : 0 ≤ a.1 ∧ a.1 ≤ 4096) (hb : 0 ≤ b.1 ∧ b.1 ≤ 4096) {y : Int} (h1 : 2 * a.2 ≤ y) (h2 : y ≤ 2 * b.2) : 0 ≤ XX E a b y ∧ XX E a b y ≤ 4096 * K := by
  have m1 := Int.mul_nonneg ha.1 (show 0 ≤ 2 * b.2 - y by omega)
  have m2 := Int.mul_nonneg hb.1 (show 0 ≤ y - 2 * a.2 by omega)
  have m3 := Int.mul_nonneg (show 0 ≤ 4096 - a.1 by omega) (show 0 ≤ 2 * b.2 - y by omega)
  have m4 := Int.mul_nonneg (show 0 ≤ 4096 - b.1 by omega) (show 0 ≤ y - 2 * a.2 by omega)
  have e : 4096 * K - XX E a b y = E * ((4096 - a.1) * (2 * b.2 - y) + (4096 - b.1) * (y - 2 * a.2)) := by
    rw [← hK]
    unfold XX dn
    grind
  have n1 := Int.mul_nonneg (show 0 ≤ E by omega) (show 0 ≤ a.1 * (2 * b.2 - y) + b.1 * (y - 2 * a.2) by omega)
  have n2 := Int.mul_nonneg (show 0 ≤ E by omega) (show 0 ≤ (4096 - a.1) * (2 * b.2 - y) + (4096 - b.1) * (y - 2 * a.2) by omega)
  rw [← e] at n2
  unfold XX at n2 ⊢
  omega

/-- Twice the area, over the edges. -/
def AA (P : Nat → P2) (n : Nat) : Int := ((List.range n).map fun j => (P j).1 * (P ((j + 1) % n)).2 - (P ((j + 1) % n)).1 * (P j).2).sum

theorem AA_strips : AA P n = ((List.range n).map fun j => dir P n j * (dn (lo P n j) (tp P n j) * ((lo P n j).1 + (tp P n j).1))).sum := by
  have h := sum_tele (fun j => (P j).1 * (P j).2) n
  have e : ((List.range n).map fun j => dir P n j * (dn (lo P n j) (tp P n j) * ((lo P n j).1 + (tp P n j).1))).sum = ((List.range n).map fun j => ((P j).1 * (P ((j + 1) % n)).2 - (P ((j + 1) % n)).1 * (P j).2) - ((P j).1 * (P j).2 - (P ((j + 1) % n)).1 * (P ((j + 1) % n)).2)).sum := by
    congr 1
    refine List.map_congr_left fun j _ => ?_
    unfold dir lo tp dn
    split <;> grind
  rw [e, sum_sub, h]
  unfold AA
  omega

end

end Go.Proofs.Ytpknllbglppjcaa
