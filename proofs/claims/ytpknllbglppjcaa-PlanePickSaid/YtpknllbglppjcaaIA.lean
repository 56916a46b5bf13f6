/- The abstract machine, part IA. -/
import Derived.Test.YtpknllbglppjcaaJB
import Derived.Test.YtpknllbglppjcaaJF
/- Turning (plain): along a closed polygon whose edges meet only where they follow one another, the edges turn once around (Hopf). -/
namespace Go.Proofs.Ytpknllbglppjcaa
open Go Go.RowKit Go.Proofs

/-- How the way from a over p to q turns over the direction to the right. -/
def tc (a p q : P2) : Int := if p.2 ≤ a.2 ∧ p.2 < q.2 ∧ 0 < crs a p q then 1 else if q.2 ≤ p.2 ∧ a.2 < p.2 ∧ crs a p q < 0 then -1 else 0
/-- How the direction to c turns while one goes from A to B. -/
def ih (A B c : P2) : Int := if c.2 ≤ A.2 ∧ B.2 < c.2 ∧ 0 < crs A B c then 1 else if c.2 ≤ B.2 ∧ A.2 < c.2 ∧ crs A B c < 0 then -1 else 0

theorem ih_up {A B c : P2} (h : A.2 < B.2) : ih A B c = - inr A B B.2 c := by
  unfold ih inr
  repeat' split
  all_goals omega
theorem ih_down {A B c : P2} (h : B.2 < A.2) : ih A B c = inr B A A.2 c := by
  unfold ih inr
  rw [crs_swap B A]
  repeat' split
  all_goals omega
theorem ih_level {A B c : P2} (h : A.2 = B.2) : ih A B c = 0 := by
  unfold ih
  repeat' split
  all_goals omega

/-- Two edges without a common point: both ways around the square come to the same. -/
theorem quad4 {A B c d : P2} (h : Dj c d A B) : ih A B c + cw c d B = cw c d A + ih A B d := by
  rcases Int.lt_trichotomy A.2 B.2 with hE | hE | hE
  · have e := ll h hE (y := B.2) (by omega) (by omega)
    rw [ce_top hE] at e
    rw [ih_up hE, ih_up hE]
    omega
  · have e := lh h hE
    rw [ih_level hE, ih_level hE]
    omega
  · have e := ll h.swapE hE (y := A.2) (by omega) (by omega)
    rw [ce_top hE] at e
    rw [ih_down hE, ih_down hE]
    omega

/-- At a corner. -/
theorem turn_at {a p q : P2} (_h : crs a p q ≠ 0) : cw p q a + ih a p q = tc a p q := by
  unfold cw ih tc
  rw [crs_turn]
  repeat' split
  all_goals omega

section
variable {P : Nat → P2} {n : Nat}

/-- The way of the directions from the corner i to the corners up to m. -/
def rw_ (P : Nat → P2) (n i m : Nat) : Int := ((List.range (m - (i + 1))).map fun k => cw (P ((i + 1 + k) % n)) (P ((i + 1 + k + 1) % n)) (P (i % n))).sum

theorem rw_zero (i : Nat) : rw_ P n i (i + 1) = 0 := by
  unfold rw_
  rw [Nat.sub_self]
  rfl

theorem rw_succ {i m : Nat} (h : i + 1 ≤ m) : rw_ P n i (m + 1) = rw_ P n i m + cw (P (m % n)) (P ((m + 1) % n)) (P (i % n)) := by
  unfold rw_
  rw [show m + 1 - (i + 1) = (m - (i + 1)) + 1 by omega, List.range_succ, List.map_append, List.sum_append]
  simp only [List.map_cons, List.map_nil, List.sum_cons, List.sum_nil]
  rw [show i + 1 + (m - (i + 1)) = m by omega]
  omega

theorem mods {n i : Nat} (h : i < n) : i % n = i := Nat.mod_eq_of_lt h

/-- From one row to the next one. -/
theorem row_next (hS : Sim P n) {i : Nat} (hi : i + 2 ≤ n) : ∀ k, i + 2 + k ≤ n → (i = 0 → i + 2 + k < n) →
    rw_ P n i (i + 2 + k) + ih (P (i % n)) (P ((i + 1) % n)) (P ((i + 2 + k) % n)) = tc (P (i % n)) (P ((i + 1) % n)) (P ((i + 2) % n)) + rw_ P n (i + 1) (i + 2 + k) := by
  have h3 := hS.three
  intro k
  induction k with
  | zero =>
    intro _ _
    have hb := hS.bend (i + 1) (by omega)
    rw [show (i + 1 + n - 1) % n = i % n by rw [show i + 1 + n - 1 = i + n by omega, Nat.add_mod_right], show (i + 1 + 1) % n = (i + 2) % n by rfl] at hb
    have e := turn_at hb
    rw [Nat.add_zero, rw_succ (m := i + 1) (by omega), rw_zero, rw_zero, mods (show i + 1 < n by omega), show i + 1 + 1 = i + 2 from rfl]
    omega
  | succ k ih2 =>
    intro h1 h2
    have := ih2 (by omega) (fun h => by have := h2 h; omega)
    rw [show i + 2 + (k + 1) = (i + 2 + k) + 1 by omega, rw_succ (m := i + 2 + k) (i := i) (by omega), rw_succ (m := i + 2 + k) (i := i + 1) (by omega)]
    have hd : Dj (P ((i + 2 + k) % n)) (P ((i + 2 + k + 1) % n)) (P (i % n)) (P ((i + 1) % n)) := by
      have hm : (i + 2 + k) % n = i + 2 + k := mods (by omega)
      have := hS.dis i (i + 2 + k) (by omega) (by omega) (by omega) (by rw [mods (show i + 1 < n by omega)]; omega) (fun e => by
        by_cases c : i + 2 + k + 1 < n
        · rw [mods c] at e; omega
        · have : i + 2 + k + 1 = n := by omega
          rw [this, Nat.mod_self] at e
          have := h2 e
          omega)
      rw [mods (show i < n by omega), hm]
      exact this
    have q := quad4 hd
    omega

/-- All turns but that at the first corner. -/
theorem rows_sum (hS : Sim P n) : ∀ k, k + 3 ≤ n + 1 → rw_ P n 1 n + ((List.range k).map fun j => ih (P (j + 1)) (P ((j + 2) % n)) (P 0)).sum = ((List.range k).map fun j => tc (P (j + 1)) (P ((j + 2) % n)) (P ((j + 3) % n))).sum + rw_ P n (k + 1) n := by
  intro k
  induction k with
  | zero => intro _; simp
  | succ k ih2 =>
    intro h
    have := ih2 (by omega)
    rw [List.range_succ, List.map_append, List.map_append, List.sum_append, List.sum_append]
    simp only [List.map_cons, List.map_nil, List.sum_cons, List.sum_nil]
    have e := row_next hS (i := k + 1) (by omega) (n - (k + 3)) (by omega) (by omega)
    rw [show k + 1 + 2 + (n - (k + 3)) = n by omega, Nat.mod_self, mods (show k + 1 < n by omega), show k + 1 + 1 = k + 2 by omega, show k + 1 + 2 = k + 3 by omega] at e
    rw [show k + 1 + 1 = k + 2 from rfl]
    omega

/-- The first corner is the least by x, then by y. -/
def Least (P : Nat → P2) (n : Nat) : Prop := ∀ j, 0 < j → j < n → (P 0).1 < (P j).1 ∨ ((P 0).1 = (P j).1 ∧ (P 0).2 < (P j).2)

theorem crs_rel (o u v : P2) : crs o u v = (u.1 - o.1) * (v.2 - o.2) - (u.2 - o.2) * (v.1 - o.1) := rfl

theorem cw_least {o u v : P2} (hu : o.1 < u.1 ∨ (o.1 = u.1 ∧ o.2 < u.2)) (hv : o.1 < v.1 ∨ (o.1 = v.1 ∧ o.2 < v.2)) : cw u v o = bi (o.2 < v.2) - bi (o.2 < u.2) := by
  have e : crs u v o = (u.1 - o.1) * (v.2 - o.2) - (u.2 - o.2) * (v.1 - o.1) := by
    rw [crs_cyc o u v, crs_rel]
  have m1 : ∀ x y : Int, 0 < x → 0 < y → 0 < x * y := fun x y h1 h2 => Int.mul_pos h1 h2
  have m2 : ∀ x y : Int, 0 ≤ x → 0 ≤ y → 0 ≤ x * y := fun x y h1 h2 => Int.mul_nonneg h1 h2
  have neg : (u.2 - o.2) * (v.1 - o.1) = - ((o.2 - u.2) * (v.1 - o.1)) := by grind
  have neg2 : (u.1 - o.1) * (v.2 - o.2) = - ((u.1 - o.1) * (o.2 - v.2)) := by grind
  unfold cw bi
  by_cases c1 : u.2 ≤ o.2
  · by_cases c2 : o.2 < v.2
    · have p1 := m1 (u.1 - o.1) (v.2 - o.2) (by omega) (by omega)
      have p2 := m2 (o.2 - u.2) (v.1 - o.1) (by omega) (by omega)
      rw [if_pos ⟨c1, c2, by omega⟩, if_pos c2, if_neg (by omega)]
      rfl
    · rw [if_neg (by omega), if_neg (by omega), if_neg (by omega), if_neg (by omega)]
      rfl
  · by_cases c2 : o.2 < v.2
    · rw [if_neg (by omega), if_neg (by omega), if_pos c2, if_pos (by omega)]
      rfl
    · have p1 := m1 (u.2 - o.2) (v.1 - o.1) (by omega) (by omega)
      have p2 := m2 (u.1 - o.1) (o.2 - v.2) (by omega) (by omega)
      rw [if_neg (by omega), if_pos ⟨by omega, by omega, by omega⟩, if_neg c2, if_pos (by omega)]
      rfl

theorem ih_least {o u v : P2} (hu : o.1 < u.1 ∨ (o.1 = u.1 ∧ o.2 < u.2)) (hv : o.1 < v.1 ∨ (o.1 = v.1 ∧ o.2 < v.2)) : ih u v o = 0 := by
  have e : crs u v o = (u.1 - o.1) * (v.2 - o.2) - (u.2 - o.2) * (v.1 - o.1) := by
    rw [crs_cyc o u v, crs_rel]
  have m2 : ∀ x y : Int, 0 ≤ x → 0 ≤ y → 0 ≤ x * y := fun x y h1 h2 => Int.mul_nonneg h1 h2
  have neg : (u.2 - o.2) * (v.1 - o.1) = - ((o.2 - u.2) * (v.1 - o.1)) := by grind
  have neg2 : (u.1 - o.1) * (v.2 - o.2) = - ((u.1 - o.1) * (o.2 - v.2)) := by grind
  unfold ih
  by_cases c1 : o.2 ≤ u.2 ∧ v.2 < o.2
  · have p1 := m2 (u.1 - o.1) (o.2 - v.2) (by omega) (by omega)
    have p2 := m2 (u.2 - o.2) (v.1 - o.1) (by omega) (by omega)
    rw [if_neg (by omega), if_neg (by omega)]
  · by_cases c2 : o.2 ≤ v.2 ∧ u.2 < o.2
    · have p1 := m2 (u.1 - o.1) (v.2 - o.2) (by omega) (by omega)
      have p2 := m2 (o.2 - u.2) (v.1 - o.1) (by omega) (by omega)
      rw [if_neg (by omega), if_neg (by omega)]
    · rw [if_neg (by omega), if_neg (by omega)]

/-- The first row: from the second corner to the last one. -/
theorem row_first (h3 : 3 ≤ n) (hl : Least P n) : ∀ k, k + 2 ≤ n → rw_ P n 0 (k + 1) = bi ((P 0).2 < (P (k + 1)).2) - bi ((P 0).2 < (P 1).2) := by
  intro k
  induction k with
  | zero => intro _; rw [rw_zero]; exact (Int.sub_self _).symm
  | succ k ih2 =>
    intro h
    rw [rw_succ (m := k + 1) (by omega), ih2 (by omega), mods (show k + 1 < n by omega), mods (show k + 1 + 1 < n by omega), mods (show 0 < n by omega), cw_least (hl (k + 1) (by omega) (by omega)) (hl (k + 1 + 1) (by omega) (by omega))]
    omega

/-- What is left at the first corner. -/
theorem first_corner {o p q : P2} (hp : o.1 < p.1 ∨ (o.1 = p.1 ∧ o.2 < p.2)) (hq : o.1 < q.1 ∨ (o.1 = q.1 ∧ o.2 < q.2)) (hc : 0 < crs p o q) :
    bi (o.2 < p.2) - bi (o.2 < q.2) + ih o q p + cw p o q + tc p o q = 1 := by
  have e1 : crs o q p = crs p o q := crs_turn p o q
  have e0 : crs p o q = (q.1 - o.1) * (p.2 - o.2) - (q.2 - o.2) * (p.1 - o.1) := by rw [← e1, crs_rel]
  have m1 : ∀ x y : Int, 0 < x → 0 < y → 0 < x * y := fun x y h1 h2 => Int.mul_pos h1 h2
  have m2 : ∀ x y : Int, 0 ≤ x → 0 ≤ y → 0 ≤ x * y := fun x y h1 h2 => Int.mul_nonneg h1 h2
  have neg : (q.1 - o.1) * (p.2 - o.2) = - ((q.1 - o.1) * (o.2 - p.2)) := by grind
  have key : p.2 ≤ o.2 → q.2 < o.2 := fun h => by
    have p2 := m2 (q.1 - o.1) (o.2 - p.2) (by omega) (by omega)
    have hx : 0 < p.1 - o.1 := by omega
    by_cases h1 : q.2 < o.2
    · exact h1
    · have := m2 (q.2 - o.2) (p.1 - o.1) (by omega) (by omega)
      omega
  unfold ih cw tc bi
  rw [e1]
  repeat' split
  all_goals omega

/-- The edges turn once around. -/
theorem umlauf (hS : Sim P n) (hl : Least P n) (hc : 0 < crs (P (n - 1)) (P 0) (P 1)) : ((List.range n).map fun i => tc (P ((i + n - 1) % n)) (P i) (P ((i + 1) % n))).sum = 1 := by
  have h3 := hS.three
  -- corners one after the other, the first one last
  have e0 := row_next hS (i := 0) (by omega) (n - 3) (by omega) (by omega)
  rw [show 0 + 2 + (n - 3) = n - 1 by omega, mods (show 0 < n by omega), mods (show 0 + 1 < n by omega), mods (show 0 + 2 < n by omega), mods (show n - 1 < n by omega)] at e0
  have e1 := rows_sum hS (n - 2) (by omega)
  rw [show n - 2 + 1 = n - 1 by omega] at e1
  have z1 : rw_ P n (n - 1) n = 0 := by
    have := rw_zero (P := P) (n := n) (n - 1)
    rwa [show n - 1 + 1 = n by omega] at this
  have z2 : ((List.range (n - 2)).map fun j => ih (P (j + 1)) (P ((j + 2) % n)) (P 0)).sum = 0 := sum_zero fun j hj => by
    rw [mods (show j + 2 < n by omega)]
    exact ih_least (hl _ (by omega) (by omega)) (hl _ (by omega) (by omega))
  have e2 := rw_succ (P := P) (n := n) (i := 1) (m := n - 1) (by omega)
  rw [show n - 1 + 1 = n by omega, Nat.mod_self, mods (show n - 1 < n by omega), mods (show 1 < n by omega)] at e2
  have e3 := row_first (P := P) h3 hl (n - 2) (by omega)
  rw [show n - 2 + 1 = n - 1 by omega] at e3
  have e4 := first_corner (hl (n - 1) (by omega) (by omega)) (hl 1 (by omega) (by omega)) hc
  -- the sum, laid out
  obtain ⟨m, rfl⟩ : ∃ m, n = m + 2 := ⟨n - 2, by omega⟩
  have s : ((List.range (m + 2)).map fun i => tc (P ((i + (m + 2) - 1) % (m + 2))) (P i) (P ((i + 1) % (m + 2)))).sum =
      tc (P (m + 1)) (P 0) (P 1) + (tc (P 0) (P 1) (P 2) + ((List.range m).map fun j => tc (P (j + 1)) (P ((j + 2) % (m + 2))) (P ((j + 3) % (m + 2)))).sum) := by
    rw [List.range_succ_eq_map, List.map_cons, List.sum_cons, List.map_map]
    have a0 : (0 + (m + 2) - 1) % (m + 2) = m + 1 := by rw [mods (by omega)]; omega
    have a1 : (0 + 1) % (m + 2) = 1 := mods (by omega)
    rw [a0, a1, List.range_succ_eq_map, List.map_cons, List.sum_cons, List.map_map]
    have b0 : ((fun i => tc (P ((i + (m + 2) - 1) % (m + 2))) (P i) (P ((i + 1) % (m + 2)))) ∘ Nat.succ) 0 = tc (P 0) (P 1) (P 2) := by
      show tc (P ((0 + 1 + (m + 2) - 1) % (m + 2))) (P (0 + 1)) (P ((0 + 1 + 1) % (m + 2))) = _
      rw [show 0 + 1 + (m + 2) - 1 = m + 2 by omega, Nat.mod_self, mods (show 0 + 1 + 1 < m + 2 by omega)]
    rw [b0]
    congr 2
    congr 1
    refine List.map_congr_left fun j hj => ?_
    have hj := List.mem_range.1 hj
    show tc (P ((j + 1 + 1 + (m + 2) - 1) % (m + 2))) (P (j + 1 + 1)) (P ((j + 1 + 1 + 1) % (m + 2))) = _
    rw [show j + 1 + 1 + (m + 2) - 1 = j + 1 + (m + 2) by omega, Nat.add_mod_right, mods (show j + 1 < m + 2 by omega), mods (show j + 2 < m + 2 by omega)]
  rw [s]
  simp only [show m + 2 - 2 = m from rfl, show m + 2 - 1 = m + 1 from rfl] at e0 e1 e2 e3 e4 z1 z2
  have q0 : 0 + 1 = 1 := rfl
  have q1 : 0 + 2 = 2 := rfl
  rw [q0, q1] at e0
  omega

end
end Go.Proofs.Ytpknllbglppjcaa

/- The corners of a closed polygon (plain): how many edges lie to the right of each, and that these counts and the downward edges differ by one. -/
namespace Go.Proofs.Ytpknllbglppjcaa
open Go Go.RowKit Go.Proofs

/-- An edge downward, or level to the right. -/
def hd (a b : P2) : Int := if b.2 < a.2 ∨ (a.2 = b.2 ∧ a.1 < b.1) then 1 else 0

theorem corner_tc {N : Int} {a p q : P2} (h : crs a p q ≠ 0) (h0 : tR N a p q = 0) : hd a p - N = tc a p q := by
  have k1 : a.2 = p.2 → crs a p q = (p.1 - a.1) * (q.2 - p.2) := fun e => by
    unfold crs cross
    rw [e]
    grind
  have k2 : q.2 = p.2 → crs a p q = (p.2 - a.2) * (p.1 - q.1) := fun e => by
    unfold crs cross
    rw [e]
    grind
  have m1 : ∀ u v : Int, 0 < u → (0 < u * v ↔ 0 < v) := fun u v hu => pos_mul hu
  have m2 : ∀ u v : Int, 0 < u → (u * v < 0 ↔ v < 0) := fun u v hu => neg_mul' hu
  have m3 : ∀ u v : Int, u < 0 → (0 < u * v ↔ v < 0) := fun u v hu => by
    have := neg_mul' (u := v) (show 0 < -u by omega)
    rw [Int.neg_mul] at this
    omega
  have m4 : ∀ u v : Int, u < 0 → (u * v < 0 ↔ 0 < v) := fun u v hu => by
    have := pos_mul (u := v) (show 0 < -u by omega)
    rw [Int.neg_mul] at this
    omega
  have n1 : a.2 = p.2 → a.1 ≠ p.1 := fun e x => h (by rw [k1 e, x]; simp)
  have n2 : q.2 = p.2 → q.1 ≠ p.1 := fun e x => h (by rw [k2 e, x]; simp)
  have n3 : a.2 = p.2 → q.2 ≠ p.2 := fun e x => h (by rw [k1 e, x]; simp)
  unfold tR bi at h0
  unfold hd tc
  rcases Int.lt_trichotomy a.2 p.2 with ha | ha | ha <;> rcases Int.lt_trichotomy q.2 p.2 with hq | hq | hq
  · repeat' split at h0
    all_goals repeat' split
    all_goals omega
  · have e := k2 hq
    have s1 := m1 (p.2 - a.2) (p.1 - q.1) (by omega)
    have s2 := m2 (p.2 - a.2) (p.1 - q.1) (by omega)
    rw [← e] at s1 s2
    have := n2 hq
    repeat' split at h0
    all_goals repeat' split
    all_goals omega
  · repeat' split at h0
    all_goals repeat' split
    all_goals omega
  · have e := k1 ha
    have := n1 ha
    rcases Int.lt_or_gt_of_ne this with c | c
    · have s1 := m1 (p.1 - a.1) (q.2 - p.2) (by omega)
      have s2 := m2 (p.1 - a.1) (q.2 - p.2) (by omega)
      rw [← e] at s1 s2
      repeat' split at h0
      all_goals repeat' split
      all_goals omega
    · have s1 := m3 (p.1 - a.1) (q.2 - p.2) (by omega)
      have s2 := m4 (p.1 - a.1) (q.2 - p.2) (by omega)
      rw [← e] at s1 s2
      repeat' split at h0
      all_goals repeat' split
      all_goals omega
  · exact absurd hq (n3 ha)
  · have e := k1 ha
    have := n1 ha
    rcases Int.lt_or_gt_of_ne this with c | c
    · have s1 := m1 (p.1 - a.1) (q.2 - p.2) (by omega)
      have s2 := m2 (p.1 - a.1) (q.2 - p.2) (by omega)
      rw [← e] at s1 s2
      repeat' split at h0
      all_goals repeat' split
      all_goals omega
    · have s1 := m3 (p.1 - a.1) (q.2 - p.2) (by omega)
      have s2 := m4 (p.1 - a.1) (q.2 - p.2) (by omega)
      rw [← e] at s1 s2
      repeat' split at h0
      all_goals repeat' split
      all_goals omega
  · repeat' split at h0
    all_goals repeat' split
    all_goals omega
  · have e := k2 hq
    have s1 := m3 (p.2 - a.2) (p.1 - q.1) (by omega)
    have s2 := m4 (p.2 - a.2) (p.1 - q.1) (by omega)
    rw [← e] at s1 s2
    have := n2 hq
    repeat' split at h0
    all_goals repeat' split
    all_goals omega
  · repeat' split at h0
    all_goals repeat' split
    all_goals omega

section
variable {P : Nat → P2} {n : Nat}

/-- The edges to the right of the first corner. -/
theorem NN_first (h3 : 3 ≤ n) (hl : Least P n) : NN P n (P 0) = bi ((P 0).2 < (P (n - 1)).2) - bi ((P 0).2 < (P 1).2) := by
  have e3 := row_first (P := P) h3 hl (n - 2) (by omega)
  rw [show n - 2 + 1 = n - 1 by omega] at e3
  obtain ⟨m, rfl⟩ : ∃ m, n = m + 2 := ⟨n - 2, by omega⟩
  rw [← e3]
  unfold NN rw_
  rw [List.range_succ, List.map_append, List.sum_append, List.range_succ_eq_map, List.map_cons, List.sum_cons, List.map_map]
  have z0 : cw (P 0) (P ((0 + 1) % (m + 2))) (P 0) = 0 := by
    unfold cw
    rw [crs_aba]
    rw [if_neg (by omega), if_neg (by omega)]
  have z1 : cw (P (m + 1)) (P ((m + 1 + 1) % (m + 2))) (P 0) = 0 := by
    rw [show m + 1 + 1 = m + 2 from rfl, Nat.mod_self]
    unfold cw
    rw [crs_abb]
    rw [if_neg (by omega), if_neg (by omega)]
  simp only [List.map_cons, List.map_nil, List.sum_cons, List.sum_nil]
  rw [z0, z1, show m + 2 - 1 - (0 + 1) = m by omega]
  have e : (List.map ((fun j => cw (P j) (P ((j + 1) % (m + 2))) (P 0)) ∘ Nat.succ) (List.range m)) = (List.range m).map fun k => cw (P ((0 + 1 + k) % (m + 2))) (P ((0 + 1 + k + 1) % (m + 2))) (P (0 % (m + 2))) := by
    refine List.map_congr_left fun j hj => ?_
    have hj := List.mem_range.1 hj
    show cw (P (j + 1)) (P ((j + 1 + 1) % (m + 2))) (P 0) = _
    rw [mods (show 0 + 1 + j < m + 2 by omega), show 0 + 1 + j = j + 1 by omega, mods (show 0 < m + 2 by omega)]
  rw [e]
  omega

theorem RR_first (h3 : 3 ≤ n) (hl : Least P n) (hc : crs (P (n - 1)) (P 0) (P 1) ≠ 0) : RR P n 0 = if 0 < crs (P (n - 1)) (P 0) (P 1) then 0 else -1 := by
  have hN := NN_first h3 hl
  have hp := hl (n - 1) (by omega) (by omega)
  have hq := hl 1 (by omega) (by omega)
  unfold RR
  rw [show (0 + n - 1) % n = n - 1 by rw [mods (by omega)]; omega, mods (show 0 + 1 < n by omega), hN]
  show tR _ (P (n - 1)) (P 0) (P 1) = _
  generalize P (n - 1) = p, P 0 = o, P 1 = q at hp hq hc ⊢
  have e0 : crs p o q = (q.1 - o.1) * (p.2 - o.2) - (q.2 - o.2) * (p.1 - o.1) := by rw [← crs_turn p o q, crs_rel]
  have m1 : ∀ x y : Int, 0 < x → 0 < y → 0 < x * y := fun x y h1 h2 => Int.mul_pos h1 h2
  have m2 : ∀ x y : Int, 0 ≤ x → 0 ≤ y → 0 ≤ x * y := fun x y h1 h2 => Int.mul_nonneg h1 h2
  have neg : (q.1 - o.1) * (p.2 - o.2) = - ((q.1 - o.1) * (o.2 - p.2)) := by grind
  have neg2 : (q.2 - o.2) * (p.1 - o.1) = - ((o.2 - q.2) * (p.1 - o.1)) := by grind
  -- the signs
  have s1 : p.2 ≤ o.2 → o.2 < q.2 → crs p o q < 0 := fun h1 h2 => by
    have a1 := m2 (q.1 - o.1) (o.2 - p.2) (by omega) (by omega)
    have a2 := m1 (q.2 - o.2) (p.1 - o.1) (by omega) (by omega)
    omega
  have s2 : o.2 < p.2 → q.2 ≤ o.2 → 0 < crs p o q := fun h1 h2 => by
    have a1 := m1 (q.1 - o.1) (p.2 - o.2) (by omega) (by omega)
    have a2 := m2 (o.2 - q.2) (p.1 - o.1) (by omega) (by omega)
    omega
  have s3 : q.2 = o.2 → p.2 < o.2 → crs p o q < 0 := fun h1 h2 => by
    have a1 := m1 (q.1 - o.1) (o.2 - p.2) (by omega) (by omega)
    have e : q.2 - o.2 = 0 := by omega
    rw [e, Int.zero_mul] at e0
    omega
  have s4 : q.2 = o.2 → p.2 = o.2 → False := fun h1 h2 => hc (by
    rw [e0, h1, h2]
    simp)
  have r1 : ¬ (p.2 ≤ o.2 ∧ o.2 < q.2 ∧ ¬ crs p o q < 0) := fun h => h.2.2 (s1 h.1 h.2.1)
  have r2 : ¬ (o.2 < p.2 ∧ q.2 ≤ o.2 ∧ ¬ 0 < crs p o q) := fun h => h.2.2 (s2 h.1 h.2.1)
  have r3 : ¬ (q.2 = o.2 ∧ p.2 < o.2 ∧ ¬ crs p o q < 0) := fun h => h.2.2 (s3 h.1 h.2.1)
  have r4 : ¬ (q.2 = o.2 ∧ p.2 = o.2) := fun h => s4 h.1 h.2
  clear s1 s2 s3 s4 m1 m2 neg neg2 e0
  unfold tR bi
  repeat' split
  all_goals omega

/-- Downward edges, less the counts at the corners. -/
theorem corners_one (hS : Sim P n) (hl : Least P n) (hc : 0 < crs (P (n - 1)) (P 0) (P 1)) :
    ((List.range n).map fun i => hd (P i) (P ((i + 1) % n))).sum - ((List.range n).map fun i => NN P n (P i)).sum = 1 := by
  have h3 := hS.three
  have h0 := RR_first h3 hl (by omega)
  rw [if_pos hc] at h0
  have e := umlauf hS hl hc
  have s : ((List.range n).map fun i => tc (P ((i + n - 1) % n)) (P i) (P ((i + 1) % n))) = (List.range n).map fun i => hd (P ((i + n - 1) % n)) (P i) - NN P n (P i) := by
    refine List.map_congr_left fun i hi => ?_
    have hi := List.mem_range.1 hi
    have hR := all_R hS i hi
    rw [h0] at hR
    exact (corner_tc (hS.bend i hi) hR).symm
  rw [s, sum_sub] at e
  have r : ((List.range n).map fun i => hd (P ((i + n - 1) % n)) (P i)).sum = ((List.range n).map fun i => hd (P i) (P ((i + 1) % n))).sum := by
    have q := sum_rot (fun i => hd (P i) (P ((i + 1) % n))) n (n - 1)
    rw [← q]
    congr 1
    refine List.map_congr_left fun i hi => ?_
    have hi := List.mem_range.1 hi
    have e1 : i + (n - 1) = i + n - 1 := by omega
    rw [e1, next_prev hi]
  omega

end
end Go.Proofs.Ytpknllbglppjcaa

/- A polygon's sense (plain): a positive area turns to the left at the first corner; then the edges to the right of a point off the border are 0 or 1; a shear without level edges. -/
namespace Go.Proofs.Ytpknllbglppjcaa
open Go Go.RowKit Go.Proofs

/-- The area, counted on a finer grid. -/
theorem area_total {P : Nat → P2} {n : Nat} (hS : Sim P n) (hc : ∀ j, j < n → (0 ≤ (P j).1 ∧ (P j).1 ≤ 4096) ∧ 0 ≤ (P j).2 ∧ (P j).2 ≤ 4096) :
    ∃ (K : Int) (N1 N2 : Nat), 0 < K ∧ 2 * ((List.range N2).map fun h : Nat => ((List.range N1).map fun x : Nat => NN (fun j => mp K (P j)) n ((x : Int), 2 * (h : Int) + 1)).sum).sum = K * AA P n := by
  have h3 := hS.three
  obtain ⟨K0, hK0, hdiv⟩ := all_divide (fun j => if 0 < dn (lo P n j) (tp P n j) then dn (lo P n j) (tp P n j) else 1) (fun j => by show 0 < (if 0 < dn (lo P n j) (tp P n j) then dn (lo P n j) (tp P n j) else 1); split <;> omega) n
  obtain ⟨K, hKd⟩ : ∃ K, K0 * 2 = K := ⟨_, rfl⟩
  have hK : 0 < K := by omega
  have hE : ∃ E : Nat → Int, ∀ j, j < n → 0 < E j ∧ (0 < dn (lo P n j) (tp P n j) → E j * dn (lo P n j) (tp P n j) * 2 = K) := by
    have spec : ∀ j, ∃ e : Int, j < n → 0 < e ∧ (0 < dn (lo P n j) (tp P n j) → e * dn (lo P n j) (tp P n j) * 2 = K) := by
      intro j
      by_cases hj : j < n
      · obtain ⟨e, h1, h2⟩ := hdiv j hj
        refine ⟨e, fun _ => ⟨h1, fun hd => ?_⟩⟩
        have h2 : e * (if 0 < dn (lo P n j) (tp P n j) then dn (lo P n j) (tp P n j) else 1) = K0 := h2
        rw [if_pos hd] at h2
        rw [h2, hKd]
      · exact ⟨1, fun h => absurd h hj⟩
    exact ⟨fun j => Classical.choose (spec j), fun j hj => Classical.choose_spec (spec j) hj⟩
  obtain ⟨E, hE⟩ := hE
  clear hdiv
  have hS' := mp_sim hK hS
  have hfree : ∀ h : Nat, Free (fun j => mp K (P j)) n (2 * (h : Int) + 1) := fun h j _ => by
    show 2 * (P j).2 ≠ 2 * (h : Int) + 1
    omega
  -- what is counted at a point
  have cnt : ∀ (h : Nat) (x : Int), NN (fun j => mp K (P j)) n (x, 2 * (h : Int) + 1) = ((List.range n).map fun j => if (lo P n j).2 ≤ (h : Int) ∧ (h : Int) < (tp P n j).2 then (if x < XX (E j) (lo P n j) (tp P n j) (2 * (h : Int) + 1) then dir P n j else 0) else 0).sum := by
    intro h x
    unfold NN
    congr 1
    refine List.map_congr_left fun j hj => ?_
    have hj := List.mem_range.1 hj
    refine (cw_is (P := fun j => mp K (P j)) (p := (x, 2 * (h : Int) + 1)) (hfree h) hj).trans ?_
    have i1 : Cr (fun j => mp K (P j)) n (2 * (h : Int) + 1) j ↔ (lo P n j).2 ≤ (h : Int) ∧ (h : Int) < (tp P n j).2 := by
      unfold Cr
      rw [mp_lo, mp_tp]
      show 2 * (lo P n j).2 < 2 * (h : Int) + 1 ∧ 2 * (h : Int) + 1 < 2 * (tp P n j).2 ↔ _
      omega
    have i2 : (lo P n j).2 ≤ (h : Int) ∧ (h : Int) < (tp P n j).2 → (0 < crs (lo (fun j => mp K (P j)) n j) (tp (fun j => mp K (P j)) n j) (x, 2 * (h : Int) + 1) ↔ x < XX (E j) (lo P n j) (tp P n j) (2 * (h : Int) + 1)) := by
      intro c
      have d : 0 < dn (lo P n j) (tp P n j) := by unfold dn; omega
      rw [mp_lo, mp_tp, mp_side ((hE j hj).2 d), pos_mul (show 0 < 2 * dn (lo P n j) (tp P n j) by omega)]
      omega
    by_cases c : (lo P n j).2 ≤ (h : Int) ∧ (h : Int) < (tp P n j).2
    · rw [if_pos c]
      by_cases c2 : x < XX (E j) (lo P n j) (tp P n j) (2 * (h : Int) + 1)
      · rw [if_pos c2, if_pos ⟨i1.2 c, (i2 c).2 c2⟩, mp_dir]
      · rw [if_neg c2, if_neg fun q => c2 ((i2 c).1 q.2)]
    · rw [if_neg c, if_neg fun q => c (i1.1 q.1)]
  obtain ⟨N2, hN2⟩ : ∃ N2 : Nat, N2 = 4096 := ⟨_, rfl⟩
  obtain ⟨N1, hN1⟩ : ∃ N1 : Nat, (N1 : Int) = 4096 * K + 1 := ⟨(4096 * K + 1).toNat, by omega⟩
  -- all of it together
  have total : 2 * ((List.range N2).map fun h : Nat => ((List.range N1).map fun x : Nat => NN (fun j => mp K (P j)) n ((x : Int), 2 * (h : Int) + 1)).sum).sum = K * AA P n := by
    have e1 : ((List.range N2).map fun h : Nat => ((List.range N1).map fun x : Nat => NN (fun j => mp K (P j)) n ((x : Int), 2 * (h : Int) + 1)).sum).sum =
        ((List.range N2).map fun h : Nat => ((List.range n).map fun j => if (lo P n j).2 ≤ (h : Int) ∧ (h : Int) < (tp P n j).2 then dir P n j * XX (E j) (lo P n j) (tp P n j) (2 * (h : Int) + 1) else 0).sum).sum := by
      congr 1
      refine List.map_congr_left fun h _ => ?_
      have e2 : ((List.range N1).map fun x : Nat => NN (fun j => mp K (P j)) n ((x : Int), 2 * (h : Int) + 1)) = (List.range N1).map fun x : Nat => ((List.range n).map fun j => if (lo P n j).2 ≤ (h : Int) ∧ (h : Int) < (tp P n j).2 then (if (x : Int) < XX (E j) (lo P n j) (tp P n j) (2 * (h : Int) + 1) then dir P n j else 0) else 0).sum :=
        List.map_congr_left fun x _ => cnt h x
      rw [e2, sum_swap (fun (x j : Nat) => if (lo P n j).2 ≤ (h : Int) ∧ (h : Int) < (tp P n j).2 then (if (x : Int) < XX (E j) (lo P n j) (tp P n j) (2 * (h : Int) + 1) then dir P n j else 0) else 0) n N1]
      congr 1
      refine List.map_congr_left fun j hj => ?_
      have hj := List.mem_range.1 hj
      by_cases c : (lo P n j).2 ≤ (h : Int) ∧ (h : Int) < (tp P n j).2
      · have d : 0 < dn (lo P n j) (tp P n j) := by unfold dn; omega
        obtain ⟨i1, i2⟩ := lo_tp_in hj hc
        have hX := XX_in (hE j hj).1 ((hE j hj).2 d) i1.1 i2.1 (y := 2 * (h : Int) + 1) (by omega) (by omega)
        simp only [if_pos c]
        rw [sum_below _ _ N1 hX.1, if_neg (by omega)]
      · simp only [if_neg c]
        exact sum_zero fun _ _ => rfl
    rw [e1, sum_swap (fun (h j : Nat) => if (lo P n j).2 ≤ (h : Int) ∧ (h : Int) < (tp P n j).2 then dir P n j * XX (E j) (lo P n j) (tp P n j) (2 * (h : Int) + 1) else 0) n N2, AA_strips, ← sum_mul, ← sum_mul]
    congr 1
    refine List.map_congr_left fun j hj => ?_
    have hj := List.mem_range.1 hj
    obtain ⟨i1, i2⟩ := lo_tp_in hj hc
    have ll := lo_le (P := P) (n := n) j
    have e3 : ((List.range N2).map fun h : Nat => if (lo P n j).2 ≤ (h : Int) ∧ (h : Int) < (tp P n j).2 then dir P n j * XX (E j) (lo P n j) (tp P n j) (2 * (h : Int) + 1) else 0).sum =
        dir P n j * (E j * ((tp P n j).2 - (lo P n j).2) * ((tp P n j).2 - (lo P n j).2) * ((lo P n j).1 + (tp P n j).1)) := by
      rw [← sum_strip_all (E := E j) (A := (lo P n j).1) (B := (tp P n j).1) i1.2.1 ll (N := N2) (by omega), ← sum_mul]
      congr 1
      refine List.map_congr_left fun h _ => ?_
      unfold XX
      split <;> simp
    rw [e3]
    by_cases d : 0 < dn (lo P n j) (tp P n j)
    · have := (hE j hj).2 d
      rw [← this]
      unfold dn
      grind
    · have : (tp P n j).2 - (lo P n j).2 = 0 := by unfold dn at d; omega
      have e4 : dn (lo P n j) (tp P n j) = 0 := this
      rw [this, e4]
      simp
  exact ⟨K, N1, N2, hK, total⟩

theorem area_left {P : Nat → P2} {n : Nat} (hS : Sim P n) (hl : Least P n) (hc : ∀ j, j < n → (0 ≤ (P j).1 ∧ (P j).1 ≤ 4096) ∧ 0 ≤ (P j).2 ∧ (P j).2 ≤ 4096) (ha : 0 < AA P n) : 0 < crs (P (n - 1)) (P 0) (P 1) := by
  have h3 := hS.three
  by_cases hpos : 0 < crs (P (n - 1)) (P 0) (P 1)
  · exact hpos
  exfalso
  have hb : crs (P (n - 1)) (P 0) (P 1) ≠ 0 := by
    have := hS.bend 0 (by omega)
    rwa [show (0 + n - 1) % n = n - 1 by rw [mods (by omega)]; omega, mods (show 0 + 1 < n by omega)] at this
  obtain ⟨K, N1, N2, hK, ht⟩ := area_total hS hc
  have hS' := mp_sim hK hS
  have hl' : Least (fun j => mp K (P j)) n := fun j h1 h2 => by
    have e : ∀ q : P2, (mp K q).1 = K * q.1 ∧ (mp K q).2 = 2 * q.2 := fun q => ⟨rfl, rfl⟩
    show (mp K (P 0)).1 < (mp K (P j)).1 ∨ _
    rw [(e _).1, (e _).1, (e _).2, (e _).2]
    rcases hl j h1 h2 with h | ⟨h, h'⟩
    · exact .inl (Int.mul_lt_mul_of_pos_left h hK)
    · exact .inr ⟨by rw [h], by omega⟩
  have hcr : crs ((fun j => mp K (P j)) (n - 1)) ((fun j => mp K (P j)) 0) ((fun j => mp K (P j)) 1) < 0 := by
    show crs (mp K (P (n - 1))) (mp K (P 0)) (mp K (P 1)) < 0
    rw [mp_crs]
    exact Int.mul_neg_of_pos_of_neg (by omega) (by omega)
  have hR := RR_first h3 hl' (Int.ne_of_lt hcr)
  rw [if_neg (Int.not_lt.2 (Int.le_of_lt hcr))] at hR
  have le : ∀ (h x : Nat), NN (fun j => mp K (P j)) n ((x : Int), 2 * (h : Int) + 1) ≤ 0 := fun h x => by
    have := winds_sign hS' (p := ((x : Int), 2 * (h : Int) + 1)) (fun j _ => by
      show 2 * (P j).2 ≠ 2 * (h : Int) + 1
      omega)
    rw [hR] at this
    omega
  have s1 : ∀ (f : Nat → Int) (l : List Nat), (∀ x ∈ l, f x ≤ 0) → (l.map f).sum ≤ 0 := by
    intro f l
    induction l with
    | nil => intro _; simp
    | cons x l ih2 =>
      intro h
      have a1 := h x (by simp)
      have a2 := ih2 fun y hy => h y (by simp [hy])
      simp only [List.map_cons, List.sum_cons]
      omega
  have s2 := s1 (fun h : Nat => ((List.range N1).map fun x : Nat => NN (fun j => mp K (P j)) n ((x : Int), 2 * (h : Int) + 1)).sum) (List.range N2) (fun h _ => s1 _ _ fun x _ => le h x)
  have s3 : 0 < K * AA P n := Int.mul_pos hK ha
  omega

theorem winds_pos {P : Nat → P2} {n : Nat} (hS : Sim P n) (hl : Least P n) (hc : 0 < crs (P (n - 1)) (P 0) (P 1)) {p : P2} (hb : ∀ j, j < n → -10000 < (P ((j + 1) % n)).1 - (P j).1 ∧ (P ((j + 1) % n)).1 - (P j).1 < 10000)
    (hp : ∀ j, j < n → ¬ lieP p (P j) (P ((j + 1) % n))) : 0 ≤ NN P n p ∧ NN P n p ≤ 1 := by
  have hl' : Least (fun j => sc (P j)) n := fun j h1 h2 => by
    show 10000 * (P 0).1 < 10000 * (P j).1 ∨ (10000 * (P 0).1 = 10000 * (P j).1 ∧ 10000 * (P 0).2 < 10000 * (P j).2)
    have := hl j h1 h2
    omega
  have hcr : 0 < crs ((fun j => sc (P j)) (n - 1)) ((fun j => sc (P j)) 0) ((fun j => sc (P j)) 1) := by
    show 0 < crs (sc (P (n - 1))) (sc (P 0)) (sc (P 1))
    rw [sc_crs]
    omega
  have hR := RR_first hS.three hl' (Int.ne_of_gt hcr)
  rw [if_pos hcr] at hR
  have h := winds_sign (sc_sim hS) (p := (10000 * p.1, 10000 * p.2 + 1)) (fun j _ => by
    show 10000 * (P j).2 ≠ 10000 * p.2 + 1
    omega)
  have e : NN (fun j => sc (P j)) n (10000 * p.1, 10000 * p.2 + 1) = NN P n p := by
    unfold NN
    congr 1
    exact List.map_congr_left fun j hj => by
      have hj := List.mem_range.1 hj
      exact sc_cw (hp j hj) (hb j hj).1 (hb j hj).2
  rw [e, hR] at h
  omega

/-! ### a shear: level to the right is downward -/
def shr (p : P2) : P2 := (p.1, 10000 * p.2 - p.1)

theorem shr_crs (a b c : P2) : crs (shr a) (shr b) (shr c) = 10000 * crs a b c := by
  show cross a.1 (10000 * a.2 - a.1) b.1 (10000 * b.2 - b.1) c.1 (10000 * c.2 - c.1) = 10000 * cross a.1 a.2 b.1 b.2 c.1 c.2
  unfold cross
  grind

def In (p : P2) : Prop := 0 ≤ p.1 ∧ p.1 ≤ 4096

theorem crs_at_a {a b z : P2} (h : z.2 = a.2) : crs a b z = (b.2 - a.2) * (a.1 - z.1) := by
  rw [crs_rel, h]
  grind
theorem crs_at_b {a b z : P2} (h : z.2 = b.2) : crs a b z = (b.2 - a.2) * (b.1 - z.1) := by
  rw [crs_rel, h]
  grind

theorem lie_end {a b z : P2} (hl : a.2 ≠ b.2) (h : crs a b z = 0) : (z.2 = a.2 → z.1 = a.1) ∧ (z.2 = b.2 → z.1 = b.1) := by
  constructor
  · intro e
    rw [crs_at_a e] at h
    rcases Int.mul_eq_zero.1 h with c | c <;> omega
  · intro e
    rw [crs_at_b e] at h
    rcases Int.mul_eq_zero.1 h with c | c <;> omega

theorem shr_lie {z a b : P2} (ha : In a) (hb : In b) : lieP (shr z) (shr a) (shr b) ↔ lieP z a b := by
  unfold In at ha hb
  unfold lieP
  rw [shr_crs]
  show 10000 * crs a b z = 0 ∧ min a.1 b.1 ≤ z.1 ∧ z.1 ≤ max a.1 b.1 ∧ min (10000 * a.2 - a.1) (10000 * b.2 - b.1) ≤ 10000 * z.2 - z.1 ∧ 10000 * z.2 - z.1 ≤ max (10000 * a.2 - a.1) (10000 * b.2 - b.1) ↔ _
  constructor
  · rintro ⟨h1, h2, h3, h4, h5⟩
    omega
  · rintro ⟨h1, h2, h3, h4, h5⟩
    by_cases c : a.2 = b.2
    · omega
    · have e := lie_end c h1
      have e1 : z.2 = a.2 → z.1 = a.1 := e.1
      have e2 : z.2 = b.2 → z.1 = b.1 := e.2
      by_cases c1 : z.2 = a.2
      · have := e1 c1; omega
      · by_cases c2 : z.2 = b.2
        · have := e2 c2; omega
        · omega

theorem shr_dj {a b A B : P2} (ha : In a) (hb : In b) (hA : In A) (hB : In B) (h : Dj a b A B) : Dj (shr a) (shr b) (shr A) (shr B) where
  cr := by
    have := h.cr
    rw [shr_crs, shr_crs, shr_crs, shr_crs]
    omega
  la := fun x => h.la ((shr_lie hA hB).1 x)
  lb := fun x => h.lb ((shr_lie hA hB).1 x)
  lA := fun x => h.lA ((shr_lie ha hb).1 x)
  lB := fun x => h.lB ((shr_lie ha hb).1 x)

theorem shr_sim {P : Nat → P2} {n : Nat} (hi : ∀ j, j < n → In (P j)) (h : Sim P n) : Sim (fun j => shr (P j)) n where
  three := h.three
  dis i k hi' hk h1 h2 h3 := shr_dj (hi k hk) (hi _ (Nat.mod_lt _ (by omega))) (hi i hi') (hi _ (Nat.mod_lt _ (by omega))) (h.dis i k hi' hk h1 h2 h3)
  bend i hi' := by
    have := h.bend i hi'
    rw [shr_crs]
    omega

theorem shr_cw {a b z : P2} (ha : In a) (hb : In b) (hz : In z) : cw (shr a) (shr b) (shr z) = cw a b z := by
  unfold In at ha hb hz
  unfold cw
  rw [shr_crs]
  show (if 10000 * a.2 - a.1 ≤ 10000 * z.2 - z.1 ∧ 10000 * z.2 - z.1 < 10000 * b.2 - b.1 ∧ 0 < 10000 * crs a b z then (1 : Int) else if 10000 * b.2 - b.1 ≤ 10000 * z.2 - z.1 ∧ 10000 * z.2 - z.1 < 10000 * a.2 - a.1 ∧ 10000 * crs a b z < 0 then -1 else 0) = _
  have m1 : ∀ u v : Int, 0 < u → (0 < u * v ↔ 0 < v) := fun u v hu => pos_mul hu
  have m2 : ∀ u v : Int, 0 < u → (u * v < 0 ↔ v < 0) := fun u v hu => neg_mul' hu
  have m3 : ∀ u v : Int, u < 0 → (0 < u * v ↔ v < 0) := fun u v hu => by
    have := neg_mul' (u := v) (show 0 < -u by omega)
    rw [Int.neg_mul] at this
    omega
  have m4 : ∀ u v : Int, u < 0 → (u * v < 0 ↔ 0 < v) := fun u v hu => by
    have := pos_mul (u := v) (show 0 < -u by omega)
    rw [Int.neg_mul] at this
    omega
  by_cases ca : z.2 = a.2
  · have e := crs_at_a (b := b) ca
    rcases Int.lt_trichotomy a.2 b.2 with c | c | c
    · have t1 := m1 (b.2 - a.2) (a.1 - z.1) (by omega)
      have t2 := m2 (b.2 - a.2) (a.1 - z.1) (by omega)
      rw [← e] at t1 t2
      repeat' split
      all_goals omega
    · have e0 : b.2 - a.2 = 0 := by omega
      rw [e0, Int.zero_mul] at e
      repeat' split
      all_goals omega
    · have t1 := m3 (b.2 - a.2) (a.1 - z.1) (by omega)
      have t2 := m4 (b.2 - a.2) (a.1 - z.1) (by omega)
      rw [← e] at t1 t2
      repeat' split
      all_goals omega
  · by_cases cb : z.2 = b.2
    · have e := crs_at_b (a := a) cb
      rcases Int.lt_trichotomy a.2 b.2 with c | c | c
      · have t1 := m1 (b.2 - a.2) (b.1 - z.1) (by omega)
        have t2 := m2 (b.2 - a.2) (b.1 - z.1) (by omega)
        rw [← e] at t1 t2
        repeat' split
        all_goals omega
      · omega
      · have t1 := m3 (b.2 - a.2) (b.1 - z.1) (by omega)
        have t2 := m4 (b.2 - a.2) (b.1 - z.1) (by omega)
        rw [← e] at t1 t2
        repeat' split
        all_goals omega
    · repeat' split
      all_goals omega

section
variable {P : Nat → P2} {n : Nat}

theorem shr_NN (h3 : 3 ≤ n) (hi : ∀ j, j < n → In (P j)) {z : P2} (hz : In z) : NN (fun j => shr (P j)) n (shr z) = NN P n z := by
  unfold NN
  congr 1
  exact List.map_congr_left fun j hj => by
    have hj := List.mem_range.1 hj
    exact shr_cw (hi j hj) (hi _ (Nat.mod_lt _ (by omega))) hz

/-- On an edge's line the other edges' sides are told by the point itself. -/
theorem MM_on {A B z : P2} (hE : A.2 < B.2) (h : crs A B z = 0) : MM P n A B z.2 = NN P n z := by
  unfold MM NN
  congr 1
  refine List.map_congr_left fun j _ => ?_
  have e : ∀ c d : P2, FF A B c d z.2 = dn A B * crs c d z := fun c d => by
    have h1 : nm A B z.2 = dn A B * z.1 := by rw [crs_nm] at h; omega
    unfold FF
    rw [h1, crs_nm]
    grind
  have hd : 0 < dn A B := by unfold dn; omega
  unfold ce cw
  rw [e]
  have t1 := pos_mul (u := crs (P j) (P ((j + 1) % n)) z) hd
  have t2 := neg_mul' (u := crs (P j) (P ((j + 1) % n)) z) hd
  repeat' split
  all_goals omega

/-- A point within an edge: 1 below a downward edge's side, 0 at an upward one. -/
theorem NN_edge (hS : Sim P n) (hl : Least P n) (hc : 0 < crs (P (n - 1)) (P 0) (P 1)) (hi : ∀ j, j < n → In (P j)) {i : Nat} (hin : i < n) {z : P2} (hz : lieP z (P i) (P ((i + 1) % n))) (h1 : z ≠ P i) (h2 : z ≠ P ((i + 1) % n)) :
    NN P n z = hd (P i) (P ((i + 1) % n)) := by
  have h3 := hS.three
  have iA := hi i hin
  have iB := hi ((i + 1) % n) (Nat.mod_lt _ (by omega))
  have hS' := shr_sim hi hS
  have hl' : Least (fun j => shr (P j)) n := fun j g1 g2 => by
    show (P 0).1 < (P j).1 ∨ ((P 0).1 = (P j).1 ∧ 10000 * (P 0).2 - (P 0).1 < 10000 * (P j).2 - (P j).1)
    have := hl j g1 g2
    omega
  have hcr : 0 < crs ((fun j => shr (P j)) (n - 1)) ((fun j => shr (P j)) 0) ((fun j => shr (P j)) 1) := by
    show 0 < crs (shr (P (n - 1))) (shr (P 0)) (shr (P 1))
    rw [shr_crs]
    omega
  have hR := RR_first h3 hl' (Int.ne_of_gt hcr)
  rw [if_pos hcr] at hR
  have hzi : In z := by
    unfold In lieP at *
    omega
  rw [← shr_NN h3 hi hzi]
  have hz' := (shr_lie iA iB).2 hz
  have ne : ∀ p : P2, In p → z ≠ p → (shr z).2 ≠ (shr p).2 := fun p hp hne e => by
    have e : 10000 * z.2 - z.1 = 10000 * p.2 - p.1 := e
    unfold In at hp hzi
    exact hne (Prod.ext (by omega) (by omega))
  have n1 := ne _ iA h1
  have n2 := ne _ iB h2
  have hdE : hd (P i) (P ((i + 1) % n)) = if (shr (P ((i + 1) % n))).2 < (shr (P i)).2 then 1 else 0 := by
    unfold hd In at *
    show _ = if 10000 * (P ((i + 1) % n)).2 - (P ((i + 1) % n)).1 < 10000 * (P i).2 - (P i).1 then (1 : Int) else 0
    repeat' split
    all_goals omega
  rw [hdE]
  obtain ⟨q1, -, -, q2, q3⟩ := hz'
  by_cases c : (shr (P i)).2 < (shr (P ((i + 1) % n))).2
  · rw [if_neg (by omega), ← MM_on (P := fun j => shr (P j)) (n := n) c q1]
    rw [MM_up hS' hin (by show (shr (P i)).2 < (shr z).2; omega) (by show (shr z).2 < (shr (P ((i + 1) % n))).2; omega), hR]
  · have c2 : (shr (P ((i + 1) % n))).2 < (shr (P i)).2 := by omega
    rw [if_pos c2, ← MM_on (P := fun j => shr (P j)) (n := n) c2 (by rw [crs_swap]; omega)]
    rw [MM_down hS' hin (by show (shr (P ((i + 1) % n))).2 < (shr z).2; omega) (by show (shr z).2 < (shr (P i)).2; omega), hR]
    rfl

/-- Two edges without a common point: no point lies on both. -/
theorem dj_none {a b A B z : P2} (ha : In a) (hb : In b) (hA : In A) (hB : In B) (hab : a ≠ b) (hAB : A ≠ B) (h : Dj a b A B) (h1 : lieP z a b) (h2 : lieP z A B) : False := by
  have ne : ∀ p q : P2, In p → In q → p ≠ q → (shr p).2 ≠ (shr q).2 := fun p q hp hq hne e => by
    have e : 10000 * p.2 - p.1 = 10000 * q.2 - q.1 := e
    unfold In at hp hq
    exact hne (Prod.ext (by omega) (by omega))
  have n1 := ne a b ha hb hab
  have n2 := ne A B hA hB hAB
  have d := shr_dj ha hb hA hB h
  have l1 := (shr_lie ha hb).2 h1
  have l2 := (shr_lie hA hB).2 h2
  generalize shr a = a', shr b = b', shr A = A', shr B = B', shr z = z' at n1 n2 d l1 l2
  -- both upward
  have up : ∀ {a b A B : P2}, Dj a b A B → a.2 < b.2 → A.2 < B.2 → lieP z' a b → lieP z' A B → False := by
    intro a b A B d h1 h2 l1 l2
    have := sep_ne d h2 h1 (y := z'.2)
    obtain ⟨c1, -, -, c2, c3⟩ := l1
    obtain ⟨c4, -, -, c5, c6⟩ := l2
    refine this (by omega) (by omega) (by omega) (by omega) ?_
    have e1 : nm A B z'.2 = dn A B * z'.1 := by rw [crs_nm] at c4; omega
    have e2 : nm a b z'.2 = dn a b * z'.1 := by rw [crs_nm] at c1; omega
    unfold FF
    rw [e1, e2]
    grind
  by_cases c1 : a'.2 < b'.2 <;> by_cases c2 : A'.2 < B'.2
  · exact up d c1 c2 l1 l2
  · exact up d.swapE c1 (by omega) l1 (lie_swap.1 l2)
  · exact up d.swap (by omega) c2 (lie_swap.1 l1) l2
  · exact up d.swap.swapE (by omega) (by omega) (lie_swap.1 l1) (lie_swap.1 l2)

end
end Go.Proofs.Ytpknllbglppjcaa
