/- The abstract machine, part JA. -/
import Derived.Test.YtpknllbglppjcaaUA
/- Edges, heights, sides (plain): which edges lie to the right of a point. -/
namespace Go.Proofs.Ytpknllbglppjcaa
open Go Go.RowKit Go.Proofs

abbrev P2 := Int × Int

def dn (a b : P2) : Int := b.2 - a.2
def nm (a b : P2) (y : Int) : Int := a.1 * (b.2 - a.2) + (b.1 - a.1) * (y - a.2)
/-- Above 0: at the height y the segment ab lies to the right of AB (both upward). -/
def FF (A B a b : P2) (y : Int) : Int := dn A B * nm a b y - dn a b * nm A B y
def sl (A B a b : P2) : Int := dn A B * (b.1 - a.1) - dn a b * (B.1 - A.1)

theorem FF_A (A B a b : P2) : FF A B a b A.2 = dn A B * crs a b A := by
  unfold FF nm dn crs cross
  grind
theorem FF_B (A B a b : P2) : FF A B a b B.2 = dn A B * crs a b B := by
  unfold FF nm dn crs cross
  grind
theorem FF_a (A B a b : P2) : FF A B a b a.2 = - (dn a b * crs A B a) := by
  unfold FF nm dn crs cross
  grind
theorem FF_b (A B a b : P2) : FF A B a b b.2 = - (dn a b * crs A B b) := by
  unfold FF nm dn crs cross
  grind
theorem FF_move (A B a b : P2) (y y' : Int) : FF A B a b y' = FF A B a b y + sl A B a b * (y' - y) := by
  unfold FF nm sl dn
  grind
theorem FF_swap (A B a b : P2) (y : Int) : FF A B b a y = - FF A B a b y := by
  unfold FF nm dn
  grind
theorem FF_self (A B : P2) (y : Int) : FF A B A B y = 0 := by
  unfold FF
  omega
theorem FF_low (A B A' : P2) (y : Int) : FF A B A' A y = (y - A.2) * crs A B A' := by
  unfold FF nm dn crs cross
  grind
theorem FF_top (A B B' : P2) (y : Int) : FF A B B B' y = (B.2 - y) * crs A B B' := by
  unfold FF nm dn crs cross
  grind
theorem crs_swap (a b p : P2) : crs b a p = - crs a b p := by
  unfold crs cross
  grind
theorem crs_cyc (a b c : P2) : crs b c a = crs a b c := by
  unfold crs cross
  grind
theorem crs_aba (a b : P2) : crs a b a = 0 := by
  unfold crs cross
  grind
theorem crs_abb (a b : P2) : crs a b b = 0 := by
  unfold crs cross
  grind

theorem pos_mul {d u : Int} (hd : 0 < d) : 0 < d * u ↔ 0 < u := by
  constructor
  · intro h
    have : d * 0 < d * u := by simpa using h
    exact Int.lt_of_mul_lt_mul_left this (by omega)
  · exact Int.mul_pos hd

theorem neg_mul' {d u : Int} (hd : 0 < d) : d * u < 0 ↔ u < 0 := by
  have := pos_mul (u := -u) hd
  rw [Int.mul_neg] at this
  omega

theorem zero_mul' {d u : Int} (hd : 0 < d) : d * u = 0 ↔ u = 0 := by
  have h1 := pos_mul (u := u) hd
  have h2 := neg_mul' (u := u) hd
  omega

/-- z lies on the segment ab. -/
def lieP (z a b : P2) : Prop := crs a b z = 0 ∧ min a.1 b.1 ≤ z.1 ∧ z.1 ≤ max a.1 b.1 ∧ min a.2 b.2 ≤ z.2 ∧ z.2 ≤ max a.2 b.2

theorem lie_swap {z a b : P2} : lieP z a b ↔ lieP z b a := by
  unfold lieP
  rw [crs_swap b a]
  constructor <;> (rintro ⟨h1, h2, h3, h4, h5⟩; exact ⟨by omega, by omega, by omega, by omega, by omega⟩)

theorem lie_of {a b z : P2} (hlt : a.2 < b.2) (h0 : crs a b z = 0) (h1 : a.2 ≤ z.2) (h2 : z.2 ≤ b.2) : lieP z a b := by
  have e1 : (b.2 - a.2) * (z.1 - a.1) = (b.1 - a.1) * (z.2 - a.2) := by
    unfold crs cross at h0
    omega
  have e2 : (b.2 - a.2) * (b.1 - z.1) = (b.1 - a.1) * (b.2 - z.2) := by
    unfold crs cross at h0
    grind
  have d : 0 < b.2 - a.2 := by omega
  have k1 := pos_mul (u := z.1 - a.1) d
  have k2 := neg_mul' (u := z.1 - a.1) d
  have k3 := pos_mul (u := b.1 - z.1) d
  have k4 := neg_mul' (u := b.1 - z.1) d
  rw [e1] at k1 k2
  rw [e2] at k3 k4
  rcases Int.lt_or_le b.1 a.1 with hx | hx
  · have q1 : 0 ≤ (a.1 - b.1) * (z.2 - a.2) := Int.mul_nonneg (by omega) (by omega)
    have q2 : 0 ≤ (a.1 - b.1) * (b.2 - z.2) := Int.mul_nonneg (by omega) (by omega)
    have r1 : (b.1 - a.1) * (z.2 - a.2) = - ((a.1 - b.1) * (z.2 - a.2)) := by rw [← Int.neg_mul]; congr 1; omega
    have r2 : (b.1 - a.1) * (b.2 - z.2) = - ((a.1 - b.1) * (b.2 - z.2)) := by rw [← Int.neg_mul]; congr 1; omega
    exact ⟨h0, by omega, by omega, by omega, by omega⟩
  · have q1 : 0 ≤ (b.1 - a.1) * (z.2 - a.2) := Int.mul_nonneg (by omega) (by omega)
    have q2 : 0 ≤ (b.1 - a.1) * (b.2 - z.2) := Int.mul_nonneg (by omega) (by omega)
    exact ⟨h0, by omega, by omega, by omega, by omega⟩

/-- The segments ab and AB have no point in common. -/
structure Dj (a b A B : P2) : Prop where
  cr : ¬ (((0 < crs a b A ∧ crs a b B < 0) ∨ (crs a b A < 0 ∧ 0 < crs a b B)) ∧ ((0 < crs A B a ∧ crs A B b < 0) ∨ (crs A B a < 0 ∧ 0 < crs A B b)))
  la : ¬ lieP a A B
  lb : ¬ lieP b A B
  lA : ¬ lieP A a b
  lB : ¬ lieP B a b

theorem Dj.swap {a b A B : P2} (h : Dj a b A B) : Dj b a A B where
  cr := by
    have := h.cr
    rw [crs_swap a b, crs_swap a b]
    omega
  la := h.lb
  lb := h.la
  lA := fun x => h.lA (lie_swap.1 x)
  lB := fun x => h.lB (lie_swap.1 x)

theorem Dj.swapE {a b A B : P2} (h : Dj a b A B) : Dj a b B A where
  cr := by
    have := h.cr
    rw [crs_swap A B, crs_swap A B]
    omega
  la := fun x => h.la (lie_swap.1 x)
  lb := fun x => h.lb (lie_swap.1 x)
  lA := h.lB
  lB := h.lA

section
variable {a b A B : P2}

/-- Where both segments have a height in common, the one stays on its side of the other. -/
theorem sep (h : Dj a b A B) (hE : A.2 < B.2) (hj : a.2 < b.2) {y1 y2 : Int} (g1 : A.2 ≤ y1) (g2 : a.2 ≤ y1) (g3 : y1 ≤ B.2) (g4 : y1 ≤ b.2) (k1 : A.2 ≤ y2) (k2 : a.2 ≤ y2) (k3 : y2 ≤ B.2) (k4 : y2 ≤ b.2)
    (hp : 0 < FF A B a b y1) : 0 < FF A B a b y2 := by
  rcases Int.lt_or_le 0 (FF A B a b y2) with hn | hn
  · exact hn
  exfalso
  have dE : 0 < dn A B := by unfold dn; omega
  have dj : 0 < dn a b := by unfold dn; omega
  obtain ⟨s, hs⟩ : ∃ s, sl A B a b = s := ⟨_, rfl⟩
  have mv := FF_move A B a b
  rw [hs] at mv
  have hA := FF_A A B a b
  have hB := FF_B A B a b
  have ha := FF_a A B a b
  have hb := FF_b A B a b
  have pA := pos_mul (u := crs a b A) dE
  have nA := neg_mul' (u := crs a b A) dE
  have pB := pos_mul (u := crs a b B) dE
  have nB := neg_mul' (u := crs a b B) dE
  have pa := pos_mul (u := crs A B a) dj
  have na := neg_mul' (u := crs A B a) dj
  have pb := pos_mul (u := crs A B b) dj
  have nb := neg_mul' (u := crs A B b) dj
  rw [← hA] at pA nA
  rw [← hB] at pB nB
  have ha' : dn a b * crs A B a = - FF A B a b a.2 := by omega
  have hb' : dn a b * crs A B b = - FF A B a b b.2 := by omega
  rw [ha'] at pa na
  rw [hb'] at pb nb
  rcases Int.lt_trichotomy y1 y2 with hy | hy | hy
  · have hs0 : s < 0 := by
      have m := mv y1 y2
      rcases Int.lt_or_le s 0 with q | q
      · exact q
      · have := Int.mul_nonneg q (show 0 ≤ y2 - y1 by omega)
        omega
    have t1 : 0 ≤ s * (A.2 - y1) := Int.mul_nonneg_of_nonpos_of_nonpos (by omega) (by omega)
    have t2 : 0 ≤ s * (a.2 - y1) := Int.mul_nonneg_of_nonpos_of_nonpos (by omega) (by omega)
    have t3 : s * (B.2 - y2) ≤ 0 := Int.mul_nonpos_of_nonpos_of_nonneg (by omega) (by omega)
    have t4 : s * (b.2 - y2) ≤ 0 := Int.mul_nonpos_of_nonpos_of_nonneg (by omega) (by omega)
    have m1 := mv y1 A.2
    have m2 := mv y1 a.2
    have m3 := mv y2 B.2
    have m4 := mv y2 b.2
    have z3 : s * (B.2 - y2) = 0 → B.2 - y2 = 0 := fun e => (Int.mul_eq_zero.1 e).resolve_left (by omega)
    have z4 : s * (b.2 - y2) = 0 → b.2 - y2 = 0 := fun e => (Int.mul_eq_zero.1 e).resolve_left (by omega)
    by_cases v0 : crs a b B = 0
    · have := z3 (by omega)
      exact h.lB (lie_of hj v0 (by omega) (by omega))
    · by_cases b0 : crs A B b = 0
      · have := z4 (by omega)
        exact h.lb (lie_of hE b0 (by omega) (by omega))
      · exact h.cr ⟨.inl ⟨by omega, by omega⟩, .inr ⟨by omega, by omega⟩⟩
  · subst hy
    omega
  · have hs0 : 0 < s := by
      have m := mv y2 y1
      rcases Int.lt_or_le 0 s with q | q
      · exact q
      · have := Int.mul_nonpos_of_nonpos_of_nonneg q (show 0 ≤ y1 - y2 by omega)
        omega
    have t1 : s * (A.2 - y2) ≤ 0 := Int.mul_nonpos_of_nonneg_of_nonpos (by omega) (by omega)
    have t2 : s * (a.2 - y2) ≤ 0 := Int.mul_nonpos_of_nonneg_of_nonpos (by omega) (by omega)
    have t3 : 0 ≤ s * (B.2 - y1) := Int.mul_nonneg (by omega) (by omega)
    have t4 : 0 ≤ s * (b.2 - y1) := Int.mul_nonneg (by omega) (by omega)
    have m1 := mv y2 A.2
    have m2 := mv y2 a.2
    have m3 := mv y1 B.2
    have m4 := mv y1 b.2
    have z1 : s * (A.2 - y2) = 0 → A.2 - y2 = 0 := fun e => (Int.mul_eq_zero.1 e).resolve_left (by omega)
    have z2 : s * (a.2 - y2) = 0 → a.2 - y2 = 0 := fun e => (Int.mul_eq_zero.1 e).resolve_left (by omega)
    by_cases u0 : crs a b A = 0
    · have := z1 (by omega)
      exact h.lA (lie_of hj u0 (by omega) (by omega))
    · by_cases a0 : crs A B a = 0
      · have := z2 (by omega)
        exact h.la (lie_of hE a0 (by omega) (by omega))
      · exact h.cr ⟨.inr ⟨by omega, by omega⟩, .inl ⟨by omega, by omega⟩⟩

theorem sep_iff (h : Dj a b A B) (hE : A.2 < B.2) (hj : a.2 < b.2) {y1 y2 : Int} (g1 : A.2 ≤ y1) (g2 : a.2 ≤ y1) (g3 : y1 ≤ B.2) (g4 : y1 ≤ b.2) (k1 : A.2 ≤ y2) (k2 : a.2 ≤ y2) (k3 : y2 ≤ B.2) (k4 : y2 ≤ b.2) :
    0 < FF A B a b y1 ↔ 0 < FF A B a b y2 := ⟨sep h hE hj g1 g2 g3 g4 k1 k2 k3 k4, sep h hE hj k1 k2 k3 k4 g1 g2 g3 g4⟩

/-- They have no place in common. -/
theorem sep_ne (h : Dj a b A B) (hE : A.2 < B.2) (hj : a.2 < b.2) {y : Int} (g1 : A.2 ≤ y) (g2 : a.2 ≤ y) (g3 : y ≤ B.2) (g4 : y ≤ b.2) : FF A B a b y ≠ 0 := by
  intro h0
  have dE : 0 < dn A B := by unfold dn; omega
  have dj : 0 < dn a b := by unfold dn; omega
  obtain ⟨s, hs⟩ : ∃ s, sl A B a b = s := ⟨_, rfl⟩
  have mv := FF_move A B a b
  rw [hs] at mv
  have atA : y = A.2 → False := fun e => by
    rw [e, FF_A, zero_mul' dE] at h0
    exact h.lA (lie_of hj h0 (by omega) (by omega))
  have atB : y = B.2 → False := fun e => by
    rw [e, FF_B, zero_mul' dE] at h0
    exact h.lB (lie_of hj h0 (by omega) (by omega))
  have ata : y = a.2 → False := fun e => by
    rw [e, FF_a] at h0
    exact h.la (lie_of hE ((zero_mul' dj).1 (by omega)) (by omega) (by omega))
  have atb : y = b.2 → False := fun e => by
    rw [e, FF_b] at h0
    exact h.lb (lie_of hE ((zero_mul' dj).1 (by omega)) (by omega) (by omega))
  have y1 : A.2 < y := by rcases Int.lt_or_eq_of_le g1 with q | q; exact q; exact (atA q.symm).elim
  have y2 : a.2 < y := by rcases Int.lt_or_eq_of_le g2 with q | q; exact q; exact (ata q.symm).elim
  have y3 : y < B.2 := by rcases Int.lt_or_eq_of_le g3 with q | q; exact q; exact (atB q).elim
  have y4 : y < b.2 := by rcases Int.lt_or_eq_of_le g4 with q | q; exact q; exact (atb q).elim
  rcases Int.lt_trichotomy s 0 with q | q | q
  · have m := mv y (y - 1)
    have := sep h hE hj (y1 := y - 1) (y2 := y) (by omega) (by omega) (by omega) (by omega) g1 g2 g3 g4 (by
      rw [m, h0, show y - 1 - y = -1 by omega]
      omega)
    omega
  · have m := mv y A.2
    have m2 := mv y a.2
    rw [q, h0] at m m2
    simp only [Int.zero_mul, Int.add_zero] at m m2
    rw [FF_A, zero_mul' dE] at m
    rw [FF_a] at m2
    rcases Int.lt_or_le A.2 a.2 with c | c
    · exact h.la (lie_of hE ((zero_mul' dj).1 (by omega)) (by omega) (by omega))
    · exact h.lA (lie_of hj m (by omega) (by omega))
  · have m := mv y (y + 1)
    have := sep h hE hj (y1 := y + 1) (y2 := y) (by omega) (by omega) (by omega) (by omega) g1 g2 g3 g4 (by
      rw [m, h0, show y + 1 - y = 1 by omega]
      omega)
    omega

end

/-! ### what is counted -/
def bi (p : Prop) [Decidable p] : Int := if p then 1 else 0
/-- Whether the edge from a to b passes to the right of p, upward or downward. -/
def cw (a b p : P2) : Int := if a.2 ≤ p.2 ∧ p.2 < b.2 ∧ 0 < crs a b p then 1 else if b.2 ≤ p.2 ∧ p.2 < a.2 ∧ crs a b p < 0 then -1 else 0
/-- Whether it passes to the right of AB at the height y. -/
def ce (A B : P2) (y : Int) (a b : P2) : Int := if a.2 ≤ y ∧ y < b.2 ∧ 0 < FF A B a b y then 1 else if b.2 ≤ y ∧ y < a.2 ∧ FF A B a b y < 0 then -1 else 0
/-- Whether c lies to the right of AB, above A and up to the height y. -/
def inr (A B : P2) (y : Int) (c : P2) : Int := if A.2 < c.2 ∧ c.2 ≤ y ∧ crs A B c < 0 then 1 else 0

theorem cw_swap (a b p : P2) : cw b a p = - cw a b p := by
  unfold cw
  rw [crs_swap a b p]
  repeat' split
  all_goals omega

theorem ce_swap (A B : P2) (y : Int) (a b : P2) : ce A B y b a = - ce A B y a b := by
  unfold ce
  rw [FF_swap A B a b y]
  repeat' split
  all_goals omega

section
variable {a b A B : P2} {y : Int}

theorem ll_up (h : Dj a b A B) (hE : A.2 < B.2) (h1 : A.2 ≤ y) (h2 : y ≤ B.2) (hj : a.2 < b.2) : cw a b A - ce A B y a b = inr A B y b - inr A B y a := by
  have dE : 0 < dn A B := by unfold dn; omega
  have dj : 0 < dn a b := by unfold dn; omega
  have uA : 0 < FF A B a b A.2 ↔ 0 < crs a b A := by rw [FF_A]; exact pos_mul dE
  have ua : 0 < FF A B a b a.2 ↔ crs A B a < 0 := by
    rw [FF_a]
    have := neg_mul' (u := crs A B a) dj
    omega
  have ub : 0 < FF A B a b b.2 ↔ crs A B b < 0 := by
    rw [FF_b]
    have := neg_mul' (u := crs A B b) dj
    omega
  have s1 : a.2 ≤ A.2 → A.2 < b.2 → b.2 ≤ y → (0 < crs a b A ↔ crs A B b < 0) := fun q1 q2 q3 => by
    rw [← uA, ← ub]
    exact sep_iff h hE hj (by omega) (by omega) (by omega) (by omega) (by omega) (by omega) (by omega) (by omega)
  have s2 : a.2 ≤ A.2 → y < b.2 → (0 < crs a b A ↔ 0 < FF A B a b y) := fun q1 q2 => by
    rw [← uA]
    exact sep_iff h hE hj (by omega) (by omega) (by omega) (by omega) (by omega) (by omega) (by omega) (by omega)
  have s3 : A.2 < a.2 → a.2 ≤ y → y < b.2 → (crs A B a < 0 ↔ 0 < FF A B a b y) := fun q1 q2 q3 => by
    rw [← ua]
    exact sep_iff h hE hj (by omega) (by omega) (by omega) (by omega) (by omega) (by omega) (by omega) (by omega)
  have s4 : A.2 < a.2 → b.2 ≤ y → (crs A B a < 0 ↔ crs A B b < 0) := fun q1 q2 => by
    rw [← ua, ← ub]
    exact sep_iff h hE hj (by omega) (by omega) (by omega) (by omega) (by omega) (by omega) (by omega) (by omega)
  clear uA ua ub
  unfold cw ce inr
  repeat' split
  all_goals omega

theorem flat_side (h : Dj a b A B) (hE : A.2 < B.2) (hj : a.2 = b.2) (h1 : A.2 < a.2) (h2 : a.2 ≤ B.2) (ha : crs A B a < 0) : crs A B b < 0 := by
  rcases Int.lt_or_le (crs A B b) 0 with q | q
  · exact q
  exfalso
  have eu : crs a b A = (a.1 - b.1) * (a.2 - A.2) := by
    unfold crs cross
    rw [hj]
    grind
  have ev : crs a b B = - ((a.1 - b.1) * (B.2 - a.2)) := by
    unfold crs cross
    rw [hj]
    grind
  have ed : crs A B b - crs A B a = (B.2 - A.2) * (a.1 - b.1) := by
    unfold crs cross
    rw [hj]
    grind
  have d : 0 < B.2 - A.2 := by omega
  have hx : 0 < a.1 - b.1 := (pos_mul d).1 (by omega)
  have u0 : 0 < crs a b A := by
    rw [eu]
    exact Int.mul_pos hx (by omega)
  rcases Int.lt_or_eq_of_le h2 with k | k
  · have v0 : crs a b B < 0 := by
      rw [ev]
      have := Int.mul_pos hx (show 0 < B.2 - a.2 by omega)
      omega
    rcases Int.lt_or_eq_of_le q with m | m
    · exact h.cr ⟨.inl ⟨u0, v0⟩, .inr ⟨ha, m⟩⟩
    · exact h.lb (lie_of hE m.symm (by omega) (by omega))
  · have e1 : crs A B a = (B.2 - A.2) * (B.1 - a.1) := by
      unfold crs cross
      rw [k]
      grind
    have e2 : crs A B b = (B.2 - A.2) * (B.1 - b.1) := by
      unfold crs cross
      rw [← hj, k]
      grind
    have x1 : B.1 - a.1 < 0 := (neg_mul' d).1 (by omega)
    have x2 : ¬ B.1 - b.1 < 0 := fun x => by
      have := (neg_mul' (u := B.1 - b.1) d).2 x
      omega
    refine h.lB ⟨?_, by omega, by omega, by omega, by omega⟩
    rw [ev, k]
    simp

theorem ll_flat (h : Dj a b A B) (hE : A.2 < B.2) (_h1 : A.2 ≤ y) (h2 : y ≤ B.2) (hj : a.2 = b.2) : cw a b A - ce A B y a b = inr A B y b - inr A B y a := by
  have s1 : A.2 < a.2 → a.2 ≤ y → (crs A B a < 0 ↔ crs A B b < 0) := fun q1 q2 =>
    ⟨flat_side h hE hj q1 (by omega), flat_side h.swap hE hj.symm (by omega) (by omega)⟩
  unfold cw ce inr
  repeat' split
  all_goals omega

theorem ll (h : Dj a b A B) (hE : A.2 < B.2) (h1 : A.2 ≤ y) (h2 : y ≤ B.2) : cw a b A - ce A B y a b = inr A B y b - inr A B y a := by
  rcases Int.lt_trichotomy a.2 b.2 with q | q | q
  · exact ll_up h hE h1 h2 q
  · exact ll_flat h hE h1 h2 q
  · have := ll_up h.swap hE h1 h2 q
    rw [cw_swap a b, ce_swap A B y a b] at this
    omega

theorem level_side (h : Dj a b A B) (hE : A.2 = B.2) (hj : a.2 < b.2) (h1 : a.2 ≤ A.2) (h2 : A.2 < b.2) (hA : 0 < crs a b A) : 0 < crs a b B := by
  rcases Int.lt_or_le 0 (crs a b B) with q | q
  · exact q
  exfalso
  have ed : crs a b A - crs a b B = (b.2 - a.2) * (B.1 - A.1) := by
    unfold crs cross
    rw [hE]
    grind
  have d : 0 < b.2 - a.2 := by omega
  have hx : 0 < B.1 - A.1 := (pos_mul d).1 (by omega)
  have eb : crs A B b = (B.1 - A.1) * (b.2 - A.2) := by
    unfold crs cross
    rw [← hE]
    grind
  have ea : crs A B a = (B.1 - A.1) * (a.2 - A.2) := by
    unfold crs cross
    rw [← hE]
    grind
  have b0 : 0 < crs A B b := by
    rw [eb]
    exact Int.mul_pos hx (by omega)
  rcases Int.lt_or_eq_of_le h1 with k | k
  · have a0 : crs A B a < 0 := by
      rw [ea]
      exact Int.mul_neg_of_pos_of_neg hx (by omega)
    rcases Int.lt_or_eq_of_le q with m | m
    · exact h.cr ⟨.inl ⟨hA, m⟩, .inr ⟨a0, b0⟩⟩
    · exact h.lB (lie_of hj m (by omega) (by omega))
  · have e1 : crs a b A = (b.2 - a.2) * (a.1 - A.1) := by
      unfold crs cross
      rw [k]
      grind
    have e2 : crs a b B = (b.2 - a.2) * (a.1 - B.1) := by
      unfold crs cross
      rw [k, hE]
      grind
    have x1 : 0 < a.1 - A.1 := (pos_mul d).1 (by omega)
    have x2 : ¬ 0 < a.1 - B.1 := fun x => by
      have := (pos_mul (u := a.1 - B.1) d).2 x
      omega
    refine h.la ⟨?_, by omega, by omega, by omega, by omega⟩
    rw [ea, k]
    simp

theorem lh_up (h : Dj a b A B) (hE : A.2 = B.2) (hj : a.2 < b.2) : cw a b A = cw a b B := by
  have s1 : a.2 ≤ A.2 → A.2 < b.2 → (0 < crs a b A ↔ 0 < crs a b B) := fun q1 q2 =>
    ⟨level_side h hE hj q1 q2, level_side h.swapE hE.symm hj (by omega) (by omega)⟩
  unfold cw
  repeat' split
  all_goals omega

theorem lh (h : Dj a b A B) (hE : A.2 = B.2) : cw a b A = cw a b B := by
  rcases Int.lt_trichotomy a.2 b.2 with q | q | q
  · exact lh_up h hE q
  · unfold cw
    repeat' split
    all_goals omega
  · have := lh_up h.swap hE q
    rw [cw_swap a b, cw_swap a b] at this
    omega

end

section
variable {A B A' B' : P2} {y : Int}

theorem adjA (h1 : A.2 < y) : cw A' A A - ce A B y A' A = inr A B y A - inr A B y A' + bi (A.2 < A'.2 ∧ crs A B A' < 0) := by
  have d : 0 < y - A.2 := by omega
  have f1 := FF_low A B A' y
  have p := pos_mul (u := crs A B A') d
  have n := neg_mul' (u := crs A B A') d
  rw [← f1] at p n
  unfold cw ce inr bi
  rw [crs_abb]
  repeat' split
  all_goals omega

theorem adjB (hE : A.2 < B.2) (h1 : A.2 < y) (h2 : y ≤ B.2) : cw B B' A - ce A B y B B' = inr A B y B' - inr A B y B - (if y = B.2 then bi (B'.2 ≤ B.2 ∧ crs A B B' < 0) else 0) := by
  have f1 := FF_top A B B' y
  have c := crs_cyc A B B'
  have z := crs_abb A B
  unfold cw ce inr bi
  rw [c, z]
  rcases Int.lt_or_eq_of_le h2 with k | k
  · have d : 0 < B.2 - y := by omega
    have p := pos_mul (u := crs A B B') d
    have n := neg_mul' (u := crs A B B') d
    rw [← f1] at p n
    rw [if_neg (show ¬ y = B.2 by omega)]
    repeat' split
    all_goals omega
  · rw [k] at f1
    simp only [Int.sub_self, Int.zero_mul] at f1
    subst k
    rw [if_pos rfl]
    repeat' split
    all_goals omega

theorem self_e : cw A B A - ce A B y A B = inr A B y B - inr A B y A := by
  have f := FF_self A B y
  have z1 := crs_aba A B
  have z2 := crs_abb A B
  unfold cw ce inr
  rw [f, z1, z2]
  repeat' split
  all_goals omega

theorem ce_top (hE : A.2 < B.2) (a b : P2) : ce A B B.2 a b = cw a b B := by
  have dE : 0 < dn A B := by unfold dn; omega
  have p := pos_mul (u := crs a b B) dE
  have n := neg_mul' (u := crs a b B) dE
  rw [← FF_B] at p n
  unfold ce cw
  repeat' split
  all_goals omega

theorem level_prev {a p q : P2} (h : p.2 = q.2) : cw a p p - cw a p q = bi (p.2 < a.2 ∧ crs a p q < 0) := by
  unfold cw bi
  rw [crs_abb]
  repeat' split
  all_goals omega

theorem level_next {p q d : P2} (h : p.2 = q.2) : cw q d p - cw q d q = bi (q.2 < d.2 ∧ 0 < crs p q d) := by
  unfold cw bi
  rw [crs_cyc p q d, crs_aba]
  repeat' split
  all_goals omega

theorem level_self {p q : P2} : cw p q p - cw p q q = 0 := by
  unfold cw
  rw [crs_abb, crs_aba]
  repeat' split
  all_goals omega

end

/-! ### at a corner -/
/-- What lies to the right of the way, told at the tail of an edge from p to q behind a. -/
def tR (N : Int) (a p q : P2) : Int :=
  if p.2 < q.2 then N - bi (p.2 < a.2 ∧ crs a p q < 0)
  else if q.2 < p.2 then N + bi (a.2 ≤ p.2 ∧ 0 < crs a p q) - 1
  else if p.1 < q.1 then N - bi (p.2 < a.2 ∧ crs a p q < 0) - 1
  else N - bi (p.2 < a.2 ∧ crs a p q < 0)
/-- Told at the head of an edge from a to p ahead of q. -/
def hR (N : Int) (a p q : P2) : Int :=
  if a.2 < p.2 then N - bi (q.2 ≤ p.2 ∧ crs a p q < 0)
  else if p.2 < a.2 then N + bi (p.2 < q.2 ∧ 0 < crs a p q) - 1
  else if a.1 < p.1 then N + bi (p.2 < q.2 ∧ 0 < crs a p q) - 1
  else N + bi (p.2 < q.2 ∧ 0 < crs a p q)

theorem corner_R (N : Int) {a p q : P2} (h : crs a p q ≠ 0) : hR N a p q = tR N a p q := by
  have k1 : a.2 = p.2 → crs a p q = (p.1 - a.1) * (q.2 - p.2) := fun e => by
    unfold crs cross
    rw [e]
    grind
  have k2 : q.2 = p.2 → crs a p q = (p.2 - a.2) * (p.1 - q.1) := fun e => by
    unfold crs cross
    rw [e]
    grind
  have m1 : ∀ u v : Int, 0 < u → (0 < u * v ↔ 0 < v) := fun u v hu => pos_mul hu
  have m2 : ∀ u v : Int, 0 < u → (u * v < 0 ↔ v < 0) := fun u v hu => neg_mul' hu
  have m3 : ∀ u v : Int, u < 0 → (0 < u * v ↔ v < 0) := fun u v hu => by
    have := neg_mul' (u := v) (show 0 < -u by omega)
    rw [Int.neg_mul] at this
    omega
  have m4 : ∀ u v : Int, u < 0 → (u * v < 0 ↔ 0 < v) := fun u v hu => by
    have := pos_mul (u := v) (show 0 < -u by omega)
    rw [Int.neg_mul] at this
    omega
  have c1 : a.2 = p.2 → a.1 < p.1 → ((0 < crs a p q ↔ p.2 < q.2) ∧ (crs a p q < 0 ↔ q.2 < p.2)) := fun e f => by
    rw [k1 e]
    have := m1 (p.1 - a.1) (q.2 - p.2) (by omega)
    have := m2 (p.1 - a.1) (q.2 - p.2) (by omega)
    omega
  have c2 : a.2 = p.2 → ¬ a.1 < p.1 → p.1 < a.1 ∧ ((0 < crs a p q ↔ q.2 < p.2) ∧ (crs a p q < 0 ↔ p.2 < q.2)) := fun e f => by
    have hne : p.1 ≠ a.1 := fun e2 => h (by rw [k1 e, e2]; simp)
    rw [k1 e]
    have := m3 (p.1 - a.1) (q.2 - p.2) (by omega)
    have := m4 (p.1 - a.1) (q.2 - p.2) (by omega)
    omega
  have c3 : q.2 = p.2 → a.2 < p.2 → ((0 < crs a p q ↔ q.1 < p.1) ∧ (crs a p q < 0 ↔ p.1 < q.1)) := fun e f => by
    rw [k2 e]
    have := m1 (p.2 - a.2) (p.1 - q.1) (by omega)
    have := m2 (p.2 - a.2) (p.1 - q.1) (by omega)
    omega
  have c4 : q.2 = p.2 → p.2 < a.2 → ((0 < crs a p q ↔ p.1 < q.1) ∧ (crs a p q < 0 ↔ q.1 < p.1)) := fun e f => by
    rw [k2 e]
    have := m3 (p.2 - a.2) (p.1 - q.1) (by omega)
    have := m4 (p.2 - a.2) (p.1 - q.1) (by omega)
    omega
  clear m1 m2 m3 m4 k1 k2
  unfold hR tR bi
  repeat' split
  all_goals first
    | omega
    | (exfalso; omega)

end Go.Proofs.Ytpknllbglppjcaa

/- Closed polygons (plain): what lies to the right of the way is the same all along. -/
namespace Go.Proofs.Ytpknllbglppjcaa
open Go Go.RowKit Go.Proofs

/-- A closed polygon of n corners whose edges meet only where they follow one another, and that bends at each corner. -/
structure Sim (P : Nat → P2) (n : Nat) : Prop where
  three : 3 ≤ n
  dis : ∀ i k, i < n → k < n → k ≠ i → k ≠ (i + 1) % n → i ≠ (k + 1) % n → Dj (P k) (P ((k + 1) % n)) (P i) (P ((i + 1) % n))
  bend : ∀ i, i < n → crs (P ((i + n - 1) % n)) (P i) (P ((i + 1) % n)) ≠ 0

def NN (P : Nat → P2) (n : Nat) (z : P2) : Int := ((List.range n).map fun j => cw (P j) (P ((j + 1) % n)) z).sum
def MM (P : Nat → P2) (n : Nat) (A B : P2) (y : Int) : Int := ((List.range n).map fun j => ce A B y (P j) (P ((j + 1) % n))).sum

theorem sum_one (a : Nat) (c : Int) : ∀ n, ((List.range n).map fun j => if j = a then c else 0).sum = if a < n then c else 0
  | 0 => by simp
  | n + 1 => by
    rw [List.range_succ, List.map_append, List.sum_append, sum_one a c n]
    simp only [List.map_cons, List.map_nil, List.sum_cons, List.sum_nil]
    repeat' split
    all_goals omega

theorem sum_two (g : Nat → Int) {n a b : Nat} (ha : a < n) (hb : b < n) (hab : a ≠ b) (h : ∀ j, j < n → j ≠ a → j ≠ b → g j = 0) : ((List.range n).map g).sum = g a + g b := by
  have e : (List.range n).map g = (List.range n).map fun j => (if j = a then g a else 0) + (if j = b then g b else 0) := List.map_congr_left fun j hj => by
    have hj := List.mem_range.1 hj
    by_cases h1 : j = a
    · subst h1
      rw [if_pos rfl, if_neg hab]
      omega
    · by_cases h2 : j = b
      · subst h2
        rw [if_neg h1, if_pos rfl]
        omega
      · rw [if_neg h1, if_neg h2, h j hj h1 h2]
        rfl
  rw [e, sum_add, sum_one, sum_one, if_pos ha, if_pos hb]

/-- What two counts of the edges differ by, once a telescope is taken out. -/
theorem sum_diff (f g r : Nat → Int) {n a b : Nat} (ha : a < n) (hb : b < n) (hab : a ≠ b) {c d : Int} (h : ∀ j, j < n → j ≠ a → j ≠ b → f j - g j = r ((j + 1) % n) - r j)
    (h1 : f a - g a = r ((a + 1) % n) - r a + c) (h2 : f b - g b = r ((b + 1) % n) - r b + d) : ((List.range n).map f).sum - ((List.range n).map g).sum = c + d := by
  have e1 := sum_two (fun j => (f j - g j) - (r ((j + 1) % n) - r j)) ha hb hab (fun j hj x y => by have := h j hj x y; omega)
  have e2 := sum_tele r n
  have e3 := sum_sub (fun j => f j - g j) (fun j => r ((j + 1) % n) - r j) (List.range n)
  have e4 := sum_sub f g (List.range n)
  have e5 : ((List.range n).map fun x => r ((x + 1) % n) - r x).sum = - ((List.range n).map fun x => r x - r ((x + 1) % n)).sum := by
    rw [← sum_neg]
    congr 1
    exact List.map_congr_left fun x _ => by omega
  rw [h1, h2] at e1
  omega

section
variable {P : Nat → P2} {n : Nat}

theorem prev_ne {n i : Nat} (h3 : 3 ≤ n) (hi : i < n) : (i + n - 1) % n ≠ i ∧ (i + 1) % n ≠ i ∧ (i + n - 1) % n ≠ (i + 1) % n ∧ (i + n - 1) % n < n ∧ (i + 1) % n < n := by
  refine ⟨?_, ?_, ?_, Nat.mod_lt _ (by omega), Nat.mod_lt _ (by omega)⟩
  · rw [mod2 (by omega)]; split <;> omega
  · rw [mod2 (by omega)]; split <;> omega
  · rw [mod2 (a := i + n - 1) (by omega), mod2 (a := i + 1) (by omega)]
    split <;> split <;> omega

theorem other_edge {n i j : Nat} (_hi : i < n) (hj : j < n) (h1 : j ≠ (i + n - 1) % n) : i ≠ (j + 1) % n := by
  intro e
  exact h1 (prev_of hj e.symm)

/-- Along an edge that goes up. -/
theorem up_edge (hS : Sim P n) {i : Nat} (hi : i < n) (hE : (P i).2 < (P ((i + 1) % n)).2) {y : Int} (h1 : (P i).2 < y) (h2 : y ≤ (P ((i + 1) % n)).2) :
    NN P n (P i) - MM P n (P i) (P ((i + 1) % n)) y = bi ((P i).2 < (P ((i + n - 1) % n)).2 ∧ crs (P i) (P ((i + 1) % n)) (P ((i + n - 1) % n)) < 0) +
      -(if y = (P ((i + 1) % n)).2 then bi ((P (((i + 1) % n + 1) % n)).2 ≤ (P ((i + 1) % n)).2 ∧ crs (P i) (P ((i + 1) % n)) (P (((i + 1) % n + 1) % n)) < 0) else 0) := by
  obtain ⟨p1, p2, p3, p4, p5⟩ := prev_ne hS.three hi
  have np := next_prev hi
  refine sum_diff _ _ (fun j => inr (P i) (P ((i + 1) % n)) y (P j)) p4 p5 p3 (fun j hj q1 q2 => ?_) ?_ ?_
  · by_cases hji : j = i
    · subst hji
      exact self_e
    · exact ll (hS.dis i j hi hj hji q2 (other_edge hi hj q1)) hE (by omega) h2
  · rw [np]
    exact adjA h1
  · have := adjB (B' := P (((i + 1) % n + 1) % n)) hE h1 h2
    omega

/-- Along an edge that goes down. -/
theorem down_edge (hS : Sim P n) {i : Nat} (hi : i < n) (hE : (P ((i + 1) % n)).2 < (P i).2) {y : Int} (h1 : (P ((i + 1) % n)).2 < y) (h2 : y ≤ (P i).2) :
    NN P n (P ((i + 1) % n)) - MM P n (P ((i + 1) % n)) (P i) y = (if y = (P i).2 then bi ((P ((i + n - 1) % n)).2 ≤ (P i).2 ∧ crs (P ((i + 1) % n)) (P i) (P ((i + n - 1) % n)) < 0) else 0) +
      -bi ((P ((i + 1) % n)).2 < (P (((i + 1) % n + 1) % n)).2 ∧ crs (P ((i + 1) % n)) (P i) (P (((i + 1) % n + 1) % n)) < 0) := by
  obtain ⟨p1, p2, p3, p4, p5⟩ := prev_ne hS.three hi
  have np := next_prev hi
  refine sum_diff _ _ (fun j => inr (P ((i + 1) % n)) (P i) y (P j)) p4 p5 p3 (fun j hj q1 q2 => ?_) ?_ ?_
  · by_cases hji : j = i
    · subst hji
      have := self_e (A := P ((j + 1) % n)) (B := P j) (y := y)
      rw [cw_swap (P j), ce_swap _ _ _ (P j)] at this
      omega
    · exact ll (hS.dis i j hi hj hji q2 (other_edge hi hj q1)).swapE hE (by omega) h2
  · rw [np]
    have := adjB (B' := P ((i + n - 1) % n)) hE h1 h2
    rw [cw_swap (P ((i + n - 1) % n)), ce_swap _ _ _ (P ((i + n - 1) % n))] at this
    omega
  · have := adjA (A := P ((i + 1) % n)) (B := P i) (A' := P (((i + 1) % n + 1) % n)) h1
    rw [cw_swap (P ((i + 1) % n)), ce_swap _ _ _ (P ((i + 1) % n))] at this
    omega

/-- Along a level edge. -/
theorem level_edge (hS : Sim P n) {i : Nat} (hi : i < n) (hE : (P i).2 = (P ((i + 1) % n)).2) :
    NN P n (P i) - NN P n (P ((i + 1) % n)) = bi ((P i).2 < (P ((i + n - 1) % n)).2 ∧ crs (P ((i + n - 1) % n)) (P i) (P ((i + 1) % n)) < 0) +
      bi ((P ((i + 1) % n)).2 < (P (((i + 1) % n + 1) % n)).2 ∧ 0 < crs (P i) (P ((i + 1) % n)) (P (((i + 1) % n + 1) % n))) := by
  obtain ⟨p1, p2, p3, p4, p5⟩ := prev_ne hS.three hi
  have np := next_prev hi
  refine sum_diff _ _ (fun _ => 0) p4 p5 p3 (fun j hj q1 q2 => ?_) ?_ ?_
  · by_cases hji : j = i
    · subst hji
      have := level_self (p := P j) (q := P ((j + 1) % n))
      omega
    · have := lh (hS.dis i j hi hj hji q2 (other_edge hi hj q1)) hE
      omega
  · rw [np]
    have := level_prev (a := P ((i + n - 1) % n)) hE
    omega
  · have := level_next (d := P (((i + 1) % n + 1) % n)) hE
    omega

theorem MM_top {A B : P2} (hE : A.2 < B.2) : MM P n A B B.2 = NN P n B := by
  unfold MM NN
  congr 1
  exact List.map_congr_left fun j _ => ce_top hE _ _

/-- What lies to the right of the way, told at the tail of each edge. -/
def RR (P : Nat → P2) (n i : Nat) : Int := tR (NN P n (P i)) (P ((i + n - 1) % n)) (P i) (P ((i + 1) % n))

theorem bi_congr {p q : Prop} [Decidable p] [Decidable q] (h : p ↔ q) : bi p = bi q := by
  unfold bi
  by_cases hp : p
  · rw [if_pos hp, if_pos (h.1 hp)]
  · rw [if_neg hp, if_neg (fun x => hp (h.2 x))]

theorem crs_turn (a p q : P2) : crs p q a = crs a p q := crs_cyc a p q
theorem crs_back (a p q : P2) : crs q p a = - crs a p q := by
  rw [crs_swap, crs_cyc]

/-- Told at the tail and at the head it is the same. -/
theorem edge_R (hS : Sim P n) {i : Nat} (hi : i < n) : RR P n i = hR (NN P n (P ((i + 1) % n))) (P i) (P ((i + 1) % n)) (P (((i + 1) % n + 1) % n)) := by
  unfold RR tR hR
  rcases Int.lt_trichotomy (P i).2 (P ((i + 1) % n)).2 with h | h | h
  · have e := up_edge hS hi h (y := (P ((i + 1) % n)).2) h (Int.le_refl _)
    rw [MM_top h, if_pos rfl, crs_turn] at e
    rw [if_pos h, if_pos h]
    omega
  · have e := level_edge hS hi h
    have q1 : ¬ (P i).2 < (P ((i + 1) % n)).2 := by omega
    have q2 : ¬ (P ((i + 1) % n)).2 < (P i).2 := by omega
    rw [if_neg q1, if_neg q2, if_neg q1, if_neg q2]
    split <;> omega
  · have e := down_edge hS hi h (y := (P i).2) h (Int.le_refl _)
    rw [MM_top h, if_pos rfl] at e
    rw [if_neg (by omega), if_pos h, if_neg (by omega), if_pos h]
    have c1 : bi ((P ((i + n - 1) % n)).2 ≤ (P i).2 ∧ crs (P ((i + 1) % n)) (P i) (P ((i + n - 1) % n)) < 0) = bi ((P ((i + n - 1) % n)).2 ≤ (P i).2 ∧ 0 < crs (P ((i + n - 1) % n)) (P i) (P ((i + 1) % n))) :=
      bi_congr (by rw [crs_back]; omega)
    have c2 : bi ((P ((i + 1) % n)).2 < (P (((i + 1) % n + 1) % n)).2 ∧ crs (P ((i + 1) % n)) (P i) (P (((i + 1) % n + 1) % n)) < 0) = bi ((P ((i + 1) % n)).2 < (P (((i + 1) % n + 1) % n)).2 ∧ 0 < crs (P i) (P ((i + 1) % n)) (P (((i + 1) % n + 1) % n))) :=
      bi_congr (by rw [crs_swap]; omega)
    rw [c1, c2] at e
    omega

theorem next_R (hS : Sim P n) {i : Nat} (hi : i < n) : RR P n ((i + 1) % n) = RR P n i := by
  have h1 : (i + 1) % n < n := Nat.mod_lt _ (by omega)
  have e : ((i + 1) % n + n - 1) % n = i := (prev_of hi rfl).symm
  rw [edge_R hS hi]
  unfold RR
  rw [e]
  have := hS.bend _ h1
  rw [e] at this
  exact (corner_R _ this).symm

theorem all_R (hS : Sim P n) : ∀ i, i < n → RR P n i = RR P n 0
  | 0, _ => rfl
  | i + 1, hi => by
    have := next_R hS (i := i) (by omega)
    rw [Nat.mod_eq_of_lt hi] at this
    rw [this, all_R hS i (by omega)]

/-- How many edges lie to the right of an edge: it depends on its sense alone. -/
theorem MM_up (hS : Sim P n) {i : Nat} (hi : i < n) {y : Int} (h1 : (P i).2 < y) (h2 : y < (P ((i + 1) % n)).2) : MM P n (P i) (P ((i + 1) % n)) y = RR P n 0 := by
  rw [← all_R hS i hi]
  have e := up_edge hS hi (by omega) h1 (by omega)
  rw [if_neg (show ¬ y = (P ((i + 1) % n)).2 by omega), crs_turn] at e
  unfold RR tR
  rw [if_pos (by omega)]
  omega

theorem MM_down (hS : Sim P n) {i : Nat} (hi : i < n) {y : Int} (h1 : (P ((i + 1) % n)).2 < y) (h2 : y < (P i).2) : MM P n (P ((i + 1) % n)) (P i) y = RR P n 0 + 1 := by
  rw [← all_R hS i hi, edge_R hS hi]
  have e := down_edge hS hi (by omega) h1 (by omega)
  rw [if_neg (show ¬ y = (P i).2 by omega)] at e
  have c2 : bi ((P ((i + 1) % n)).2 < (P (((i + 1) % n + 1) % n)).2 ∧ crs (P ((i + 1) % n)) (P i) (P (((i + 1) % n + 1) % n)) < 0) = bi ((P ((i + 1) % n)).2 < (P (((i + 1) % n + 1) % n)).2 ∧ 0 < crs (P i) (P ((i + 1) % n)) (P (((i + 1) % n + 1) % n))) :=
    bi_congr (by rw [crs_swap]; omega)
  rw [c2] at e
  unfold hR
  rw [if_neg (by omega), if_pos (by omega)]
  omega

end

end Go.Proofs.Ytpknllbglppjcaa
