/- The abstract machine, part IB. -/
import Derived.Test.YtpknllbglppjcaaIA
/- Counting on a grid (plain): multiples, ceilings, rows; what an edge counts. -/
namespace Go.Proofs.Ytpknllbglppjcaa
open Go Go.RowKit Go.Proofs

theorem sum_congr {f g : Nat → Int} {n : Nat} (h : ∀ j, j < n → f j = g j) : ((List.range n).map f).sum = ((List.range n).map g).sum := by
  congr 1
  exact List.map_congr_left fun j hj => h j (List.mem_range.1 hj)

theorem sum_split (f : Nat → Int) (m : Nat) : ∀ k, ((List.range (m + k)).map f).sum = ((List.range m).map f).sum + ((List.range k).map fun j => f (m + j)).sum
  | 0 => by simp
  | k + 1 => by
    rw [show m + (k + 1) = (m + k) + 1 by omega, List.range_succ, List.range_succ, List.map_append, List.map_append, List.sum_append, List.sum_append, sum_split f m k]
    simp only [List.map_cons, List.map_nil, List.sum_cons, List.sum_nil]
    omega

theorem sum_first (f : Nat → Int) (m : Nat) : ((List.range (m + 1)).map f).sum = f 0 + ((List.range m).map fun j => f (j + 1)).sum := by
  rw [List.range_succ_eq_map, List.map_cons, List.sum_cons, List.map_map]
  rfl

theorem sum_const (c : Int) : ∀ n : Nat, ((List.range n).map fun _ => c).sum = n * c
  | 0 => by simp
  | n + 1 => by
    rw [List.range_succ, List.map_append, List.sum_append, sum_const c n]
    simp only [List.map_cons, List.map_nil, List.sum_cons, List.sum_nil]
    have : ((n + 1 : Nat) : Int) * c = n * c + c := by
      rw [Int.natCast_add, Int.add_mul]
      simp
    omega

/-- A window of a sum. -/
theorem sum_window (f : Nat → Int) {A d H : Nat} (h : A + d ≤ H) : ((List.range H).map fun h => if A ≤ h ∧ h < A + d then f h else 0).sum = ((List.range d).map fun k => f (A + k)).sum := by
  obtain ⟨r, rfl⟩ : ∃ r, H = A + d + r := ⟨H - (A + d), by omega⟩
  rw [sum_split, sum_split]
  have e1 : ((List.range A).map fun h => if A ≤ h ∧ h < A + d then f h else 0).sum = 0 := sum_zero fun j hj => if_neg (by omega)
  have e2 : ((List.range r).map fun j => if A ≤ A + d + j ∧ A + d + j < A + d then f (A + d + j) else 0).sum = 0 := sum_zero fun j hj => if_neg (by omega)
  have e3 : ((List.range d).map fun j => if A ≤ A + j ∧ A + j < A + d then f (A + j) else 0).sum = ((List.range d).map fun k => f (A + k)).sum := sum_congr fun j hj => if_pos (by omega)
  rw [e1, e2, e3]
  omega

/-- The multiples of d among the first d * g numbers. -/
theorem mults (d : Nat) (hd : 0 < d) : ∀ g : Nat, ((List.range (d * g)).map fun k => if d ∣ k then (1 : Int) else 0).sum = g
  | 0 => by simp
  | g + 1 => by
    rw [Nat.mul_succ, sum_split, mults d hd g]
    have e : ((List.range d).map fun j => if d ∣ d * g + j then (1 : Int) else 0).sum = ((List.range d).map fun j => if j = 0 then (1 : Int) else 0).sum := sum_congr fun j hj => by
      have : d ∣ d * g + j ↔ j = 0 := by
        rw [Nat.dvd_add_right (Nat.dvd_mul_right d g)]
        constructor
        · intro h
          exact Nat.eq_zero_of_dvd_of_lt h hj
        · rintro rfl; exact Nat.dvd_zero d
      by_cases c : j = 0
      · rw [if_pos (this.2 c), if_pos c]
      · rw [if_neg (fun x => c (this.1 x)), if_neg c]
    rw [e, sum_one 0 1, if_pos hd]
    simp

/-- How many of the multiples of n, the first m, are multiples of m. -/
theorem dvd_count (n : Int) (m : Nat) (hm : 0 < m) : ((List.range m).map fun k : Nat => if (m : Int) ∣ n * (k : Int) then (1 : Int) else 0).sum = Nat.gcd n.natAbs m := by
  obtain ⟨g, hg⟩ : ∃ g, Nat.gcd n.natAbs m = g := ⟨_, rfl⟩
  have hgp : 0 < g := by rw [← hg]; exact Nat.gcd_pos_of_pos_right _ hm
  obtain ⟨d, hd⟩ : g ∣ m := by rw [← hg]; exact Nat.gcd_dvd_right _ _
  obtain ⟨e, he⟩ : g ∣ n.natAbs := by rw [← hg]; exact Nat.gcd_dvd_left _ _
  have hdp : 0 < d := by
    rcases Nat.eq_zero_or_pos d with h | h
    · rw [h] at hd; omega
    · exact h
  have hco : Nat.Coprime d e := by
    have : Nat.gcd (g * e) (g * d) = g := by rw [← he, ← hd]; exact hg
    rw [Nat.gcd_mul_left] at this
    have h1 : Nat.gcd e d = 1 := by
      have h2 : g * Nat.gcd e d = g * 1 := by omega
      exact Nat.eq_of_mul_eq_mul_left hgp h2
    rw [Nat.Coprime, Nat.gcd_comm]
    exact h1
  rw [hg]
  have hm2 : m = d * g := by rw [hd, Nat.mul_comm]
  have key : ∀ k : Nat, (m : Int) ∣ n * (k : Int) ↔ d ∣ k := fun k => by
    rw [Int.ofNat_dvd_left, Int.natAbs_mul, Int.natAbs_natCast, he, hd, Nat.mul_assoc, Nat.mul_dvd_mul_iff_left hgp]
    exact ⟨fun h => hco.dvd_of_dvd_mul_left h, fun h => Nat.dvd_trans h (Nat.dvd_mul_left k e)⟩
  have s : ((List.range m).map fun k : Nat => if (m : Int) ∣ n * (k : Int) then (1 : Int) else 0).sum = ((List.range m).map fun k => if d ∣ k then (1 : Int) else 0).sum := sum_congr fun k _ => by
    by_cases c : d ∣ k
    · rw [if_pos c, if_pos ((key k).2 c)]
    · rw [if_neg c, if_neg (fun x => c ((key k).1 x))]
  rw [s, hm2]
  exact mults d hdp g

/-- The least number that is not below a quotient. -/
def ceil (x : Int) (m : Nat) : Int := - ((-x) / (m : Int))

theorem ceil_spec {x : Int} {m : Nat} (hm : 0 < m) (v : Int) : v * m < x ↔ v < ceil x m := by
  unfold ceil
  have hm' : (0 : Int) < m := by omega
  have h := Int.le_ediv_iff_mul_le (a := -v) (b := -x) hm'
  rw [Int.neg_mul] at h
  omega

theorem ediv_neg_sum {x : Int} {m : Nat} (hm : 0 < m) : x / (m : Int) + (-x) / (m : Int) = if (m : Int) ∣ x then 0 else -1 := by
  have hm' : (0 : Int) < m := by omega
  have a1 := Int.mul_ediv_add_emod x m
  have a2 := Int.mul_ediv_add_emod (-x) m
  have b1 := Int.emod_nonneg x (show (m : Int) ≠ 0 by omega)
  have b2 := Int.emod_lt_of_pos x hm'
  have b3 := Int.emod_nonneg (-x) (show (m : Int) ≠ 0 by omega)
  have b4 := Int.emod_lt_of_pos (-x) hm'
  generalize x / (m : Int) = q, (-x) / (m : Int) = q' at *
  have e : (m : Int) * (q + q') + (x % m + -x % m) = 0 := by rw [Int.mul_add]; omega
  have k1 : q + q' ≤ 0 := by
    by_cases c : q + q' ≤ 0
    · exact c
    · have := Int.mul_le_mul_of_nonneg_left (show (1 : Int) ≤ q + q' by omega) (Int.le_of_lt hm')
      omega
  have k2 : -1 ≤ q + q' := by
    by_cases c : -1 ≤ q + q'
    · exact c
    · have := Int.mul_le_mul_of_nonneg_left (show q + q' ≤ (-2 : Int) by omega) (Int.le_of_lt hm')
      omega
  by_cases c : (m : Int) ∣ x
  · rw [if_pos c]
    have c1 := Int.emod_eq_zero_of_dvd c
    have c2 := Int.emod_eq_zero_of_dvd (Int.dvd_neg.2 c)
    have : (m : Int) * (q + q') = 0 := by omega
    rcases Int.mul_eq_zero.1 this with h | h <;> omega
  · rw [if_neg c]
    have c1 : x % m ≠ 0 := fun h => c (Int.dvd_of_emod_eq_zero h)
    have : q + q' ≠ 0 := fun h => by rw [h, Int.mul_zero] at e; omega
    omega

/-- Twice the ceilings along an edge. -/
theorem ceil_sum (n : Int) (m : Nat) (hm : 0 < m) : 2 * ((List.range m).map fun k : Nat => ceil (n * (k : Int)) m).sum = n * m - n + m - Nat.gcd n.natAbs m := by
  have hm' : (0 : Int) < m := by omega
  obtain ⟨r, rfl⟩ : ∃ r, m = r + 1 := ⟨m - 1, by omega⟩
  have hc := dvd_count n (r + 1) hm
  rw [sum_first] at hc
  rw [sum_first]
  have z : ceil (n * ((0 : Nat) : Int)) (r + 1) = 0 := by unfold ceil; simp
  rw [z]
  have rev := sum_rev (fun j : Nat => ceil (n * ((j + 1 : Nat) : Int)) (r + 1)) r
  have pair : ∀ j, j < r → ceil (n * ((j + 1 : Nat) : Int)) (r + 1) + ceil (n * ((r - 1 - j + 1 : Nat) : Int)) (r + 1) = (n + 1) - if ((r + 1 : Nat) : Int) ∣ n * ((j + 1 : Nat) : Int) then (1 : Int) else 0 := by
    intro j hj
    obtain ⟨x, hx⟩ : ∃ x, n * ((j + 1 : Nat) : Int) = x := ⟨_, rfl⟩
    have e : n * ((r - 1 - j + 1 : Nat) : Int) = n * ((r + 1 : Nat) : Int) - x := by
      rw [← hx, ← Int.mul_sub]
      congr 1
      omega
    rw [e, hx]
    have h1 := ediv_neg_sum (x := x) hm
    unfold ceil
    have e2 : -(n * ((r + 1 : Nat) : Int) - x) = x + (-n) * ((r + 1 : Nat) : Int) := by rw [Int.neg_mul]; omega
    rw [e2, Int.add_mul_ediv_right _ _ (show ((r + 1 : Nat) : Int) ≠ 0 by omega)]
    split at h1 <;> rename_i c
    · rw [if_pos c]; omega
    · rw [if_neg c]; omega
  have s : ((List.range r).map fun j : Nat => ceil (n * ((j + 1 : Nat) : Int)) (r + 1) + ceil (n * ((r - 1 - j + 1 : Nat) : Int)) (r + 1)).sum = ((List.range r).map fun j : Nat => (n + 1) - if ((r + 1 : Nat) : Int) ∣ n * ((j + 1 : Nat) : Int) then (1 : Int) else 0).sum := sum_congr pair
  rw [sum_add, sum_sub, sum_const] at s
  rw [if_pos (by simp)] at hc
  have e3 : n * ((r + 1 : Nat) : Int) = n * r + n := by
    rw [Int.natCast_add, Int.mul_add]
    simp
  have e4 : (r : Int) * (n + 1) = n * r + r := by grind
  rw [e4] at s
  rw [e3]
  omega

end Go.Proofs.Ytpknllbglppjcaa

/- Counting on a grid (plain): what an edge of a polygon counts. -/
namespace Go.Proofs.Ytpknllbglppjcaa
open Go Go.RowKit Go.Proofs

/-- A sum over a box of the grid. -/
def gs (X0 Y0 : Int) (w h : Nat) (f : P2 → Int) : Int := ((List.range h).map fun k : Nat => ((List.range w).map fun i : Nat => f (X0 + (i : Int), Y0 + (k : Int))).sum).sum
def InB (X0 Y0 : Int) (w h : Nat) (p : P2) : Prop := X0 ≤ p.1 ∧ p.1 < X0 + w ∧ Y0 ≤ p.2 ∧ p.2 < Y0 + h

section
variable {X0 Y0 : Int} {w h : Nat}

theorem gs_congr {f g : P2 → Int} (e : ∀ z, InB X0 Y0 w h z → f z = g z) : gs X0 Y0 w h f = gs X0 Y0 w h g :=
  sum_congr fun k hk => sum_congr fun i hi => e _ ⟨by show X0 ≤ X0 + (i : Int); omega, by show X0 + (i : Int) < X0 + w; omega, by show Y0 ≤ Y0 + (k : Int); omega, by show Y0 + (k : Int) < Y0 + h; omega⟩

theorem gs_add (f g : P2 → Int) : gs X0 Y0 w h (fun z => f z + g z) = gs X0 Y0 w h f + gs X0 Y0 w h g := by
  unfold gs
  rw [← sum_add]
  exact sum_congr fun k _ => sum_add _ _ _

theorem gs_mul (c : Int) (f : P2 → Int) : gs X0 Y0 w h (fun z => c * f z) = c * gs X0 Y0 w h f := by
  unfold gs
  rw [← sum_mul]
  exact sum_congr fun k _ => sum_mul _ _ _

theorem gs_neg (f : P2 → Int) : gs X0 Y0 w h (fun z => - f z) = - gs X0 Y0 w h f := by
  unfold gs
  rw [← sum_neg]
  exact sum_congr fun k _ => sum_neg _ _

theorem gs_sum (F : Nat → P2 → Int) (n : Nat) : gs X0 Y0 w h (fun z => ((List.range n).map fun j => F j z).sum) = ((List.range n).map fun j => gs X0 Y0 w h (F j)).sum := by
  unfold gs
  refine (sum_congr fun k _ => sum_swap (fun i j => F j (X0 + (i : Int), Y0 + (k : Int))) n w).trans ?_
  exact sum_swap (fun k j => ((List.range w).map fun i : Nat => F j (X0 + (i : Int), Y0 + (k : Int))).sum) n h

theorem gs_zero {f : P2 → Int} (e : ∀ z, InB X0 Y0 w h z → f z = 0) : gs X0 Y0 w h f = 0 := by
  rw [gs_congr e]
  exact sum_zero fun k _ => sum_zero fun i _ => rfl

theorem one_at {w : Nat} {X0 x : Int} (h1 : X0 ≤ x) (h2 : x < X0 + w) : ((List.range w).map fun i : Nat => if X0 + (i : Int) = x then (1 : Int) else 0).sum = 1 := by
  have e : ((List.range w).map fun i : Nat => if X0 + (i : Int) = x then (1 : Int) else 0).sum = ((List.range w).map fun i : Nat => if i = (x - X0).toNat then (1 : Int) else 0).sum := sum_congr fun i _ => by
    by_cases c : i = (x - X0).toNat
    · rw [if_pos c, if_pos (by omega)]
    · rw [if_neg c, if_neg (by omega)]
  rw [e, sum_one, if_pos (by omega)]

theorem gs_point {p : P2} (hp : InB X0 Y0 w h p) : gs X0 Y0 w h (fun z => if z = p then 1 else 0) = 1 := by
  obtain ⟨h1, h2, h3, h4⟩ := hp
  unfold gs
  have e : ((List.range h).map fun k : Nat => ((List.range w).map fun i : Nat => if (X0 + (i : Int), Y0 + (k : Int)) = p then (1 : Int) else 0).sum).sum = ((List.range h).map fun k : Nat => if Y0 + (k : Int) = p.2 then (1 : Int) else 0).sum := sum_congr fun k _ => by
    by_cases c : Y0 + (k : Int) = p.2
    · rw [if_pos c]
      refine Eq.trans ?_ (one_at h1 h2)
      exact sum_congr fun i _ => by
        by_cases d : X0 + (i : Int) = p.1
        · rw [if_pos d, if_pos (Prod.ext d c)]
        · rw [if_neg d, if_neg (fun x => d (congrArg Prod.fst x))]
    · rw [if_neg c]
      exact sum_zero fun i _ => if_neg (fun x => c (congrArg Prod.snd x))
  rw [e, one_at h3 h4]

/-- Ceilings between. -/
theorem ceil_between {n lo hi : Int} {m k : Nat} (hk : k < m) (h1 : lo ≤ 0) (h2 : lo ≤ n) (h3 : 0 ≤ hi) (h4 : n ≤ hi) : lo ≤ ceil (n * k) m ∧ ceil (n * k) m ≤ hi := by
  have hm : 0 < m := by omega
  have a1 := (ceil_spec hm (x := n * k) (lo - 1)).1
  have a2 := mt (ceil_spec hm (x := n * k) hi).2
  have k0 : (0 : Int) ≤ k := by omega
  have mk : (0 : Int) ≤ (m : Int) - k := by omega
  have p1 : 0 ≤ (n - lo) * (k : Int) := Int.mul_nonneg (by omega) k0
  have p2 : 0 ≤ (-lo) * ((m : Int) - k) := Int.mul_nonneg (by omega) mk
  have p3 : 0 ≤ (hi - n) * (k : Int) := Int.mul_nonneg (by omega) k0
  have p4 : 0 ≤ hi * ((m : Int) - k) := Int.mul_nonneg h3 mk
  have e1 : (lo - 1) * (m : Int) = n * k - (n - lo) * k - (-lo) * ((m : Int) - k) * (-1) * (-1) - m := by grind
  have e2 : hi * (m : Int) = n * k + (hi - n) * k + hi * ((m : Int) - k) := by grind
  constructor
  · have := a1 (by rw [e1]; grind)
    omega
  · have := a2 (by omega)
    omega

theorem crs_row {ax ay bx s x m k : Int} : crs (ax, ay) (bx, ay + s * m) (x, ay + s * k) = s * ((bx - ax) * k - m * (x - ax)) := by
  show (bx - ax) * (ay + s * k - ay) - (ay + s * m - ay) * (x - ax) = _
  grind

/-- What an upward edge counts to its left. -/
theorem up_total {ax bx : Int} {A m : Nat} (hm : 0 < m) (hA : A + m ≤ h) (ha : X0 ≤ ax ∧ ax < X0 + w) (hb : X0 ≤ bx ∧ bx < X0 + w) :
    2 * gs X0 Y0 w h (cw (ax, Y0 + A) (bx, Y0 + A + m)) = m * (ax + bx - 2 * X0) - (bx - ax) + m - Nat.gcd (bx - ax).natAbs m := by
  have row : ∀ k : Nat, k < h → ((List.range w).map fun i : Nat => cw (ax, Y0 + A) (bx, Y0 + A + m) (X0 + (i : Int), Y0 + (k : Int))).sum = if A ≤ k ∧ k < A + m then ax - X0 + ceil ((bx - ax) * ((k - A : Nat) : Int)) m else 0 := by
    intro k hk
    by_cases c : A ≤ k ∧ k < A + m
    · rw [if_pos c]
      obtain ⟨j, rfl⟩ : ∃ j, k = A + j := ⟨k - A, by omega⟩
      rw [show A + j - A = j by omega]
      have hj : j < m := by omega
      have hc := ceil_between (n := bx - ax) (lo := X0 - ax) (hi := X0 + w - ax) hj (by omega) (by omega) (by omega) (by omega)
      have e : ((List.range w).map fun i : Nat => cw (ax, Y0 + A) (bx, Y0 + A + m) (X0 + (i : Int), Y0 + ((A + j : Nat) : Int))).sum = ((List.range w).map fun i : Nat => if (i : Int) < ax - X0 + ceil ((bx - ax) * (j : Int)) m then (1 : Int) else 0).sum := sum_congr fun i _ => by
        have cr := crs_row (ax := ax) (ay := Y0 + A) (bx := bx) (s := 1) (x := X0 + i) (m := m) (k := j)
        rw [Int.one_mul, Int.one_mul, Int.one_mul] at cr
        have sp := ceil_spec hm (x := (bx - ax) * (j : Int)) (X0 + i - ax)
        rw [Int.mul_comm] at sp
        have ey : Y0 + ((A + j : Nat) : Int) = Y0 + A + j := by omega
        rw [ey]
        unfold cw
        rw [cr]
        show (if Y0 + (A : Int) ≤ Y0 + A + j ∧ Y0 + (A : Int) + j < Y0 + A + m ∧ _ then (1 : Int) else if Y0 + (A : Int) + m ≤ Y0 + A + j ∧ Y0 + (A : Int) + j < Y0 + A ∧ _ then -1 else 0) = _
        rw [if_neg (c := _ ∧ _ ∧ (_ : Int) < 0) (by omega)]
        by_cases d : (i : Int) < ax - X0 + ceil ((bx - ax) * (j : Int)) m
        · rw [if_pos d, if_pos ⟨by omega, by omega, by have := sp.2 (by omega); omega⟩]
        · rw [if_neg d, if_neg (fun x => d (by have := sp.1 (by omega); omega))]
      rw [e, sum_below _ _ _ (by omega)]
      split <;> omega
    · rw [if_neg c]
      exact sum_zero fun i _ => by
        unfold cw
        show (if Y0 + (A : Int) ≤ Y0 + k ∧ Y0 + (k : Int) < Y0 + A + m ∧ _ then (1 : Int) else if Y0 + (A : Int) + m ≤ Y0 + k ∧ Y0 + (k : Int) < Y0 + A ∧ _ then -1 else 0) = _
        rw [if_neg (by omega), if_neg (by omega)]
  have e1 : gs X0 Y0 w h (cw (ax, Y0 + A) (bx, Y0 + A + m)) = ((List.range m).map fun k : Nat => ax - X0 + ceil ((bx - ax) * (k : Int)) m).sum := by
    have e0 := sum_window (fun k => ax - X0 + ceil ((bx - ax) * ((k - A : Nat) : Int)) m) hA
    unfold gs
    rw [sum_congr row, e0]
    exact sum_congr fun k _ => by rw [show A + k - A = k by omega]
  have e2 := ceil_sum (bx - ax) m hm
  rw [e1, sum_add, sum_const]
  have e3 : (m : Int) * (ax + bx - 2 * X0) = 2 * (m * (ax - X0)) + (bx - ax) * m := by grind
  rw [e3]
  omega

theorem gcd_nats (x y : Int) : Int.gcd x y = Nat.gcd x.natAbs y.natAbs := rfl

/-- What an edge counts. -/
theorem edge_total {a b : P2} (ha : InB X0 Y0 w h a) (hb : InB X0 Y0 w h b) :
    2 * gs X0 Y0 w h (cw a b) = (b.2 - a.2) * (a.1 + b.1 - 2 * X0) - (b.1 - a.1) + (b.2 - a.2) + (2 * hd a b - 1) * (Int.gcd (b.1 - a.1) (b.2 - a.2) : Int) := by
  obtain ⟨a1, a2, a3, a4⟩ := ha
  obtain ⟨b1, b2, b3, b4⟩ := hb
  obtain ⟨ax, ay⟩ := a
  obtain ⟨bx, by_⟩ := b
  simp only at a1 a2 a3 a4 b1 b2 b3 b4
  simp only [gcd_nats]
  rcases Int.lt_trichotomy ay by_ with hE | hE | hE
  · obtain ⟨A, hA⟩ : ∃ A : Nat, ay = Y0 + A := ⟨(ay - Y0).toNat, by omega⟩
    obtain ⟨m, hm⟩ : ∃ m : Nat, by_ = Y0 + A + m := ⟨(by_ - ay).toNat, by omega⟩
    have := up_total (X0 := X0) (Y0 := Y0) (w := w) (h := h) (ax := ax) (bx := bx) (A := A) (m := m) (by omega) (by omega) ⟨a1, a2⟩ ⟨b1, b2⟩
    have hh : hd (ax, ay) (bx, by_) = 0 := by
      unfold hd
      exact if_neg (by show ¬ (by_ < ay ∨ ay = by_ ∧ ax < bx); omega)
    rw [hh, hA, hm, this, show Y0 + (A : Int) + m - (Y0 + A) = m by omega, Int.natAbs_natCast]
    omega
  · have z : gs X0 Y0 w h (cw (ax, ay) (bx, by_)) = 0 := gs_zero fun z _ => by
      unfold cw
      simp only
      repeat' split
      all_goals omega
    rw [z, hE, Int.sub_self, Int.natAbs_zero, Nat.gcd_zero_right]
    have hh : hd (ax, by_) (bx, by_) = if ax < bx then 1 else 0 := by
      unfold hd
      by_cases c : ax < bx
      · rw [if_pos c, if_pos (Or.inr ⟨rfl, c⟩)]
      · rw [if_neg c, if_neg (by show ¬ (by_ < by_ ∨ by_ = by_ ∧ ax < bx); omega)]
    rw [hh, Int.zero_mul]
    split <;> omega
  · obtain ⟨A, hA⟩ : ∃ A : Nat, by_ = Y0 + A := ⟨(by_ - Y0).toNat, by omega⟩
    obtain ⟨m, hm⟩ : ∃ m : Nat, ay = Y0 + A + m := ⟨(ay - by_).toNat, by omega⟩
    have t := up_total (X0 := X0) (Y0 := Y0) (w := w) (h := h) (ax := bx) (bx := ax) (A := A) (m := m) (by omega) (by omega) ⟨b1, b2⟩ ⟨a1, a2⟩
    have s : gs X0 Y0 w h (cw (ax, ay) (bx, by_)) = - gs X0 Y0 w h (cw (bx, by_) (ax, ay)) := by
      rw [← gs_neg]
      exact gs_congr fun z _ => cw_swap _ _ _
    have hh : hd (ax, ay) (bx, by_) = 1 := by
      unfold hd
      exact if_pos (by show by_ < ay ∨ ay = by_ ∧ ax < bx; omega)
    rw [← hm, ← hA] at t
    rw [s, hh, show by_ - ay = -(m : Int) by omega, Int.natAbs_neg, Int.natAbs_natCast, show (bx - ax).natAbs = (ax - bx).natAbs by omega, Int.neg_mul, show ax + bx - 2 * X0 = bx + ax - 2 * X0 by omega]
    omega

end
end Go.Proofs.Ytpknllbglppjcaa

/- Counting on a grid (plain): the points of an edge, but for its end. -/
namespace Go.Proofs.Ytpknllbglppjcaa
open Go Go.RowKit Go.Proofs

instance {z a b : P2} : Decidable (lieP z a b) := by unfold lieP; infer_instance

/-- Does the point lie on the edge, but not at its end? -/
def hoI (a b z : P2) : Int := if lieP z a b ∧ z ≠ b then 1 else 0

/-- A row of an edge that isn't level. -/
theorem ho_row {ax ay bx s x m k : Int} (hs : s = 1 ∨ s = -1) (hm : 0 < m) : (lieP (x, ay + s * k) (ax, ay) (bx, ay + s * m) ∧ (x, ay + s * k) ≠ (bx, ay + s * m)) ↔ 0 ≤ k ∧ k < m ∧ (bx - ax) * k = m * (x - ax) := by
  have hc := crs_row (ax := ax) (ay := ay) (bx := bx) (s := s) (x := x) (m := m) (k := k)
  have hz : crs (ax, ay) (bx, ay + s * m) (x, ay + s * k) = 0 ↔ (bx - ax) * k = m * (x - ax) := by
    rw [hc]
    rcases hs with rfl | rfl <;> omega
  have hne : (x, ay + s * k) ≠ (bx, ay + s * m) ↔ ¬ (x = bx ∧ k = m) := by
    rw [Ne, Prod.mk.injEq]
    rcases hs with rfl | rfl <;> omega
  rw [hne]
  unfold lieP
  rw [hz]
  simp only
  constructor
  · rintro ⟨⟨e, -, -, h1, h2⟩, h3⟩
    have hk : 0 ≤ k ∧ k ≤ m := by rcases hs with rfl | rfl <;> omega
    refine ⟨hk.1, ?_, e⟩
    by_cases c : k = m
    · rw [c, Int.mul_comm] at e
      have := Int.eq_of_mul_eq_mul_left (by omega) e
      omega
    · omega
  · rintro ⟨h1, h2, e⟩
    have p1 : ∀ u v : Int, 0 ≤ u → 0 ≤ v → 0 ≤ u * v := fun u v => Int.mul_nonneg
    have y : min ay (ay + s * m) ≤ ay + s * k ∧ ay + s * k ≤ max ay (ay + s * m) := by rcases hs with rfl | rfl <;> omega
    have cancel : ∀ u : Int, 0 ≤ m * u → 0 ≤ u := fun u hu => by
      by_cases c : 0 ≤ u
      · exact c
      · have := Int.mul_pos hm (show 0 < -u by omega)
        rw [Int.mul_neg] at this
        omega
    refine ⟨⟨e, ?_, ?_, y.1, y.2⟩, by omega⟩
    · by_cases c : 0 ≤ bx - ax
      · have := cancel (x - ax) (by rw [← e]; exact p1 _ _ c h1)
        omega
      · have q := p1 (ax - bx) (m - k) (by omega) (by omega)
        have := cancel (x - bx) (by have : m * (x - bx) = m * (x - ax) - (bx - ax) * k + (ax - bx) * (m - k) * (-1) * (-1) := by grind
                                    rw [this, e]; omega)
        omega
    · by_cases c : 0 ≤ bx - ax
      · have q := p1 (bx - ax) (m - k) (by omega) (by omega)
        have := cancel (bx - x) (by have : m * (bx - x) = (bx - ax) * k - m * (x - ax) + (bx - ax) * (m - k) := by grind
                                    rw [this, e]; omega)
        omega
      · have q := p1 (ax - bx) k (by omega) h1
        have := cancel (ax - x) (by have : m * (ax - x) = (ax - bx) * k + ((bx - ax) * k - m * (x - ax)) := by grind
                                    rw [this, e]; omega)
        omega

section
variable {X0 Y0 : Int} {w h : Nat}

theorem row_count {ax bx : Int} {m k : Nat} (hk : k < m) (ha : X0 ≤ ax ∧ ax < X0 + w) (hb : X0 ≤ bx ∧ bx < X0 + w) :
    ((List.range w).map fun i : Nat => if (bx - ax) * (k : Int) = m * (X0 + i - ax) then (1 : Int) else 0).sum = if (m : Int) ∣ (bx - ax) * (k : Int) then 1 else 0 := by
  have hm : (0 : Int) < m := by omega
  by_cases c : (m : Int) ∣ (bx - ax) * (k : Int)
  · rw [if_pos c]
    obtain ⟨q, hq⟩ := c
    have k0 : (0 : Int) ≤ k := by omega
    have mk : (0 : Int) ≤ (m : Int) - k := by omega
    have cancel : ∀ u : Int, 0 ≤ (m : Int) * u → 0 ≤ u := fun u hu => by
      by_cases c : 0 ≤ u
      · exact c
      · have := Int.mul_pos hm (show 0 < -u by omega)
        rw [Int.mul_neg] at this
        omega
    have b1 : 0 ≤ ax + q - X0 := cancel _ (by
      have p1 := Int.mul_nonneg (show 0 ≤ bx - X0 by omega) k0
      have p2 := Int.mul_nonneg (show 0 ≤ ax - X0 by omega) mk
      have : (m : Int) * (ax + q - X0) = (m * q - (bx - ax) * k) + (bx - X0) * k + (ax - X0) * (m - k) := by grind
      rw [this, hq]; omega)
    have b2 : 0 ≤ X0 + w - 1 - (ax + q) := cancel _ (by
      have p1 := Int.mul_nonneg (show 0 ≤ X0 + w - 1 - bx by omega) k0
      have p2 := Int.mul_nonneg (show 0 ≤ X0 + w - 1 - ax by omega) mk
      have : (m : Int) * (X0 + w - 1 - (ax + q)) = ((bx - ax) * k - m * q) + (X0 + w - 1 - bx) * k + (X0 + w - 1 - ax) * (m - k) := by grind
      rw [this, hq]; omega)
    refine Eq.trans ?_ (one_at (w := w) (X0 := X0) (x := ax + q) (by omega) (by omega))
    exact sum_congr fun i _ => by
      by_cases d : X0 + (i : Int) = ax + q
      · rw [if_pos d, if_pos (by rw [hq, show X0 + (i : Int) - ax = q by omega])]
      · rw [if_neg d, if_neg (fun x => d (by
          rw [hq] at x
          have := Int.eq_of_mul_eq_mul_left (by omega) x
          omega))]
  · rw [if_neg c]
    exact sum_zero fun i _ => if_neg fun x => c ⟨_, x⟩

theorem up_ho {ax bx : Int} {A m : Nat} (hm : 0 < m) (hA : A + m ≤ h) (ha : X0 ≤ ax ∧ ax < X0 + w) (hb : X0 ≤ bx ∧ bx < X0 + w) :
    gs X0 Y0 w h (hoI (ax, Y0 + A) (bx, Y0 + A + m)) = Nat.gcd (bx - ax).natAbs m := by
  have row : ∀ k : Nat, k < h → ((List.range w).map fun i : Nat => hoI (ax, Y0 + A) (bx, Y0 + A + m) (X0 + (i : Int), Y0 + (k : Int))).sum = if A ≤ k ∧ k < A + m then (if (m : Int) ∣ (bx - ax) * ((k - A : Nat) : Int) then 1 else 0) else 0 := by
    intro k hk
    have hr := fun i : Nat => ho_row (ax := ax) (ay := Y0 + A) (bx := bx) (s := 1) (x := X0 + i) (m := m) (k := (k : Int) - A) (Or.inl rfl) (by omega)
    simp only [Int.one_mul] at hr
    rw [show Y0 + (A : Int) + ((k : Int) - A) = Y0 + k by omega] at hr
    by_cases c : A ≤ k ∧ k < A + m
    · rw [if_pos c, ← row_count (show k - A < m by omega) ha hb]
      exact sum_congr fun i _ => by
        unfold hoI
        rw [show ((k - A : Nat) : Int) = (k : Int) - A by omega]
        by_cases d : (bx - ax) * ((k : Int) - A) = m * (X0 + i - ax)
        · rw [if_pos d, if_pos ((hr i).2 ⟨by omega, by omega, d⟩)]
        · rw [if_neg d, if_neg (fun x => d ((hr i).1 x).2.2)]
    · rw [if_neg c]
      exact sum_zero fun i _ => if_neg fun x => by have := (hr i).1 x; omega
  unfold gs
  rw [sum_congr row, sum_window (fun k => if (m : Int) ∣ (bx - ax) * ((k - A : Nat) : Int) then (1 : Int) else 0) hA, ← dvd_count (bx - ax) m hm]
  exact sum_congr fun k _ => by rw [show A + k - A = k by omega]

theorem down_ho {ax bx : Int} {A m : Nat} (hm : 0 < m) (hA : A + m < h) (ha : X0 ≤ ax ∧ ax < X0 + w) (hb : X0 ≤ bx ∧ bx < X0 + w) :
    gs X0 Y0 w h (hoI (ax, Y0 + A + m) (bx, Y0 + A)) = Nat.gcd (bx - ax).natAbs m := by
  have row : ∀ k : Nat, k < h → ((List.range w).map fun i : Nat => hoI (ax, Y0 + A + m) (bx, Y0 + A) (X0 + (i : Int), Y0 + (k : Int))).sum = if A + 1 ≤ k ∧ k < A + 1 + m then (if (m : Int) ∣ (bx - ax) * ((A + m - k : Nat) : Int) then 1 else 0) else 0 := by
    intro k hk
    have hr := fun i : Nat => ho_row (ax := ax) (ay := Y0 + A + m) (bx := bx) (s := -1) (x := X0 + i) (m := m) (k := (A : Int) + m - k) (Or.inr rfl) (by omega)
    simp only [show Y0 + (A : Int) + m + -1 * (A + m - k) = Y0 + k by omega, show Y0 + (A : Int) + m + -1 * m = Y0 + A by omega] at hr
    by_cases c : A + 1 ≤ k ∧ k < A + 1 + m
    · rw [if_pos c, ← row_count (show A + m - k < m by omega) ha hb]
      exact sum_congr fun i _ => by
        unfold hoI
        rw [show ((A + m - k : Nat) : Int) = (A : Int) + m - k by omega]
        by_cases d : (bx - ax) * ((A : Int) + m - k) = m * (X0 + i - ax)
        · rw [if_pos d, if_pos ((hr i).2 ⟨by omega, by omega, d⟩)]
        · rw [if_neg d, if_neg (fun x => d ((hr i).1 x).2.2)]
    · rw [if_neg c]
      exact sum_zero fun i _ => if_neg fun x => by have := (hr i).1 x; omega
  unfold gs
  rw [sum_congr row, sum_window (fun k => if (m : Int) ∣ (bx - ax) * ((A + m - k : Nat) : Int) then (1 : Int) else 0) (show A + 1 + m ≤ h by omega), ← dvd_count (bx - ax) m hm]
  rw [← sum_rev (fun k : Nat => if (m : Int) ∣ (bx - ax) * (k : Int) then (1 : Int) else 0) m]
  exact sum_congr fun k _ => by rw [show A + m - (A + 1 + k) = m - 1 - k by omega]

theorem level_ho {ax bx y : Int} (ha : X0 ≤ ax ∧ ax < X0 + w) (hb : X0 ≤ bx ∧ bx < X0 + w) (hy : Y0 ≤ y ∧ y < Y0 + h) :
    gs X0 Y0 w h (hoI (ax, y) (bx, y)) = (bx - ax).natAbs := by
  have hr : ∀ x y', (lieP (x, y') (ax, y) (bx, y) ∧ (x, y') ≠ (bx, y)) ↔ y' = y ∧ ((ax ≤ x ∧ x < bx) ∨ (bx < x ∧ x ≤ ax)) := by
    intro x y'
    rw [Ne, Prod.mk.injEq]
    unfold lieP
    simp only
    constructor
    · rintro ⟨⟨-, h1, h2, h3, h4⟩, h5⟩; omega
    · rintro ⟨rfl, h1⟩
      refine ⟨⟨?_, by omega, by omega, by omega, by omega⟩, by omega⟩
      show (bx - ax) * (y' - y') - (y' - y') * (x - ax) = 0
      rw [Int.sub_self, Int.mul_zero, Int.zero_mul]
      rfl
  have cnt : ((List.range w).map fun i : Nat => if (ax ≤ X0 + i ∧ X0 + i < bx) ∨ (bx < X0 + i ∧ X0 + (i : Int) ≤ ax) then (1 : Int) else 0).sum = (bx - ax).natAbs := by
    rcases Int.le_total ax bx with c | c
    · have e := sum_window (fun _ => 1) (A := (ax - X0).toNat) (d := (bx - ax).toNat) (H := w) (by omega)
      rw [sum_const] at e
      refine Eq.trans (sum_congr fun i _ => ?_) (e.trans (by omega))
      by_cases d : (ax - X0).toNat ≤ i ∧ i < (ax - X0).toNat + (bx - ax).toNat
      · rw [if_pos d, if_pos (by omega)]
      · rw [if_neg d, if_neg (by omega)]
    · have e := sum_window (fun _ => 1) (A := (bx - X0).toNat + 1) (d := (ax - bx).toNat) (H := w) (by omega)
      rw [sum_const] at e
      refine Eq.trans (sum_congr fun i _ => ?_) (e.trans (by omega))
      by_cases d : (bx - X0).toNat + 1 ≤ i ∧ i < (bx - X0).toNat + 1 + (ax - bx).toNat
      · rw [if_pos d, if_pos (by omega)]
      · rw [if_neg d, if_neg (by omega)]
  have row : ∀ k : Nat, k < h → ((List.range w).map fun i : Nat => hoI (ax, y) (bx, y) (X0 + (i : Int), Y0 + (k : Int))).sum = if k = (y - Y0).toNat then ((bx - ax).natAbs : Int) else 0 := by
    intro k hk
    by_cases c : k = (y - Y0).toNat
    · rw [if_pos c, ← cnt]
      exact sum_congr fun i _ => by
        unfold hoI
        by_cases d : (ax ≤ X0 + i ∧ X0 + i < bx) ∨ (bx < X0 + i ∧ X0 + (i : Int) ≤ ax)
        · rw [if_pos d, if_pos ((hr _ _).2 ⟨by omega, d⟩)]
        · rw [if_neg d, if_neg (fun x => d ((hr _ _).1 x).2)]
    · rw [if_neg c]
      exact sum_zero fun i _ => if_neg fun x => by have := ((hr _ _).1 x).1; omega
  unfold gs
  rw [sum_congr row, sum_one, if_pos (by omega)]

/-- The points of an edge, but for its end. -/
theorem ho_count {a b : P2} (ha : InB X0 Y0 w h a) (hb : InB X0 Y0 w h b) : gs X0 Y0 w h (hoI a b) = Int.gcd (b.1 - a.1) (b.2 - a.2) := by
  obtain ⟨a1, a2, a3, a4⟩ := ha
  obtain ⟨b1, b2, b3, b4⟩ := hb
  obtain ⟨ax, ay⟩ := a
  obtain ⟨bx, by_⟩ := b
  simp only at a1 a2 a3 a4 b1 b2 b3 b4
  simp only [gcd_nats]
  rcases Int.lt_trichotomy ay by_ with hE | hE | hE
  · obtain ⟨A, hA⟩ : ∃ A : Nat, ay = Y0 + A := ⟨(ay - Y0).toNat, by omega⟩
    obtain ⟨m, hm⟩ : ∃ m : Nat, by_ = Y0 + A + m := ⟨(by_ - ay).toNat, by omega⟩
    have := up_ho (X0 := X0) (Y0 := Y0) (w := w) (h := h) (ax := ax) (bx := bx) (A := A) (m := m) (by omega) (by omega) ⟨a1, a2⟩ ⟨b1, b2⟩
    rw [hA, hm, this, show Y0 + (A : Int) + m - (Y0 + A) = m by omega, Int.natAbs_natCast]
  · rw [hE, level_ho ⟨a1, a2⟩ ⟨b1, b2⟩ ⟨b3, b4⟩, Int.sub_self, Int.natAbs_zero, Nat.gcd_zero_right]
  · obtain ⟨A, hA⟩ : ∃ A : Nat, by_ = Y0 + A := ⟨(by_ - Y0).toNat, by omega⟩
    obtain ⟨m, hm⟩ : ∃ m : Nat, ay = Y0 + A + m := ⟨(ay - by_).toNat, by omega⟩
    have := down_ho (X0 := X0) (Y0 := Y0) (w := w) (h := h) (ax := ax) (bx := bx) (A := A) (m := m) (by omega) (by omega) ⟨a1, a2⟩ ⟨b1, b2⟩
    rw [hm, hA, this, show Y0 + (A : Int) - (Y0 + A + m) = -(m : Int) by omega, Int.natAbs_neg, Int.natAbs_natCast]

end
end Go.Proofs.Ytpknllbglppjcaa

/- Pick's theorem (plain). -/
namespace Go.Proofs.Ytpknllbglppjcaa
open Go Go.RowKit Go.Proofs

theorem two_lines {a p q z : P2} (h : crs a p q ≠ 0) (h1 : crs a p z = 0) (h2 : crs p q z = 0) : z = p := by
  have e1 : (z.1 - p.1) * crs a p q = (q.1 - p.1) * crs a p z + (a.1 - p.1) * crs p q z := by unfold crs cross; grind
  have e2 : (z.2 - p.2) * crs a p q = (q.2 - p.2) * crs a p z + (a.2 - p.2) * crs p q z := by unfold crs cross; grind
  rw [h1, h2, Int.mul_zero, Int.mul_zero, Int.add_zero] at e1 e2
  have f1 := (Int.mul_eq_zero.1 e1).resolve_right h
  have f2 := (Int.mul_eq_zero.1 e2).resolve_right h
  exact Prod.ext (by omega) (by omega)

theorem lie_a (a b : P2) : lieP a a b := by
  unfold lieP
  rw [crs_aba]
  omega

section
variable {P : Nat → P2} {n : Nat}

theorem bend_next (hS : Sim P n) {i : Nat} (hi : i < n) : crs (P i) (P ((i + 1) % n)) (P (((i + 1) % n + 1) % n)) ≠ 0 := by
  have h3 := hS.three
  have := hS.bend ((i + 1) % n) (Nat.mod_lt _ (by omega))
  rwa [← prev_of hi rfl] at this

theorem ends_ne (hS : Sim P n) {i : Nat} (hi : i < n) : P i ≠ P ((i + 1) % n) := fun e => by
  have := bend_next hS hi
  rw [← e] at this
  exact this (by show cross _ _ _ _ _ _ = 0; unfold cross; rw [Int.sub_self, Int.sub_self, Int.zero_mul, Int.zero_mul]; rfl)

def Ho (P : Nat → P2) (n : Nat) (z : P2) (j : Nat) : Prop := lieP z (P j) (P ((j + 1) % n)) ∧ z ≠ P ((j + 1) % n)
instance {z : P2} {j : Nat} : Decidable (Ho P n z j) := by unfold Ho; infer_instance
def On (P : Nat → P2) (n : Nat) (z : P2) : Prop := ∃ j, j < n ∧ lieP z (P j) (P ((j + 1) % n))

theorem ho_one (hS : Sim P n) (hi : ∀ j, j < n → In (P j)) {z : P2} {i j : Nat} (h1 : i < n) (h2 : j < n) (g1 : Ho P n z i) (g2 : Ho P n z j) : i = j := by
  have h3 := hS.three
  by_cases c : j = i
  · exact c.symm
  · by_cases c1 : j = (i + 1) % n
    · subst c1
      exact absurd (two_lines (bend_next hS h1) g1.1.1 g2.1.1) g1.2
    · by_cases c2 : i = (j + 1) % n
      · subst c2
        exact absurd (two_lines (bend_next hS h2) g2.1.1 g1.1.1) g2.2
      · exact (dj_none (hi j h2) (hi _ (Nat.mod_lt _ (by omega))) (hi i h1) (hi _ (Nat.mod_lt _ (by omega))) (ends_ne hS h2) (ends_ne hS h1) (hS.dis i j h1 h2 c c1 c2) g2.1 g1.1).elim

theorem ho_some (hS : Sim P n) {z : P2} (h : On P n z) : ∃ j, j < n ∧ Ho P n z j := by
  obtain ⟨j, hj, hl⟩ := h
  have h3 := hS.three
  by_cases c : z = P ((j + 1) % n)
  · have hj2 : (j + 1) % n < n := Nat.mod_lt _ (by omega)
    refine ⟨(j + 1) % n, hj2, ?_, ?_⟩
    · rw [c]; exact lie_a _ _
    · rw [c]; exact ends_ne hS hj2
  · exact ⟨j, hj, hl, c⟩

/-- The edges that a point is counted for. -/
def hoS (P : Nat → P2) (n : Nat) (z : P2) : Int := ((List.range n).map fun j => hoI (P j) (P ((j + 1) % n)) z).sum

theorem hoS_on (hS : Sim P n) (hi : ∀ j, j < n → In (P j)) {z : P2} (h : On P n z) : hoS P n z = 1 := by
  obtain ⟨j, hj, hh⟩ := ho_some hS h
  unfold hoS
  rw [sum_congr (g := fun i => if i = j then 1 else 0), sum_one, if_pos hj]
  intro i hin
  unfold hoI
  by_cases c : i = j
  · subst c
    rw [if_pos rfl]
    exact if_pos hh
  · rw [if_neg c]
    exact if_neg (fun x => c (ho_one hS hi hin hj x hh))

theorem hoS_off {z : P2} (h : ¬ On P n z) : hoS P n z = 0 := by
  unfold hoS
  exact sum_zero fun j hj => if_neg fun x => h ⟨j, hj, x.1⟩

def gg (P : Nat → P2) (n j : Nat) : Int := (Int.gcd ((P ((j + 1) % n)).1 - (P j).1) ((P ((j + 1) % n)).2 - (P j).2) : Nat)

variable {X0 Y0 : Int} {w h : Nat}

/-- The points of the border. -/
theorem border_count (h3 : 3 ≤ n) (hb : ∀ j, j < n → InB X0 Y0 w h (P j)) : gs X0 Y0 w h (hoS P n) = ((List.range n).map (gg P n)).sum := by
  unfold hoS
  rw [gs_sum]
  exact sum_congr fun j hj => ho_count (hb j hj) (hb _ (Nat.mod_lt _ (by omega)))

theorem all_total (h3 : 3 ≤ n) (hb : ∀ j, j < n → InB X0 Y0 w h (P j)) : 2 * gs X0 Y0 w h (NN P n) = AA P n + ((List.range n).map fun j => (2 * hd (P j) (P ((j + 1) % n)) - 1) * gg P n j).sum := by
  have e0 : gs X0 Y0 w h (NN P n) = ((List.range n).map fun j => gs X0 Y0 w h (cw (P j) (P ((j + 1) % n)))).sum := gs_sum (fun j => cw (P j) (P ((j + 1) % n))) n
  rw [e0, ← sum_mul]
  obtain ⟨F, hF⟩ : ∃ F : P2 → Int, F = fun p => p.1 * p.2 - 2 * X0 * p.2 - p.1 + p.2 := ⟨_, rfl⟩
  have e1 : ∀ j, j < n → 2 * gs X0 Y0 w h (cw (P j) (P ((j + 1) % n))) = ((P j).1 * (P ((j + 1) % n)).2 - (P ((j + 1) % n)).1 * (P j).2 - (F (P j) - F (P ((j + 1) % n)))) + (2 * hd (P j) (P ((j + 1) % n)) - 1) * gg P n j := fun j hj => by
    rw [edge_total (hb j hj) (hb _ (Nat.mod_lt _ (by omega))), hF]
    unfold gg
    congr 1
    grind
  rw [sum_congr e1, sum_add, sum_sub, sum_tele (fun j => F (P j))]
  unfold AA
  omega

theorem on_total (hS : Sim P n) (hl : Least P n) (hc : 0 < crs (P (n - 1)) (P 0) (P 1)) (hi : ∀ j, j < n → In (P j)) (hb : ∀ j, j < n → InB X0 Y0 w h (P j)) :
    gs X0 Y0 w h (fun z => hoS P n z * NN P n z) = ((List.range n).map fun j => hd (P j) (P ((j + 1) % n)) * gg P n j).sum - 1 := by
  have h3 := hS.three
  have e0 : gs X0 Y0 w h (fun z => hoS P n z * NN P n z) = gs X0 Y0 w h (fun z => ((List.range n).map fun j => hd (P j) (P ((j + 1) % n)) * hoI (P j) (P ((j + 1) % n)) z + (NN P n (P j) - hd (P j) (P ((j + 1) % n))) * (if z = P j then 1 else 0)).sum) := gs_congr fun z _ => by
    unfold hoS
    rw [Int.mul_comm, ← sum_mul]
    refine sum_congr fun j hj => ?_
    unfold hoI
    by_cases c : z = P j
    · rw [if_pos c, c, if_pos ⟨lie_a _ _, ends_ne hS hj⟩]
      omega
    · rw [if_neg c]
      by_cases d : lieP z (P j) (P ((j + 1) % n)) ∧ z ≠ P ((j + 1) % n)
      · rw [if_pos d, NN_edge hS hl hc hi hj d.1 c d.2]
        omega
      · rw [if_neg d]
        omega
  have e1 : ∀ j, j < n → gs X0 Y0 w h (fun z => hd (P j) (P ((j + 1) % n)) * hoI (P j) (P ((j + 1) % n)) z + (NN P n (P j) - hd (P j) (P ((j + 1) % n))) * (if z = P j then 1 else 0)) = hd (P j) (P ((j + 1) % n)) * gg P n j + (NN P n (P j) - hd (P j) (P ((j + 1) % n))) := fun j hj => by
    rw [gs_add, gs_mul, gs_mul, gs_point (hb j hj), ho_count (hb j hj) (hb _ (Nat.mod_lt _ (by omega)))]
    unfold gg
    omega
  rw [e0, gs_sum, sum_congr e1, sum_add, sum_sub]
  have := corners_one hS hl hc
  omega

open Classical in
/-- Pick's theorem. -/
theorem pick (hS : Sim P n) (hl : Least P n) (hc : ∀ j, j < n → (0 ≤ (P j).1 ∧ (P j).1 ≤ 4096) ∧ 0 ≤ (P j).2 ∧ (P j).2 ≤ 4096) (ha : 0 < AA P n) (hb : ∀ j, j < n → InB X0 Y0 w h (P j)) :
    2 * gs X0 Y0 w h (fun z => if On P n z then 0 else NN P n z) = AA P n - ((List.range n).map (gg P n)).sum + 2 ∧ gs X0 Y0 w h (fun z => if On P n z then 1 else 0) = ((List.range n).map (gg P n)).sum := by
  have hi : ∀ j, j < n → In (P j) := fun j hj => (hc j hj).1
  have hcr := area_left hS hl hc ha
  have h3 := hS.three
  have t1 := all_total h3 hb
  have t2 := on_total hS hl hcr hi hb
  have t3 := border_count h3 hb
  have e1 : gs X0 Y0 w h (fun z => if On P n z then 0 else NN P n z) = gs X0 Y0 w h (NN P n) - gs X0 Y0 w h (fun z => hoS P n z * NN P n z) := by
    have : gs X0 Y0 w h (NN P n) = gs X0 Y0 w h (fun z => (if On P n z then 0 else NN P n z) + hoS P n z * NN P n z) := gs_congr fun z _ => by
      by_cases c : On P n z
      · rw [if_pos c, hoS_on hS hi c]; omega
      · rw [if_neg c, hoS_off c]; omega
    rw [this, gs_add]
    omega
  have e2 : gs X0 Y0 w h (fun z => if On P n z then 1 else 0) = gs X0 Y0 w h (hoS P n) := gs_congr fun z _ => by
    by_cases c : On P n z
    · rw [if_pos c, hoS_on hS hi c]
    · rw [if_neg c, hoS_off c]
  have e3 : ((List.range n).map fun j => (2 * hd (P j) (P ((j + 1) % n)) - 1) * gg P n j).sum = 2 * ((List.range n).map fun j => hd (P j) (P ((j + 1) % n)) * gg P n j).sum - ((List.range n).map (gg P n)).sum := by
    rw [← sum_mul, ← sum_sub]
    exact sum_congr fun j _ => by grind
  rw [e1, e2, t3]
  omega

end
end Go.Proofs.Ytpknllbglppjcaa
