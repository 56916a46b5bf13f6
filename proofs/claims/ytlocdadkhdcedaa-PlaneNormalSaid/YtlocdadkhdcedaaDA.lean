/- The abstract machine, part DA. -/
/- Directions: the plain law (Steinitz in the plane). -/
namespace Go.Plain

section
variable (xs ys : Nat → Int)

/-- The cross product of two of the vectors. -/
def cr (i j : Nat) : Int := xs i * ys j - ys i * xs j

theorem cr_swap (i j : Nat) : cr xs ys j i = - cr xs ys i j := by
  unfold cr
  rw [Int.mul_comm (xs j), Int.mul_comm (ys j)]
  omega

theorem plucker (a b c d : Nat) : cr xs ys a b * cr xs ys c d = cr xs ys a c * cr xs ys b d - cr xs ys a d * cr xs ys b c := by
  unfold cr
  simp only [Int.mul_sub, Int.mul_comm, Int.mul_left_comm]
  omega

/-- Do the vectors with these numbers leave no direction? -/
def Blk (l : List Nat) : Prop := l ≠ [] ∧ ∀ i ∈ l, (∃ j ∈ l, 0 < cr xs ys i j) ∧ ∃ j ∈ l, cr xs ys i j < 0

variable {xs ys}

/-- The furthest to the left among those to the left. -/
theorem furthest (i : Nat) : ∀ (l : List Nat), l ≠ [] → (∀ x ∈ l, 0 < cr xs ys i x) → ∃ m ∈ l, ∀ x ∈ l, cr xs ys m x ≤ 0
  | [], h, _ => absurd rfl h
  | [c], _, _ => ⟨c, by simp, by intro x hx; simp at hx; subst hx; unfold cr; rw [Int.mul_comm]; omega⟩
  | c :: b :: l, _, hl => by
    obtain ⟨m, hm, hx⟩ := furthest i (b :: l) (by simp) (fun x hx => hl x (by simp at hx ⊢; exact .inr hx))
    have h1 : 0 < cr xs ys i m := hl m (List.mem_cons_of_mem _ hm)
    have h2 : 0 < cr xs ys i c := hl c (by simp)
    by_cases hc : cr xs ys m c ≤ 0
    · refine ⟨m, List.mem_cons_of_mem _ hm, fun x hx' => ?_⟩
      rcases List.mem_cons.1 hx' with rfl | h
      · exact hc
      · exact hx x h
    · refine ⟨c, by simp, fun x hx' => ?_⟩
      rcases List.mem_cons.1 hx' with rfl | h
      · unfold cr; rw [Int.mul_comm]; omega
      · have h3 := hx x h
        have h4 : 0 < cr xs ys i x := hl x (List.mem_cons_of_mem _ h)
        have p := plucker xs ys i m c x
        have q1 : cr xs ys i c * cr xs ys m x ≤ 0 := Int.mul_nonpos_of_nonneg_of_nonpos (by omega) h3
        have q2 : 0 < cr xs ys i x * cr xs ys m c := Int.mul_pos h4 (by omega)
        have q3 : cr xs ys i m * cr xs ys c x < 0 := by omega
        rcases (show 0 < cr xs ys c x ∨ cr xs ys c x ≤ 0 by omega) with h5 | h5
        · have := Int.mul_pos h1 h5
          omega
        · exact h5

/-- Three that leave none. -/
structure Three (i m p : Nat) : Prop where
  a : 0 < cr xs ys i m
  b : 0 < cr xs ys m p
  c : cr xs ys i p < 0

/-- Four that leave none, the first and the third opposite. -/
structure Four (i m p q : Nat) : Prop where
  a : 0 < cr xs ys i m
  b : 0 < cr xs ys m p
  c : cr xs ys i p = 0
  d : cr xs ys i q < 0
  e : 0 < cr xs ys p q

theorem steinitz {l : List Nat} (h : Blk xs ys l) : (∃ i m p, i ∈ l ∧ m ∈ l ∧ p ∈ l ∧ Three (xs := xs) (ys := ys) i m p) ∨ (∃ i m p q, i ∈ l ∧ m ∈ l ∧ p ∈ l ∧ q ∈ l ∧ Four (xs := xs) (ys := ys) i m p q) := by
  obtain ⟨hne, hb⟩ := h
  obtain ⟨i, hi⟩ : ∃ i, i ∈ l := by
    cases l with
    | nil => exact absurd rfl hne
    | cons a l => exact ⟨a, by simp⟩
  obtain ⟨⟨j, hj, hj0⟩, q, hq, hq0⟩ := hb i hi
  obtain ⟨m, hm, hx⟩ := furthest (xs := xs) (ys := ys) i (l.filter fun x => decide (0 < cr xs ys i x)) (by
    intro e
    have : j ∈ l.filter fun x => decide (0 < cr xs ys i x) := List.mem_filter.2 ⟨hj, by simpa using hj0⟩
    rw [e] at this
    cases this) (fun x hx => by simpa using (List.mem_filter.1 hx).2)
  obtain ⟨hml, hm0⟩ := List.mem_filter.1 hm
  have hm0 : 0 < cr xs ys i m := by simpa using hm0
  obtain ⟨⟨p, hp, hp0⟩, -⟩ := hb m hml
  have hip : cr xs ys i p ≤ 0 := by
    rcases (show 0 < cr xs ys i p ∨ cr xs ys i p ≤ 0 by omega) with h5 | h5
    · have := hx p (List.mem_filter.2 ⟨hp, by simpa using h5⟩)
      omega
    · exact h5
  rcases Int.lt_or_eq_of_le hip with h5 | h5
  · exact .inl ⟨i, m, p, hi, hml, hp, hm0, hp0, h5⟩
  · refine .inr ⟨i, m, p, q, hi, hml, hp, hq, hm0, hp0, h5, hq0, ?_⟩
    have pl := plucker xs ys i m p q
    rw [h5, Int.zero_mul] at pl
    have q1 := Int.mul_neg_of_neg_of_pos hq0 hp0
    rcases (show 0 < cr xs ys p q ∨ cr xs ys p q ≤ 0 by omega) with h6 | h6
    · exact h6
    · have := Int.mul_nonpos_of_nonneg_of_nonpos (show 0 ≤ cr xs ys i m by omega) h6
      omega

theorem three_blk {i m p : Nat} {l : List Nat} (h : Three (xs := xs) (ys := ys) i m p) (hl : ∀ x, x ∈ l ↔ x = i ∨ x = m ∨ x = p) : Blk xs ys l := by
  have s1 := cr_swap xs ys i m
  have s2 := cr_swap xs ys m p
  have s3 := cr_swap xs ys i p
  obtain ⟨a, b, c⟩ := h
  have hi : i ∈ l := (hl i).2 (by simp)
  have hm : m ∈ l := (hl m).2 (by simp)
  have hp : p ∈ l := (hl p).2 (by simp)
  refine ⟨fun e => (by rw [e] at hi; cases hi), fun x hx => ?_⟩
  rcases (hl x).1 hx with rfl | rfl | rfl
  · exact ⟨⟨m, hm, a⟩, p, hp, c⟩
  · exact ⟨⟨p, hp, b⟩, i, hi, by omega⟩
  · exact ⟨⟨i, hi, by omega⟩, m, hm, by omega⟩

theorem four_blk {i m p q : Nat} {l : List Nat} (h : Four (xs := xs) (ys := ys) i m p q) (hl : ∀ x, x ∈ l ↔ x = i ∨ x = m ∨ x = p ∨ x = q) : Blk xs ys l := by
  have s1 := cr_swap xs ys i m
  have s2 := cr_swap xs ys m p
  have s3 := cr_swap xs ys i q
  have s4 := cr_swap xs ys p q
  obtain ⟨a, b, c, d, e⟩ := h
  have hi : i ∈ l := (hl i).2 (by simp)
  have hm : m ∈ l := (hl m).2 (by simp)
  have hp : p ∈ l := (hl p).2 (by simp)
  have hq : q ∈ l := (hl q).2 (by simp)
  refine ⟨fun e => (by rw [e] at hi; cases hi), fun x hx => ?_⟩
  rcases (hl x).1 hx with rfl | rfl | rfl | rfl
  · exact ⟨⟨m, hm, a⟩, q, hq, d⟩
  · exact ⟨⟨p, hp, b⟩, i, hi, by omega⟩
  · exact ⟨⟨q, hq, e⟩, m, hm, by omega⟩
  · exact ⟨⟨i, hi, by omega⟩, p, hp, by omega⟩

/-- How far a direction goes along a vector. -/
def dt (xs ys : Nat → Int) (dx dy : Int) (i : Nat) : Int := dx * xs i + dy * ys i

theorem dt_cr (xs ys : Nat → Int) (dx dy : Int) (i m p : Nat) : cr xs ys m p * dt xs ys dx dy i - cr xs ys i p * dt xs ys dx dy m + cr xs ys i m * dt xs ys dx dy p = 0 := by
  unfold cr dt
  simp only [Int.mul_sub, Int.mul_add, Int.mul_comm, Int.mul_left_comm]
  omega

theorem dt_two (xs ys : Nat → Int) (dx dy : Int) (i m : Nat) : cr xs ys i m * dx = ys m * dt xs ys dx dy i - ys i * dt xs ys dx dy m ∧ cr xs ys i m * dy = xs i * dt xs ys dx dy m - xs m * dt xs ys dx dy i := by
  unfold cr dt
  simp only [Int.mul_sub, Int.mul_add, Int.mul_comm, Int.mul_left_comm]
  omega

theorem both_zero {a b x y : Int} (ha : 0 < a) (hb : 0 < b) (hx : x ≤ 0) (hy : y ≤ 0) (h : a * x + b * y = 0) : x = 0 ∧ y = 0 := by
  have h1 := Int.mul_nonpos_of_nonneg_of_nonpos (show 0 ≤ a by omega) hx
  have h2 := Int.mul_nonpos_of_nonneg_of_nonpos (show 0 ≤ b by omega) hy
  have e1 : a * x = 0 := by omega
  have e2 : b * y = 0 := by omega
  exact ⟨(Int.mul_eq_zero.1 e1).resolve_left (by omega), (Int.mul_eq_zero.1 e2).resolve_left (by omega)⟩

theorem three_zero {a b c x y z : Int} (ha : 0 < a) (hb : 0 < b) (hc : 0 < c) (hx : x ≤ 0) (hy : y ≤ 0) (hz : z ≤ 0) (h : a * x + b * y + c * z = 0) : x = 0 ∧ y = 0 ∧ z = 0 := by
  have h1 := Int.mul_nonpos_of_nonneg_of_nonpos (show 0 ≤ a by omega) hx
  have h2 := Int.mul_nonpos_of_nonneg_of_nonpos (show 0 ≤ b by omega) hy
  have h3 := Int.mul_nonpos_of_nonneg_of_nonpos (show 0 ≤ c by omega) hz
  have e1 : a * x = 0 := by omega
  have e2 : b * y = 0 := by omega
  have e3 : c * z = 0 := by omega
  exact ⟨(Int.mul_eq_zero.1 e1).resolve_left (by omega), (Int.mul_eq_zero.1 e2).resolve_left (by omega), (Int.mul_eq_zero.1 e3).resolve_left (by omega)⟩

theorem zero_dir {dx dy : Int} {i m : Nat} (h : cr xs ys i m ≠ 0) (h1 : dt xs ys dx dy i = 0) (h2 : dt xs ys dx dy m = 0) : dx = 0 ∧ dy = 0 := by
  obtain ⟨e1, e2⟩ := dt_two xs ys dx dy i m
  rw [h1, h2, Int.mul_zero, Int.mul_zero] at e1 e2
  exact ⟨(Int.mul_eq_zero.1 (by omega)).resolve_left h, (Int.mul_eq_zero.1 (by omega)).resolve_left h⟩

/-- Those that leave no direction along a border leave none at all. -/
theorem blk_none {l : List Nat} (h : Blk xs ys l) {dx dy : Int} (hf : ∀ i ∈ l, dt xs ys dx dy i ≤ 0) : dx = 0 ∧ dy = 0 := by
  rcases steinitz h with ⟨i, m, p, hi, hm, hp, a, b, c⟩ | ⟨i, m, p, q, hi, hm, hp, hq, a, b, c, d, e⟩
  · have k := dt_cr xs ys dx dy i m p
    have k2 : cr xs ys m p * dt xs ys dx dy i + (- cr xs ys i p) * dt xs ys dx dy m + cr xs ys i m * dt xs ys dx dy p = 0 := by rw [Int.neg_mul]; omega
    obtain ⟨z1, z2, -⟩ := three_zero b (by omega) a (hf i hi) (hf m hm) (hf p hp) k2
    exact zero_dir (by omega) z1 z2
  · have k := dt_cr xs ys dx dy i m p
    rw [c, Int.zero_mul] at k
    obtain ⟨z1, z2⟩ := both_zero b a (hf i hi) (hf p hp) (by omega)
    -- the other two lie on both sides of the first
    have k1 := dt_cr xs ys dx dy i m q
    rw [z1, Int.mul_zero] at k1
    have k2 : (- cr xs ys i q) * dt xs ys dx dy m + cr xs ys i m * dt xs ys dx dy q = 0 := by rw [Int.neg_mul]; omega
    obtain ⟨z3, z4⟩ := both_zero (by omega) a (hf m hm) (hf q hq) k2
    exact zero_dir (by omega) z1 z3

end

end Go.Plain

/- Directions: increasing lists of numbers, in their order; the least ones that block. -/
namespace Go.Plain

/-- The first s values of f increase and are below n. -/
structure Cho (n s : Nat) (f : Nat → Nat) : Prop where
  inc : ∀ i, i + 1 < s → f i < f (i + 1)
  lt : ∀ i, i < s → f i < n

theorem Cho.step {n s : Nat} {f : Nat → Nat} (h : Cho n s f) (i : Nat) : ∀ d, i + d < s → f i + d ≤ f (i + d)
  | 0, _ => Nat.le_refl _
  | d + 1, hd => by
    have h1 := h.step i d (by omega)
    have h2 := h.inc (i + d) (by omega)
    rw [show i + (d + 1) = i + d + 1 by omega]
    omega

theorem Cho.mono {n s : Nat} {f : Nat → Nat} (h : Cho n s f) {i j : Nat} (hij : i < j) (hj : j < s) : f i < f j := by
  have := h.step i (j - i) (by omega)
  rw [show i + (j - i) = j by omega] at this
  omega

theorem Cho.ge {n s : Nat} {f : Nat → Nat} (h : Cho n s f) {i : Nat} (hi : i < s) : i ≤ f i := by
  have := h.step 0 i (by omega)
  rw [Nat.zero_add] at this
  omega

theorem Cho.most {n s : Nat} {f : Nat → Nat} (h : Cho n s f) {i : Nat} (hi : i < s) : f i + s ≤ n + i := by
  have h1 := h.step i (s - 1 - i) (by omega)
  have h2 := h.lt (i + (s - 1 - i)) (by omega)
  omega

theorem Cho.size {n s : Nat} {f : Nat → Nat} (h : Cho n s f) : s ≤ n := by
  rcases Nat.eq_zero_or_pos s with rfl | hs
  · omega
  · have := h.most (i := 0) hs
    have := h.ge (i := 0) hs
    omega

/-- One list is before another. -/
def Lex (s : Nat) (f g : Nat → Nat) : Prop := ∃ k, k < s ∧ (∀ i, i < k → f i = g i) ∧ f k < g k

def Same (s : Nat) (f g : Nat → Nat) : Prop := ∀ i, i < s → f i = g i

theorem Lex.irrefl {s : Nat} {f g : Nat → Nat} (h : Lex s f g) (e : Same s f g) : False := by
  obtain ⟨k, hk, _, hl⟩ := h
  have := e k hk
  omega

/-- Two lists are equal, or one is before the other. -/
theorem lex_tri (f g : Nat → Nat) : ∀ s, Same s f g ∨ Lex s f g ∨ Lex s g f
  | 0 => .inl (fun i hi => by omega)
  | s + 1 => by
    rcases lex_tri f g s with h | ⟨k, hk, h1, h2⟩ | ⟨k, hk, h1, h2⟩
    · rcases Nat.lt_trichotomy (f s) (g s) with h3 | h3 | h3
      · exact .inr (.inl ⟨s, by omega, h, h3⟩)
      · refine .inl (fun i hi => ?_)
        rcases Nat.lt_or_ge i s with h4 | h4
        · exact h i h4
        · obtain rfl : i = s := by omega
          exact h3
      · exact .inr (.inr ⟨s, by omega, fun i hi => (h i hi).symm, h3⟩)
    · exact .inr (.inl ⟨k, by omega, h1, h2⟩)
    · exact .inr (.inr ⟨k, by omega, h1, h2⟩)

theorem lex_first {n s : Nat} {f : Nat → Nat} (hf : ∀ i, i < s → f i = i) {g : Nat → Nat} (hg : Cho n s g) : ¬ Lex s g f := by
  rintro ⟨k, hk, _, hl⟩
  have := hg.ge hk
  have := hf k hk
  omega

/-- The list behind f. -/
def nxt (f : Nat → Nat) (k : Nat) (i : Nat) : Nat := if i < k then f i else f k + 1 + (i - k)

theorem nxt_cho {n s : Nat} {f : Nat → Nat} (h : Cho n s f) {k : Nat} (hk : k < s) (hlt : f k + s < n + k) : Cho n s (nxt f k) := by
  constructor
  · intro i hi
    unfold nxt
    by_cases h1 : i + 1 < k
    · rw [if_pos (by omega), if_pos h1]
      exact h.inc i hi
    · by_cases h2 : i < k
      · rw [if_pos h2, if_neg h1]
        have := h.mono h2 hk
        omega
      · rw [if_neg h2, if_neg h1]
        omega
  · intro i hi
    unfold nxt
    split
    · exact h.lt i hi
    · omega

theorem lex_nxt {n s : Nat} {f : Nat → Nat} {k : Nat} (hk : k < s) (hlast : ∀ i, k < i → i < s → f i + s = n + i) {g : Nat → Nat} (hg : Cho n s g) (h : Lex s g (nxt f k)) : Lex s g f ∨ Same s g f := by
  obtain ⟨m, hm, h1, h2⟩ := h
  rcases Nat.lt_trichotomy m k with h3 | h3 | h3
  · refine .inl ⟨m, hm, fun i hi => ?_, ?_⟩
    · have := h1 i hi
      unfold nxt at this
      rw [if_pos (by omega)] at this
      exact this
    · unfold nxt at h2
      rw [if_pos h3] at h2
      exact h2
  · subst h3
    have hlow : ∀ i, i < m → g i = f i := fun i hi => by
      have := h1 i hi
      unfold nxt at this
      rw [if_pos hi] at this
      exact this
    unfold nxt at h2
    rw [if_neg (Nat.lt_irrefl _), Nat.sub_self] at h2
    rcases lex_tri g f s with h4 | h4 | ⟨j, hj, h5, h6⟩
    · exact .inr h4
    · exact .inl h4
    · exfalso
      rcases Nat.lt_trichotomy j m with h7 | h7 | h7
      · have := hlow j h7; omega
      · subst h7; omega
      · have := hlast j h7 hj
        have := hg.most hj
        omega
  · exfalso
    have h4 := h1 k h3
    unfold nxt at h4 h2
    rw [if_neg (Nat.lt_irrefl _), Nat.sub_self] at h4
    rw [if_neg (by omega)] at h2
    have := hg.step k (m - k) (by omega)
    rw [show k + (m - k) = m by omega] at this
    omega

theorem lex_last {n s : Nat} {f : Nat → Nat} (hlast : ∀ i, i < s → f i + s = n + i) {g : Nat → Nat} (hg : Cho n s g) : Lex s g f ∨ Same s g f := by
  rcases lex_tri g f s with h4 | h4 | ⟨j, hj, h5, h6⟩
  · exact .inr h4
  · exact .inl h4
  · exfalso
    have := hlast j hj
    have := hg.most hj
    omega

/-- The list of the first s values. -/
def lst (s : Nat) (f : Nat → Nat) : List Nat := (List.range s).map f

theorem lst_len (s : Nat) (f : Nat → Nat) : (lst s f).length = s := by simp [lst]

theorem mem_lst {s : Nat} {f : Nat → Nat} {x : Nat} : x ∈ lst s f ↔ ∃ i, i < s ∧ f i = x := by simp [lst]

theorem lst_same {s : Nat} {f g : Nat → Nat} (h : Same s f g) : lst s f = lst s g := List.map_congr_left fun i hi => h i (List.mem_range.1 hi)

section
variable {xs ys : Nat → Int}

theorem cr_self (i : Nat) : cr xs ys i i = 0 := by unfold cr; rw [Int.mul_comm]; omega

/-- One and two leave a direction. -/
theorem blk_least {l : List Nat} (h : Blk xs ys l) (a b : Nat) : ¬ (∀ x ∈ l, x = a ∨ x = b) := by
  intro hl
  obtain ⟨hne, hb⟩ := h
  have h0 := cr_self (xs := xs) (ys := ys) a
  have h1 := cr_self (xs := xs) (ys := ys) b
  have h2 := cr_swap xs ys a b
  obtain ⟨i, hi⟩ : ∃ i, i ∈ l := by
    cases l with
    | nil => exact absurd rfl hne
    | cons a l => exact ⟨a, by simp⟩
  obtain ⟨⟨j, hj, hj0⟩, q, hq, hq0⟩ := hb i hi
  rcases hl i hi with rfl | rfl <;> rcases hl j hj with rfl | rfl <;> rcases hl q hq with rfl | rfl <;> omega

theorem blk_same {l m : List Nat} (h : ∀ x, x ∈ l ↔ x ∈ m) (hb : Blk xs ys l) : Blk xs ys m := by
  obtain ⟨hne, hb⟩ := hb
  refine ⟨?_, fun i hi => ?_⟩
  · cases l with
    | nil => exact absurd rfl hne
    | cons a l => intro e; have := (h a).1 (by simp); rw [e] at this; cases this
  · obtain ⟨⟨j, hj, hj0⟩, q, hq, hq0⟩ := hb i ((h i).2 hi)
    exact ⟨⟨j, (h j).1 hj, hj0⟩, q, (h q).1 hq, hq0⟩

theorem small_blk {s : Nat} {f : Nat → Nat} (hs : s < 3) (h : Blk xs ys (lst s f)) : False := by
  refine blk_least h (f 0) (f 1) (fun x hx => ?_)
  obtain ⟨i, hi, rfl⟩ := mem_lst.1 hx
  match i, hi with
  | 0, _ => exact .inl rfl
  | 1, _ => exact .inr rfl
  | i + 2, h => omega

/-- f blocks, and nothing before it does. -/
structure LeastB (xs ys : Nat → Int) (n s : Nat) (f : Nat → Nat) : Prop where
  cho : Cho n s f
  blk : Blk xs ys (lst s f)
  less : ∀ t g, t < s → Cho n t g → ¬ Blk xs ys (lst t g)
  before : ∀ g, Cho n s g → Lex s g f → ¬ Blk xs ys (lst s g)

theorem LeastB.unique {n s t : Nat} {f g : Nat → Nat} (h : LeastB xs ys n s f) (k : LeastB xs ys n t g) : s = t ∧ Same s f g := by
  have e : s = t := by
    rcases Nat.lt_trichotomy s t with h1 | h1 | h1
    · exact absurd h.blk (k.less s f h1 h.cho)
    · exact h1
    · exact absurd k.blk (h.less t g h1 k.cho)
  subst e
  refine ⟨rfl, ?_⟩
  rcases lex_tri f g s with h1 | h1 | h1
  · exact h1
  · exact absurd h.blk (k.before f h.cho h1)
  · exact absurd k.blk (h.before g k.cho h1)

theorem exists_cho (n : Nat) : ∀ l : List Nat, l.Nodup → (∀ x ∈ l, x < n) → ∃ f, Cho n l.length f ∧ ∀ x, x ∈ lst l.length f ↔ x ∈ l
  | [], _, _ => ⟨id, ⟨fun i hi => by simp at hi, fun i hi => by simp at hi⟩, by simp [lst]⟩
  | a :: l, hnd, hl => by
    obtain ⟨f, hf, hm⟩ := exists_cho n l (List.nodup_cons.1 hnd).2 (fun x hx => hl x (List.mem_cons_of_mem _ hx))
    have ha : a ∉ l := (List.nodup_cons.1 hnd).1
    have hne : ∀ i, i < l.length → f i ≠ a := fun i hi e => ha ((hm a).1 (mem_lst.2 ⟨i, hi, e⟩))
    -- where a belongs
    obtain ⟨k, hk, h1, h2⟩ : ∃ k, k ≤ l.length ∧ (∀ i, i < k → f i < a) ∧ ∀ i, k ≤ i → i < l.length → a < f i := by
      have key : ∀ d, d ≤ l.length → ∃ k, k ≤ d ∧ (∀ i, i < k → f i < a) ∧ ∀ i, k ≤ i → i < d → a < f i := by
        intro d
        induction d with
        | zero => exact fun _ => ⟨0, Nat.le_refl _, fun i hi => by omega, fun i _ hi => by omega⟩
        | succ d ih =>
          intro hd
          obtain ⟨k, hk, h1, h2⟩ := ih (by omega)
          rcases Nat.lt_trichotomy (f d) a with h3 | h3 | h3
          · refine ⟨d + 1, Nat.le_refl _, fun i hi => ?_, fun i h4 h5 => by omega⟩
            rcases Nat.lt_or_ge i d with h4 | h4
            · exact Nat.lt_trans (hf.mono h4 (by omega)) h3
            · obtain rfl : i = d := by omega
              exact h3
          · exact absurd h3 (hne d (by omega))
          · refine ⟨k, by omega, h1, fun i h4 h5 => ?_⟩
            rcases Nat.lt_or_ge i d with h6 | h6
            · exact h2 i h4 h6
            · obtain rfl : i = d := by omega
              exact h3
      exact key l.length (Nat.le_refl _)
    refine ⟨fun i => if i < k then f i else if i = k then a else f (i - 1), ⟨fun i hi => ?_, fun i hi => ?_⟩, fun x => ?_⟩
    · simp only [List.length_cons] at hi
      by_cases c1 : i + 1 < k
      · rw [if_pos (by omega), if_pos c1]
        exact hf.inc i (by omega)
      · by_cases c2 : i < k
        · obtain rfl : k = i + 1 := by omega
          rw [if_pos c2, if_neg c1, if_pos rfl]
          exact h1 i c2
        · by_cases c3 : i = k
          · subst c3
            rw [if_neg c2, if_pos rfl, if_neg c1, if_neg (by omega)]
            exact h2 _ (by omega) (by omega)
          · rw [if_neg c2, if_neg c3, if_neg c1, if_neg (by omega)]
            have := hf.inc (i - 1) (by omega)
            rw [show i - 1 + 1 = i by omega] at this
            rw [show i + 1 - 1 = i by omega]
            exact this
    · simp only [List.length_cons] at hi
      by_cases c2 : i < k
      · rw [if_pos c2]; exact hf.lt i (by omega)
      · by_cases c3 : i = k
        · rw [if_neg c2, if_pos c3]; exact hl a (by simp)
        · rw [if_neg c2, if_neg c3]; exact hf.lt _ (by omega)
    · rw [mem_lst, List.mem_cons, ← hm x, mem_lst]
      constructor
      · rintro ⟨i, hi, e⟩
        simp only [List.length_cons] at hi
        by_cases c2 : i < k
        · rw [if_pos c2] at e; exact .inr ⟨i, by omega, e⟩
        · by_cases c3 : i = k
          · rw [if_neg c2, if_pos c3] at e; exact .inl e.symm
          · rw [if_neg c2, if_neg c3] at e; exact .inr ⟨i - 1, by omega, e⟩
      · rintro (rfl | ⟨i, hi, e⟩)
        · exact ⟨k, by simp; omega, by rw [if_neg (Nat.lt_irrefl _), if_pos rfl]⟩
        · by_cases c2 : i < k
          · exact ⟨i, by simp; omega, by rw [if_pos c2]; exact e⟩
          · exact ⟨i + 1, by simp; omega, by rw [if_neg (by omega), if_neg (by omega), Nat.add_sub_cancel]; exact e⟩

/-- Where all leave no direction three or four do. -/
theorem blk_four {n : Nat} (h : Blk xs ys (List.range n)) : ∃ s f, (s = 3 ∨ s = 4) ∧ Cho n s f ∧ Blk xs ys (lst s f) := by
  rcases steinitz h with ⟨i, m, p, hi, hm, hp, t⟩ | ⟨i, m, p, q, hi, hm, hp, hq, t⟩
  · have hb := three_blk t (l := [i, m, p]) (by simp)
    obtain ⟨a, b, c⟩ := t
    have s1 := cr_self (xs := xs) (ys := ys) i
    have s2 := cr_self (xs := xs) (ys := ys) m
    have hnd : [i, m, p].Nodup := by
      simp only [List.nodup_cons, List.mem_cons, List.not_mem_nil, or_false, not_or, not_false_eq_true, List.nodup_nil, and_true]
      exact ⟨⟨fun e => by subst e; omega, fun e => by subst e; omega⟩, fun e => by subst e; omega⟩
    obtain ⟨f, hf, hs⟩ := exists_cho n [i, m, p] hnd (by
      intro x hx
      simp only [List.mem_cons, List.not_mem_nil, or_false] at hx
      rcases hx with rfl | rfl | rfl <;> first | exact List.mem_range.1 hi | exact List.mem_range.1 hm | exact List.mem_range.1 hp)
    exact ⟨3, f, .inl rfl, hf, blk_same (fun x => (hs x).symm) hb⟩
  · have hb := four_blk t (l := [i, m, p, q]) (by simp)
    obtain ⟨a, b, c, d, e⟩ := t
    have s1 := cr_self (xs := xs) (ys := ys) i
    have s2 := cr_self (xs := xs) (ys := ys) m
    have s3 := cr_self (xs := xs) (ys := ys) p
    have s4 := cr_swap xs ys i m
    have hnd : [i, m, p, q].Nodup := by
      simp only [List.nodup_cons, List.mem_cons, List.not_mem_nil, or_false, not_or, not_false_eq_true, List.nodup_nil, and_true]
      exact ⟨⟨fun e => by subst e; omega, fun e => by subst e; omega, fun e => by subst e; omega⟩, ⟨fun e => by subst e; omega, fun e => by subst e; omega⟩, fun e => by subst e; omega⟩
    obtain ⟨f, hf, hs⟩ := exists_cho n [i, m, p, q] hnd (by
      intro x hx
      simp only [List.mem_cons, List.not_mem_nil, or_false] at hx
      rcases hx with rfl | rfl | rfl | rfl <;> first | exact List.mem_range.1 hi | exact List.mem_range.1 hm | exact List.mem_range.1 hp | exact List.mem_range.1 hq)
    exact ⟨4, f, .inr rfl, hf, blk_same (fun x => (hs x).symm) hb⟩

theorem LeastB.size {n s : Nat} {f : Nat → Nat} (h : LeastB xs ys n s f) (hb : Blk xs ys (List.range n)) : s = 3 ∨ s = 4 := by
  have h1 : ¬ s < 3 := fun hs => small_blk hs h.blk
  obtain ⟨t, g, ht, hg, hk⟩ := blk_four hb
  have h2 : s ≤ t := by
    rcases Nat.lt_or_ge t s with h3 | h3
    · exact absurd hk (h.less t g h3 hg)
    · exact h3
  omega

end
end Go.Plain

/- Directions: along the borders of the normals. -/
namespace Go.Plain

section
variable (xs ys : Nat → Int)

def freeB (dx dy : Int) (n : Nat) : Bool := (List.range n).all fun j => !decide (0 < dx * xs j + dy * ys j)

def dX (i : Nat) : Int := (-(ys i)).tdiv (Int.gcd (xs i) (ys i))
def dY (i : Nat) : Int := (xs i).tdiv (Int.gcd (xs i) (ys i))

/-- A direction along the border of a normal that is free of all. -/
def freeAt (n i : Nat) : Option (Int × Int) :=
  if freeB xs ys (dX xs ys i) (dY xs ys i) n then some (dX xs ys i, dY xs ys i)
  else if freeB xs ys (-(dX xs ys i)) (-(dY xs ys i)) n then some (-(dX xs ys i), -(dY xs ys i)) else none

/-- The first direction along the borders of the first k normals. -/
def freeTo (n : Nat) : Nat → Option (Int × Int)
  | 0 => none
  | k + 1 => match freeTo n k with
    | some d => some d
    | none => freeAt xs ys n k

def freeD (n : Nat) : Option (Int × Int) := if n = 0 then some (1, 0) else freeTo xs ys n n

variable {xs ys}

theorem freeTo_none {n k : Nat} : freeTo xs ys n k = none ↔ ∀ i, i < k → freeAt xs ys n i = none := by
  induction k with
  | zero => simp [freeTo]
  | succ k ih =>
    unfold freeTo
    cases h : freeTo xs ys n k with
    | some d =>
      simp only [reduceCtorEq, false_iff]
      intro hh
      have := ih.2 (fun i hi => hh i (by omega))
      rw [h] at this
      cases this
    | none =>
      simp only
      constructor
      · intro h2 i hi
        rcases Nat.lt_or_ge i k with h3 | h3
        · exact ih.1 h i h3
        · obtain rfl : i = k := by omega
          exact h2
      · intro h2
        exact h2 k (by omega)

theorem freeTo_mono {n k : Nat} {d : Int × Int} (h : freeTo xs ys n k = some d) : ∀ m, freeTo xs ys n (k + m) = some d
  | 0 => h
  | m + 1 => by
    rw [← Nat.add_assoc]
    unfold freeTo
    rw [freeTo_mono h m]

theorem freeTo_some {n k i : Nat} {d : Int × Int} (h0 : freeTo xs ys n i = none) (h : freeAt xs ys n i = some d) (hi : i < k) : freeTo xs ys n k = some d := by
  have : freeTo xs ys n (i + 1) = some d := by
    unfold freeTo
    rw [h0]
    exact h
  have h2 := freeTo_mono this (k - (i + 1))
  rwa [show i + 1 + (k - (i + 1)) = k by omega] at h2

theorem freeTo_at {n k : Nat} {d : Int × Int} (h : freeTo xs ys n k = some d) : ∃ i, i < k ∧ freeAt xs ys n i = some d := by
  induction k with
  | zero => cases h
  | succ k ih =>
    unfold freeTo at h
    cases h2 : freeTo xs ys n k with
    | some d2 =>
      rw [h2] at h
      simp only [Option.some.injEq] at h
      subst h
      obtain ⟨i, hi, h3⟩ := ih h2
      exact ⟨i, by omega, h3⟩
    | none =>
      rw [h2] at h
      exact ⟨k, by omega, h⟩

theorem freeAt_free {n i : Nat} {d : Int × Int} (h : freeAt xs ys n i = some d) : freeB xs ys d.1 d.2 n = true := by
  unfold freeAt at h
  split at h
  · rename_i h1
    cases h
    exact h1
  · split at h
    · rename_i h1
      cases h
      exact h1
    · cases h

/-- No normal is zero. -/
def NonZ (xs ys : Nat → Int) (n : Nat) : Prop := ∀ i, i < n → xs i ≠ 0 ∨ ys i ≠ 0

theorem gcd_pos {x y : Int} (h : x ≠ 0 ∨ y ≠ 0) : 0 < (Int.gcd x y : Int) := by
  have : 0 < Int.gcd x y := Int.gcd_pos_iff.2 h
  omega

/-- The border's direction, drawn out. -/
theorem dir_mul (i : Nat) : (Int.gcd (xs i) (ys i) : Int) * dX xs ys i = -(ys i) ∧ (Int.gcd (xs i) (ys i) : Int) * dY xs ys i = xs i := by
  have h1 : (Int.gcd (xs i) (ys i) : Int) ∣ ys i := Int.gcd_dvd_right ..
  have h2 : (Int.gcd (xs i) (ys i) : Int) ∣ xs i := Int.gcd_dvd_left ..
  unfold dX dY
  exact ⟨Int.mul_tdiv_cancel' (Int.dvd_neg.2 h1), Int.mul_tdiv_cancel' h2⟩

theorem dir_dot (i j : Nat) : (Int.gcd (xs i) (ys i) : Int) * (dX xs ys i * xs j + dY xs ys i * ys j) = cr xs ys i j := by
  obtain ⟨h1, h2⟩ := dir_mul (xs := xs) (ys := ys) i
  rw [Int.mul_add, ← Int.mul_assoc, ← Int.mul_assoc, h1, h2, Int.neg_mul]
  unfold cr
  omega

theorem pos_of_mul {g a : Int} (hg : 0 < g) : 0 < g * a ↔ 0 < a := by
  constructor
  · intro h
    rcases (show 0 < a ∨ a ≤ 0 by omega) with h1 | h1
    · exact h1
    · have := Int.mul_nonpos_of_nonneg_of_nonpos (show 0 ≤ g by omega) h1
      omega
  · intro h
    exact Int.mul_pos hg h

theorem neg_of_mul {g a : Int} (hg : 0 < g) : g * a < 0 ↔ a < 0 := by
  have := pos_of_mul (a := -a) hg
  rw [Int.mul_neg] at this
  omega

theorem freeB_iff {dx dy : Int} {n : Nat} : freeB xs ys dx dy n = true ↔ ∀ j, j < n → dx * xs j + dy * ys j ≤ 0 := by
  unfold freeB
  rw [List.all_eq_true]
  constructor
  · intro h j hj
    have := h j (List.mem_range.2 hj)
    simp at this
    exact this
  · intro h j hj
    have := h j (List.mem_range.1 hj)
    simp
    exact this

theorem left_free {n i : Nat} (hi : xs i ≠ 0 ∨ ys i ≠ 0) : freeB xs ys (dX xs ys i) (dY xs ys i) n = true ↔ ∀ j, j < n → cr xs ys i j ≤ 0 := by
  rw [freeB_iff]
  have hg := gcd_pos hi
  refine ⟨fun h j hj => ?_, fun h j hj => ?_⟩
  · have h1 := h j hj
    have h2 := pos_of_mul (a := dX xs ys i * xs j + dY xs ys i * ys j) hg
    rw [dir_dot] at h2
    omega
  · have h1 := h j hj
    have h2 := pos_of_mul (a := dX xs ys i * xs j + dY xs ys i * ys j) hg
    rw [dir_dot] at h2
    omega

theorem right_free {n i : Nat} (hi : xs i ≠ 0 ∨ ys i ≠ 0) : freeB xs ys (-(dX xs ys i)) (-(dY xs ys i)) n = true ↔ ∀ j, j < n → 0 ≤ cr xs ys i j := by
  rw [freeB_iff]
  have hg := gcd_pos hi
  refine ⟨fun h j hj => ?_, fun h j hj => ?_⟩
  · have h1 := h j hj
    have h2 := neg_of_mul (a := dX xs ys i * xs j + dY xs ys i * ys j) hg
    rw [dir_dot] at h2
    rw [Int.neg_mul, Int.neg_mul] at h1
    omega
  · have h1 := h j hj
    have h2 := neg_of_mul (a := dX xs ys i * xs j + dY xs ys i * ys j) hg
    rw [dir_dot] at h2
    rw [Int.neg_mul, Int.neg_mul]
    omega

theorem freeAt_none {n i : Nat} (hi : xs i ≠ 0 ∨ ys i ≠ 0) : freeAt xs ys n i = none ↔ (∃ j, j < n ∧ 0 < cr xs ys i j) ∧ ∃ j, j < n ∧ cr xs ys i j < 0 := by
  unfold freeAt
  by_cases h1 : freeB xs ys (dX xs ys i) (dY xs ys i) n = true
  · rw [if_pos h1]
    have h2 := (left_free hi).1 h1
    simp only [reduceCtorEq, false_iff]
    rintro ⟨⟨j, hj, h3⟩, -⟩
    have := h2 j hj
    omega
  · rw [if_neg h1]
    have e1 : ∃ j, j < n ∧ 0 < cr xs ys i j := by
      refine Classical.byContradiction fun hn => h1 ((left_free hi).2 fun j hj => ?_)
      rcases (show cr xs ys i j ≤ 0 ∨ 0 < cr xs ys i j by omega) with h5 | h5
      · exact h5
      · exact absurd ⟨j, hj, h5⟩ hn
    by_cases h2 : freeB xs ys (-(dX xs ys i)) (-(dY xs ys i)) n = true
    · rw [if_pos h2]
      have h3 := (right_free hi).1 h2
      simp only [reduceCtorEq, false_iff]
      rintro ⟨-, j, hj, h4⟩
      have := h3 j hj
      omega
    · rw [if_neg h2]
      simp only [true_iff]
      refine ⟨e1, Classical.byContradiction fun hn => h2 ((right_free hi).2 fun j hj => ?_)⟩
      rcases (show 0 ≤ cr xs ys i j ∨ cr xs ys i j < 0 by omega) with h5 | h5
      · exact h5
      · exact absurd ⟨j, hj, h5⟩ hn

/-- There is no direction along a border just where the normals block. -/
theorem freeD_none {n : Nat} (hz : NonZ xs ys n) : freeD xs ys n = none ↔ Blk xs ys (List.range n) := by
  unfold freeD
  by_cases hn : n = 0
  · subst hn
    simp only [if_true, reduceCtorEq, false_iff]
    intro h
    exact h.1 rfl
  · rw [if_neg hn, freeTo_none]
    constructor
    · intro h
      refine ⟨fun e => hn (by have := congrArg List.length e; simpa using this), fun i hi => ?_⟩
      have hi := List.mem_range.1 hi
      obtain ⟨⟨j, hj, h1⟩, q, hq, h2⟩ := (freeAt_none (hz i hi)).1 (h i hi)
      exact ⟨⟨j, List.mem_range.2 hj, h1⟩, q, List.mem_range.2 hq, h2⟩
    · rintro ⟨-, h⟩ i hi
      obtain ⟨⟨j, hj, h1⟩, q, hq, h2⟩ := h i (List.mem_range.2 hi)
      exact (freeAt_none (hz i hi)).2 ⟨⟨j, List.mem_range.1 hj, h1⟩, q, List.mem_range.1 hq, h2⟩

theorem freeD_free {n : Nat} {d : Int × Int} (h : freeD xs ys n = some d) : freeB xs ys d.1 d.2 n = true := by
  unfold freeD at h
  split at h
  · rename_i hn
    subst hn
    rfl
  · obtain ⟨i, _, h2⟩ := freeTo_at h
    exact freeAt_free h2

/-- What is returned is no zero. -/
theorem freeD_ne {n : Nat} (hz : NonZ xs ys n) {d : Int × Int} (h : freeD xs ys n = some d) : d ≠ (0, 0) := by
  unfold freeD at h
  split at h
  · cases h
    decide
  · obtain ⟨i, hi, h2⟩ := freeTo_at h
    obtain ⟨m1, m2⟩ := dir_mul (xs := xs) (ys := ys) i
    have key : ¬ (dX xs ys i = 0 ∧ dY xs ys i = 0) := by
      rintro ⟨e1, e2⟩
      rw [e1, Int.mul_zero] at m1
      rw [e2, Int.mul_zero] at m2
      rcases hz i hi with h3 | h3
      · exact h3 m2.symm
      · exact h3 (by omega)
    unfold freeAt at h2
    intro e
    split at h2
    · cases h2
      simp only [Prod.mk.injEq] at e
      exact key e
    · split at h2
      · cases h2
        simp only [Prod.mk.injEq] at e
        exact key ⟨by omega, by omega⟩
      · cases h2

/-- The blocking of some is that of their list. -/
theorem blk_comp {s : Nat} {f : Nat → Nat} : Blk (fun i => xs (f i)) (fun i => ys (f i)) (List.range s) ↔ Blk xs ys (lst s f) := by
  have hc : ∀ i j, cr (fun i => xs (f i)) (fun i => ys (f i)) i j = cr xs ys (f i) (f j) := fun _ _ => rfl
  constructor
  · rintro ⟨hne, hb⟩
    refine ⟨fun e => hne ?_, fun x hx => ?_⟩
    · have := congrArg List.length e
      rw [lst_len] at this
      rw [show s = 0 by simpa using this]
      rfl
    · obtain ⟨i, hi, rfl⟩ := mem_lst.1 hx
      obtain ⟨⟨j, hj, h1⟩, q, hq, h2⟩ := hb i (List.mem_range.2 hi)
      rw [hc] at h1 h2
      exact ⟨⟨f j, mem_lst.2 ⟨j, List.mem_range.1 hj, rfl⟩, h1⟩, f q, mem_lst.2 ⟨q, List.mem_range.1 hq, rfl⟩, h2⟩
  · rintro ⟨hne, hb⟩
    refine ⟨fun e => hne ?_, fun i hi => ?_⟩
    · have := congrArg List.length e
      rw [show s = 0 by simpa using this]
      rfl
    · obtain ⟨⟨x, hx, h1⟩, y, hy, h2⟩ := hb (f i) (mem_lst.2 ⟨i, List.mem_range.1 hi, rfl⟩)
      obtain ⟨j, hj, rfl⟩ := mem_lst.1 hx
      obtain ⟨q, hq, rfl⟩ := mem_lst.1 hy
      exact ⟨⟨j, List.mem_range.2 hj, by rw [hc]; exact h1⟩, q, List.mem_range.2 hq, by rw [hc]; exact h2⟩

theorem nonZ_comp {n s : Nat} {f : Nat → Nat} (hz : NonZ xs ys n) (hf : ∀ i, i < s → f i < n) : NonZ (fun i => xs (f i)) (fun i => ys (f i)) s := fun i hi => hz _ (hf i hi)

/-- The direction of some: none just where they block. -/
theorem freeD_comp {n s : Nat} {f : Nat → Nat} (hz : NonZ xs ys n) (hf : ∀ i, i < s → f i < n) : freeD (fun i => xs (f i)) (fun i => ys (f i)) s = none ↔ Blk xs ys (lst s f) :=
  (freeD_none (nonZ_comp hz hf)).trans blk_comp

/-- With a direction that is free of all there is one along a border. -/
theorem freeD_of_free {n : Nat} (hz : NonZ xs ys n) {dx dy : Int} (hd : ¬ (dx = 0 ∧ dy = 0)) (h : ∀ j, j < n → dx * xs j + dy * ys j ≤ 0) : freeD xs ys n ≠ none := fun e =>
  hd (blk_none ((freeD_none hz).1 e) (fun i hi => h i (List.mem_range.1 hi)))

/-- How far a border's direction reaches. -/
theorem dir_bound {B : Int} (i : Nat) (h : xs i ≠ 0 ∨ ys i ≠ 0) (hx : -B ≤ xs i ∧ xs i ≤ B) (hy : -B ≤ ys i ∧ ys i ≤ B) : (-B ≤ dX xs ys i ∧ dX xs ys i ≤ B) ∧ (-B ≤ dY xs ys i ∧ dY xs ys i ≤ B) := by
  have key : ∀ g a b : Int, 0 < g → g * a = b → -B ≤ b → b ≤ B → -B ≤ a ∧ a ≤ B := by
    intro g a b hg e h1 h2
    have h3 : b.natAbs = g.natAbs * a.natAbs := by rw [← e, Int.natAbs_mul]
    have h4 : a.natAbs ≤ g.natAbs * a.natAbs := Nat.le_mul_of_pos_left _ (by omega)
    omega
  obtain ⟨m1, m2⟩ := dir_mul (xs := xs) (ys := ys) i
  exact ⟨key _ _ _ (gcd_pos h) m1 (by omega) (by omega), key _ _ _ (gcd_pos h) m2 hx.1 hx.2⟩

end
end Go.Plain

/- Euclid's steps; what Exit says, in plain words. -/
namespace Go.Plain

theorem gcd_step (a b : Int) : Int.gcd b (a.tmod b) = Int.gcd a b := by
  show Nat.gcd b.natAbs (a.tmod b).natAbs = Nat.gcd a.natAbs b.natAbs
  rw [Int.natAbs_tmod, Nat.gcd_comm a.natAbs, Nat.gcd_rec b.natAbs a.natAbs, Nat.gcd_comm]

theorem gcd_zero (a : Int) : (Int.gcd a 0 : Int) = max a (-a) := by
  show ((Nat.gcd a.natAbs 0 : Nat) : Int) = _
  rw [Nat.gcd_zero_right]
  omega

theorem gcd_abs (a b : Int) : Int.gcd (max a (-a)) (max b (-b)) = Int.gcd a b := by
  show Nat.gcd (max a (-a)).natAbs (max b (-b)).natAbs = Nat.gcd a.natAbs b.natAbs
  rw [show (max a (-a)).natAbs = a.natAbs by omega, show (max b (-b)).natAbs = b.natAbs by omega]

theorem tmod_less {a b : Int} (hb : b ≠ 0) : (a.tmod b).natAbs < b.natAbs := by
  rw [Int.natAbs_tmod]
  exact Nat.mod_lt _ (by omega)

theorem gcd_le {a b B : Int} (ha : -B ≤ a ∧ a ≤ B) (hb : -B ≤ b ∧ b ≤ B) : (Int.gcd a b : Int) ≤ B := by
  show ((Nat.gcd a.natAbs b.natAbs : Nat) : Int) ≤ B
  rcases Nat.eq_zero_or_pos a.natAbs with h | h
  · rw [h, Nat.gcd_zero_left]; omega
  · have := Nat.le_of_dvd h (Nat.gcd_dvd_left a.natAbs b.natAbs)
    omega

section
variable {xs ys : Nat → Int}

/-- The least of the lists that block is there. -/
theorem least_of (n : Nat) (P : (Nat → Nat) → Prop) (s : Nat) : (∃ f, Cho n s f ∧ P f) → ∃ f, Cho n s f ∧ P f ∧ ∀ g, Cho n s g → Lex s g f → ¬ P g := by
  -- by the first place on
  suffices key : ∀ d k, k + d = s → ∀ p : Nat → Nat, (∃ f, Cho n s f ∧ P f ∧ ∀ i, i < k → f i = p i) →
      ∃ f, Cho n s f ∧ P f ∧ (∀ i, i < k → f i = p i) ∧ ∀ g, Cho n s g → (∀ i, i < k → g i = p i) → Lex s g f → ¬ P g by
    rintro ⟨f, hf, hp⟩
    obtain ⟨g, h1, h2, _, h3⟩ := key s 0 (by omega) f ⟨f, hf, hp, fun i hi => by omega⟩
    exact ⟨g, h1, h2, fun g hg hl => h3 g hg (fun i hi => by omega) hl⟩
  intro d
  induction d with
  | zero =>
    rintro k hk p ⟨f, hf, hp, he⟩
    refine ⟨f, hf, hp, he, fun g hg hge ⟨m, hm, _, h2⟩ => ?_⟩
    have := hge m (by omega)
    have := he m (by omega)
    omega
  | succ d ih =>
    rintro k hk p ⟨f, hf, hp, he⟩
    -- the least value at place k
    have hex : ∃ v, ∃ f, Cho n s f ∧ P f ∧ (∀ i, i < k → f i = p i) ∧ f k = v := ⟨_, f, hf, hp, he, rfl⟩
    obtain ⟨v, ⟨f1, hf1, hp1, he1, hv1⟩, hmin⟩ : ∃ v, (∃ f, Cho n s f ∧ P f ∧ (∀ i, i < k → f i = p i) ∧ f k = v) ∧ ∀ u, u < v → ¬ ∃ f, Cho n s f ∧ P f ∧ (∀ i, i < k → f i = p i) ∧ f k = u := by
      obtain ⟨v, hv⟩ := hex
      induction v using Nat.strongRecOn with
      | _ v ihv =>
        by_cases h : ∃ u, u < v ∧ ∃ f, Cho n s f ∧ P f ∧ (∀ i, i < k → f i = p i) ∧ f k = u
        · obtain ⟨u, hu, hf⟩ := h
          exact ihv u hu hf
        · exact ⟨v, hv, fun u hu hf => h ⟨u, hu, hf⟩⟩
    obtain ⟨f2, hf2, hp2, he2, hl2⟩ := ih (k + 1) (by omega) (fun i => if i < k then p i else v) ⟨f1, hf1, hp1, fun i hi => by
      rcases Nat.lt_or_ge i k with h | h
      · simp [h, he1 i h]
      · obtain rfl : i = k := by omega
        simp [hv1]⟩
    have e2 : ∀ i, i < k → f2 i = p i := fun i hi => by have := he2 i (by omega); simpa [hi] using this
    have v2 : f2 k = v := by have := he2 k (by omega); simpa using this
    refine ⟨f2, hf2, hp2, e2, fun g hg hge hl hpg => ?_⟩
    rcases Nat.lt_trichotomy (g k) v with h | h | h
    · exact hmin _ h ⟨g, hg, hpg, hge, rfl⟩
    · refine hl2 g hg (fun i hi => ?_) hl hpg
      rcases Nat.lt_or_ge i k with h3 | h3
      · simp [h3, hge i h3]
      · obtain rfl : i = k := by omega
        simp [h]
    · obtain ⟨m, hm, h1, h2⟩ := hl
      rcases Nat.lt_trichotomy m k with h3 | h3 | h3
      · have := hge m h3
        have := e2 m h3
        omega
      · subst h3; omega
      · have := h1 k h3; omega

theorem leastB_exists {n : Nat} (h : Blk xs ys (List.range n)) : ∃ s f, LeastB xs ys n s f := by
  obtain ⟨s, f, _, hf, hb⟩ := blk_four h
  -- the least size
  have hex : ∃ s, ∃ f, Cho n s f ∧ Blk xs ys (lst s f) := ⟨s, f, hf, hb⟩
  obtain ⟨t, ht, hmin⟩ : ∃ t, (∃ f, Cho n t f ∧ Blk xs ys (lst t f)) ∧ ∀ u, u < t → ¬ ∃ f, Cho n u f ∧ Blk xs ys (lst u f) := by
    obtain ⟨v, hv⟩ := hex
    induction v using Nat.strongRecOn with
    | _ v ihv =>
      by_cases h : ∃ u, u < v ∧ ∃ f, Cho n u f ∧ Blk xs ys (lst u f)
      · obtain ⟨u, hu, hf⟩ := h
        exact ihv u hu hf
      · exact ⟨v, hv, fun u hu hf => h ⟨u, hu, hf⟩⟩
  obtain ⟨g, h1, h2, h3⟩ := least_of n (fun f => Blk xs ys (lst t f)) t ht
  exact ⟨t, g, h1, h2, fun u f hu hf hbl => hmin u hu ⟨f, hf, hbl⟩, h3⟩

/-- Some of a list without one. -/
theorem cho_skip {n s : Nat} {f : Nat → Nat} (h : Cho n (s + 1) f) (k : Nat) : Cho n s fun i => if i < k then f i else f (i + 1) := by
  constructor
  · intro i hi
    by_cases h1 : i + 1 < k
    · rw [if_pos (by omega), if_pos h1]; exact h.inc i (by omega)
    · by_cases h2 : i < k
      · rw [if_pos h2, if_neg h1]; exact h.mono (by omega) (by omega)
      · rw [if_neg h2, if_neg h1]; exact h.inc (i + 1) (by omega)
  · intro i hi
    split
    · exact h.lt i (by omega)
    · exact h.lt _ (by omega)

end
end Go.Plain

/- Three and four numbers, in nested loops. -/
namespace Go.Plain

def tri (a b c : Nat) (i : Nat) : Nat := if i = 0 then a else if i = 1 then b else c
def quad (a b c d : Nat) (i : Nat) : Nat := if i = 0 then a else if i = 1 then b else if i = 2 then c else d

theorem lst_tri (a b c : Nat) : lst 3 (tri a b c) = [a, b, c] := rfl
theorem lst_quad (a b c d : Nat) : lst 4 (quad a b c d) = [a, b, c, d] := rfl

theorem tri_cho {n a b c : Nat} (h1 : a < b) (h2 : b < c) (h3 : c < n) : Cho n 3 (tri a b c) := by
  constructor
  · intro i hi
    match i, hi with
    | 0, _ => exact h1
    | 1, _ => exact h2
    | i + 2, h => omega
  · intro i hi
    match i, hi with
    | 0, _ => show a < n; omega
    | 1, _ => show b < n; omega
    | 2, _ => exact h3
    | i + 3, h => omega

theorem quad_cho {n a b c d : Nat} (h1 : a < b) (h2 : b < c) (h3 : c < d) (h4 : d < n) : Cho n 4 (quad a b c d) := by
  constructor
  · intro i hi
    match i, hi with
    | 0, _ => exact h1
    | 1, _ => exact h2
    | 2, _ => exact h3
    | i + 3, h => omega
  · intro i hi
    match i, hi with
    | 0, _ => show a < n; omega
    | 1, _ => show b < n; omega
    | 2, _ => show c < n; omega
    | 3, _ => exact h4
    | i + 4, h => omega

section
variable {xs ys : Nat → Int}

/-- No three before these block. -/
def Past3 (xs ys : Nat → Int) (n a b c : Nat) : Prop := ∀ f, Cho n 3 f → (f 0 < a ∨ f 0 = a ∧ (f 1 < b ∨ f 1 = b ∧ f 2 < c)) → ¬ Blk xs ys (lst 3 f)
def Past4 (xs ys : Nat → Int) (n a b c d : Nat) : Prop := ∀ f, Cho n 4 f → (f 0 < a ∨ f 0 = a ∧ (f 1 < b ∨ f 1 = b ∧ (f 2 < c ∨ f 2 = c ∧ f 3 < d))) → ¬ Blk xs ys (lst 4 f)

theorem past3_start (n : Nat) : Past3 xs ys n 0 0 0 := fun f _ h => by omega
theorem past3_b {n a : Nat} (h : Past3 xs ys n a 0 0) : Past3 xs ys n a (a + 1) 0 := fun f hf hh => by
  have h1 : f 0 < f 1 := hf.inc 0 (by omega)
  exact h f hf (by omega)
theorem past3_c {n a b : Nat} (h : Past3 xs ys n a b 0) : Past3 xs ys n a b (b + 1) := fun f hf hh => by
  have h1 : f 1 < f 2 := hf.inc 1 (by omega)
  exact h f hf (by omega)
theorem past3_step {n a b c : Nat} (h : Past3 xs ys n a b c) (hb : ¬ Blk xs ys [a, b, c]) : Past3 xs ys n a b (c + 1) := fun f hf hh hk => by
  by_cases e : f 0 = a ∧ f 1 = b ∧ f 2 = c
  · rw [show lst 3 f = [f 0, f 1, f 2] from rfl, e.1, e.2.1, e.2.2] at hk
    exact hb hk
  · exact h f hf (by omega) hk
theorem past3_upb {n a b : Nat} (h : Past3 xs ys n a b n) : Past3 xs ys n a (b + 1) 0 := fun f hf hh => by
  have h1 := hf.lt 2 (by omega)
  exact h f hf (by omega)
theorem past3_upa {n a : Nat} (h : Past3 xs ys n a n 0) : Past3 xs ys n (a + 1) 0 0 := fun f hf hh => by
  have h1 := hf.lt 1 (by omega)
  exact h f hf (by omega)
theorem past3_all {n : Nat} (h : Past3 xs ys n n 0 0) : ∀ f, Cho n 3 f → ¬ Blk xs ys (lst 3 f) := fun f hf => h f hf (.inl (hf.lt 0 (by omega)))

theorem past3_least {n a b c : Nat} (h : Past3 xs ys n a b c) (hb : Blk xs ys [a, b, c]) (h1 : a < b) (h2 : b < c) (h3 : c < n) : LeastB xs ys n 3 (tri a b c) :=
  ⟨tri_cho h1 h2 h3, hb, fun t g ht _ hk => small_blk ht hk, fun g hg ⟨k, hk, e, hl⟩ => h g hg (by
    match k, hk, e, hl with
    | 0, _, _, hl => exact .inl hl
    | 1, _, e, hl => exact .inr ⟨e 0 (by omega), .inl hl⟩
    | 2, _, e, hl => exact .inr ⟨e 0 (by omega), .inr ⟨e 1 (by omega), hl⟩⟩
    | k + 3, h, _, _ => omega)⟩

theorem past4_start (n : Nat) : Past4 xs ys n 0 0 0 0 := fun f _ h => by omega
theorem past4_b {n a : Nat} (h : Past4 xs ys n a 0 0 0) : Past4 xs ys n a (a + 1) 0 0 := fun f hf hh => by
  have h1 : f 0 < f 1 := hf.inc 0 (by omega)
  exact h f hf (by omega)
theorem past4_c {n a b : Nat} (h : Past4 xs ys n a b 0 0) : Past4 xs ys n a b (b + 1) 0 := fun f hf hh => by
  have h1 : f 1 < f 2 := hf.inc 1 (by omega)
  exact h f hf (by omega)
theorem past4_d {n a b c : Nat} (h : Past4 xs ys n a b c 0) : Past4 xs ys n a b c (c + 1) := fun f hf hh => by
  have h1 : f 2 < f 3 := hf.inc 2 (by omega)
  exact h f hf (by omega)
theorem past4_step {n a b c d : Nat} (h : Past4 xs ys n a b c d) (hb : ¬ Blk xs ys [a, b, c, d]) : Past4 xs ys n a b c (d + 1) := fun f hf hh hk => by
  by_cases e : f 0 = a ∧ f 1 = b ∧ f 2 = c ∧ f 3 = d
  · rw [show lst 4 f = [f 0, f 1, f 2, f 3] from rfl, e.1, e.2.1, e.2.2.1, e.2.2.2] at hk
    exact hb hk
  · exact h f hf (by omega) hk
theorem past4_upc {n a b c : Nat} (h : Past4 xs ys n a b c n) : Past4 xs ys n a b (c + 1) 0 := fun f hf hh => by
  have h1 := hf.lt 3 (by omega)
  exact h f hf (by omega)
theorem past4_upb {n a b : Nat} (h : Past4 xs ys n a b n 0) : Past4 xs ys n a (b + 1) 0 0 := fun f hf hh => by
  have h1 := hf.lt 2 (by omega)
  exact h f hf (by omega)
theorem past4_upa {n a : Nat} (h : Past4 xs ys n a n 0 0) : Past4 xs ys n (a + 1) 0 0 0 := fun f hf hh => by
  have h1 := hf.lt 1 (by omega)
  exact h f hf (by omega)
theorem past4_all {n : Nat} (h : Past4 xs ys n n 0 0 0) : ∀ f, Cho n 4 f → ¬ Blk xs ys (lst 4 f) := fun f hf => h f hf (.inl (hf.lt 0 (by omega)))

theorem past4_least {n a b c d : Nat} (h3all : ∀ f, Cho n 3 f → ¬ Blk xs ys (lst 3 f)) (h : Past4 xs ys n a b c d) (hb : Blk xs ys [a, b, c, d]) (h1 : a < b) (h2 : b < c) (h3 : c < d) (h4 : d < n) : LeastB xs ys n 4 (quad a b c d) :=
  ⟨quad_cho h1 h2 h3 h4, hb, fun t g ht hg hk => by
    rcases Nat.lt_or_ge t 3 with h5 | h5
    · exact small_blk h5 hk
    · obtain rfl : t = 3 := by omega
      exact h3all g hg hk, fun g hg ⟨k, hk, e, hl⟩ => h g hg (by
    match k, hk, e, hl with
    | 0, _, _, hl => exact .inl hl
    | 1, _, e, hl => exact .inr ⟨e 0 (by omega), .inl hl⟩
    | 2, _, e, hl => exact .inr ⟨e 0 (by omega), .inr ⟨e 1 (by omega), .inl hl⟩⟩
    | 3, _, e, hl => exact .inr ⟨e 0 (by omega), .inr ⟨e 1 (by omega), .inr ⟨e 2 (by omega), hl⟩⟩⟩
    | k + 4, h, _, _ => omega)⟩

end
end Go.Plain

namespace Go.Plain

/-- How many lists are still to come, at most. -/
def rk (n : Nat) (f : Nat → Nat) : Nat → Nat
  | 0 => 0
  | m + 1 => rk n f m * (n + 1) + (n - f m)

theorem rk_same {n : Nat} {f g : Nat → Nat} : ∀ m, (∀ i, i < m → f i = g i) → rk n f m = rk n g m
  | 0, _ => rfl
  | m + 1, h => by
    unfold rk
    rw [rk_same m (fun i hi => h i (by omega)), h m (by omega)]

theorem rk_less {n k : Nat} {f g : Nat → Nat} (he : ∀ i, i < k → g i = f i) (hk : f k < n) (hg : g k = f k + 1) : ∀ d, rk n g (k + 1 + d) < rk n f (k + 1 + d)
  | 0 => by
    show rk n g k * (n + 1) + (n - g k) < rk n f k * (n + 1) + (n - f k)
    rw [rk_same k he, hg]
    omega
  | d + 1 => by
    have ih := rk_less he hk hg d
    show rk n g (k + 1 + d) * (n + 1) + (n - g (k + 1 + d)) < rk n f (k + 1 + d) * (n + 1) + (n - f (k + 1 + d))
    have h2 : (rk n g (k + 1 + d) + 1) * (n + 1) ≤ rk n f (k + 1 + d) * (n + 1) := Nat.mul_le_mul_right _ ih
    rw [Nat.add_mul] at h2
    omega

theorem nxt_rk {n s k : Nat} {f : Nat → Nat} (hk : k < s) (h : f k < n) : rk n (nxt f k) s < rk n f s := by
  have := rk_less (n := n) (k := k) (f := f) (g := nxt f k) (fun i hi => by unfold nxt; rw [if_pos hi]) h (by unfold nxt; rw [if_neg (Nat.lt_irrefl _), Nat.sub_self]) (s - k - 1)
  rwa [show k + 1 + (s - k - 1) = s by omega] at this

end Go.Plain
