/- The abstract machine, part DA. -/
/- Directions: the plain law (Steinitz in the plane). -/
namespace Go.Plain

section
variable (xs ys : Nat → Int)

/-- The cross product of two of the vectors. -/
def cr (i j : Nat) : Int := xs i * ys j - ys i * xs j

theorem cr_swap (i j : Nat) : cr xs ys j i = - cr xs ys i j := by
  unfold cr
  rw [Int.mul_comm (xs j), Int.mul_comm (ys j)]
  omega

theorem plucker (a b c d : Nat) : cr xs ys a b * cr xs ys c d = cr xs ys a c * cr xs ys b d - cr xs ys a d * cr xs ys b c := by
  unfold cr
  simp only [Int.mul_sub, Int.mul_comm, Int.mul_left_comm]
  omega

/-- Do the vectors with these numbers leave no direction? -/
def Blk (l : List Nat) : Prop := l ≠ [] ∧ ∀ i ∈ l, (∃ j ∈ l, 0 < cr xs ys i j) ∧ ∃ j ∈ l, cr xs ys i j < 0

variable {xs ys}

/-- The furthest to the left among those to the left. -/
theorem furthest (i : Nat) : ∀ (l : List Nat), l ≠ [] → (∀ x ∈ l, 0 < cr xs ys i x) → ∃ m ∈ l, ∀ x ∈ l, cr xs ys m x ≤ 0
  | [], h, _ => absurd rfl h
  | [c], _, _ => ⟨c, by simp, by intro x hx; simp at hx; subst hx; unfold cr; rw [Int.mul_comm]; omega⟩
  | c :: b :: l, _, hl => by
    obtain ⟨m, hm, hx⟩ := furthest i (b :: l) (by simp) (fun x hx => hl x (by simp at hx ⊢; exact .inr hx))
    have h1 : 0 < cr xs ys i m := hl m (List.mem_cons_of_mem _ hm)
    have h2 : 0 < cr xs ys i c := hl c (by simp)
    by_cases hc : cr xs ys m c ≤ 0
    · refine ⟨m, List.mem_cons_of_mem _ hm, fun x hx' => ?_⟩
      rcases List.mem_cons.1 hx' with rfl | h
      · exact hc
      · exact hx x h
    · refine ⟨c, by simp, fun x hx' => ?_⟩
      rcases List.mem_cons.1 hx' with rfl | h
      · unfold cr; rw [Int.mul_comm]; omega
      · have h3 := hx x h
        have h4 : 0 < cr xs ys i x := hl x (List.mem_cons_of_mem _ h)
        have p := plucker xs ys i m c x
        have q1 : cr xs ys i c * cr xs ys m x ≤ 0 := Int.mul_nonpos_of_nonneg_of_nonpos (by omega) h3
        have q2 : 0 < cr xs ys i x * cr xs ys m c := Int.mul_pos h4 (by omega)
        have q3 : cr xs ys i m * cr xs ys c x < 0 := by omega
        rcases (show 0 < cr xs ys c x ∨ cr xs ys c x ≤ 0 by omega) with h5 | h5
        · have := Int.mul_pos h1 h5
          omega
        · exact h5

/-- Three that leave none. -/
structure Three (i m p : Nat) : Prop where
  a : 0 < cr xs ys i m
  b : 0 < cr xs ys m p
  c : cr xs ys i p < 0

/-- Four that leave none, the first and the third opposite. -/
structure Four (i m p q : Nat) : Prop where
  a : 0 < cr xs ys i m
  b : 0 < cr xs ys m p
  c : cr xs ys i p = 0
  d : cr xs ys i q < 0
  e : 0 < cr xs ys p q

theorem steinitz {l : List Nat} (h : Blk xs ys l) : (∃ i m p, i ∈ l ∧ m ∈ l ∧ p ∈ l ∧ Three (xs := xs) (ys := ys) i m p) ∨ (∃ i m p q, i ∈ l ∧ m ∈ l ∧ p ∈ l ∧ q ∈ l ∧ Four (xs := xs) (ys := ys) i m p q) := by
  obtain ⟨hne, hb⟩ := h
  obtain ⟨i, hi⟩ : ∃ i, i ∈ l := by
    cases l with
    | nil => exact absurd rfl hne
    | cons a l => exact ⟨a, by simp⟩
  obtain ⟨⟨j, hj, hj0⟩, q, hq, hq0⟩ := hb i hi
  obtain ⟨m, hm, hx⟩ := furthest (xs := xs) (ys := ys) i (l.filter fun x => decide (0 < cr xs ys i x)) (by
    intro e
    have : j ∈ l.filter fun x => decide (0 < cr xs ys i x) := List.mem_filter.2 ⟨hj, by simpa using hj0⟩
    rw [e] at this
    cases this) (fun x hx => by simpa using (List.mem_filter.1 hx).2)
  obtain ⟨hml, hm0⟩ := List.mem_filter.1 hm
  have hm0 : 0 < cr xs ys i m := by simpa using hm0
  obtain ⟨⟨p, hp, hp0⟩, -⟩ := hb m hml
  have hip : cr xs ys i p ≤ 0 := by
    rcases (show 0 < cr xs ys i p ∨ cr xs ys i p ≤ 0 by omega) with h5 | h5
    · have := hx p (List.mem_filter.2 ⟨hp, by simpa using h5⟩)
      omega
    · exact h5
  rcases Int.lt_or_eq_of_le hip with h5 | h5
  · exact .inl ⟨i, m, p, hi, hml, hp, hm0, hp0, h5⟩
  · refine .inr ⟨i, m, p, q, hi, hml, hp, hq, hm0, hp0, h5, hq0, ?_⟩
    have pl := plucker xs ys i m p q
    rw [h5, Int.zero_mul] at pl
    have q1 := Int.mul_neg_of_neg_of_pos hq0 hp0
    rcases (show 0 < cr xs ys p q ∨ cr xs ys p q ≤ 0 by omega) with h6 | h6
    · exact h6
    · have := Int.mul_nonpos_of_nonneg_of_nonpos (show 0 ≤ cr xs ys i m by omega) h6
      omega

theorem three_blk {i m p : Nat} {l : List Nat} (h : Three (xs := xs) (ys := ys) i m p) (hl : ∀ x, x ∈ l ↔ x = i ∨ x = m ∨ x = p) : Blk xs ys l := by
  have s1 := cr_swap xs ys i m
  have s2 := cr_swap xs ys m p
  have s3 := cr_swap xs ys i p
  obtain ⟨a, b, c⟩ := h
  have hi : i ∈ l := (hl i).2 (by simp)
  have hm : m ∈ l := (hl m).2 (by simp)
  have hp : p ∈ l := (hl p).2 (by simp)
  refine ⟨fun e => (by rw [e] at hi; cases hi), fun x hx => ?_⟩
  rcases (hl x).1 hx with rfl | rfl | rfl
  · exact ⟨⟨m, hm, a⟩, p, hp, c⟩
  · exact ⟨⟨p, hp, b⟩, i, hi, by omega⟩
  · exact ⟨⟨i, hi, by omega⟩, m, hm, by omega⟩

theorem four_blk {i m p q : Nat} {l : List Nat} (h : Four (xs := xs) (ys := ys) i m p q) (hl : ∀ x, x ∈ l ↔ x = i ∨ x = m ∨ x = p ∨ x = q) : Blk xs ys l := by
  have s1 := cr_swap xs ys i m
  have s2 := cr_swap xs ys m p
  have s3 := cr_swap xs ys i q
  have s4 := cr_swap xs ys p q
  obtain ⟨a, b, c, d, e⟩ := h
  have hi : i ∈ l := (hl i).2 (by simp)
  have hm : m ∈ l := (hl m).2 (by simp)
  have hp : p ∈ l := (hl p).2 (by simp)
  have hq : q ∈ l := (hl q).2 (by simp)
  refine ⟨fun e => (by rw [e] at hi; cases hi), fun x hx => ?_⟩
  rcases (hl x).1 hx with rfl | rfl | rfl | rfl
  · exact ⟨⟨m, hm, a⟩, q, hq, d⟩
  · exact ⟨⟨p, hp, b⟩, i, hi, by omega⟩
  · exact ⟨⟨q, hq, e⟩, m, hm, by omega⟩
  · exact ⟨⟨i, hi, by omega⟩, p, hp, by omega⟩

end

end Go.Plain

/- Directions: increasing lists of numbers, in their order; the least ones that block. -/
namespace Go.Plain

/-- The first s values of f increase and are below n. -/
structure Cho (n s : Nat) (f : Nat → Nat) : Prop where
  inc : ∀ i, i + 1 < s → f i < f (i + 1)
  lt : ∀ i, i < s → f i < n

theorem Cho.step {n s : Nat} {f : Nat → Nat} (h : Cho n s f) (i : Nat) : ∀ d, i + d < s → f i + d ≤ f (i + d)
  | 0, _ => Nat.le_refl _
  | d + 1, hd => by
    have h1 := h.step i d (by omega)
    have h2 := h.inc (i + d) (by omega)
    rw [show i + (d + 1) = i + d + 1 by omega]
    omega

theorem Cho.mono {n s : Nat} {f : Nat → Nat} (h : Cho n s f) {i j : Nat} (hij : i < j) (hj : j < s) : f i < f j := by
  have := h.step i (j - i) (by omega)
  rw [show i + (j - i) = j by omega] at this
  omega

theorem Cho.ge {n s : Nat} {f : Nat → Nat} (h : Cho n s f) {i : Nat} (hi : i < s) : i ≤ f i := by
  have := h.step 0 i (by omega)
  rw [Nat.zero_add] at this
  omega

theorem Cho.most {n s : Nat} {f : Nat → Nat} (h : Cho n s f) {i : Nat} (hi : i < s) : f i + s ≤ n + i := by
  have h1 := h.step i (s - 1 - i) (by omega)
  have h2 := h.lt (i + (s - 1 - i)) (by omega)
  omega

theorem Cho.size {n s : Nat} {f : Nat → Nat} (h : Cho n s f) : s ≤ n := by
  rcases Nat.eq_zero_or_pos s with rfl | hs
  · omega
  · have := h.most (i := 0) hs
    have := h.ge (i := 0) hs
    omega

/-- One list is before another. -/
def Lex (s : Nat) (f g : Nat → Nat) : Prop := ∃ k, k < s ∧ (∀ i, i < k → f i = g i) ∧ f k < g k

def Same (s : Nat) (f g : Nat → Nat) : Prop := ∀ i, i < s → f i = g i

/-- Two lists are equal, or one is before the other. -/
theorem lex_tri (f g : Nat → Nat) : ∀ s, Same s f g ∨ Lex s f g ∨ Lex s g f
  | 0 => .inl (fun i hi => by omega)
  | s + 1 => by
    rcases lex_tri f g s with h | ⟨k, hk, h1, h2⟩ | ⟨k, hk, h1, h2⟩
    · rcases Nat.lt_trichotomy (f s) (g s) with h3 | h3 | h3
      · exact .inr (.inl ⟨s, by omega, h, h3⟩)
      · refine .inl (fun i hi => ?_)
        rcases Nat.lt_or_ge i s with h4 | h4
        · exact h i h4
        · obtain rfl : i = s := by omega
          exact h3
      · exact .inr (.inr ⟨s, by omega, fun i hi => (h i hi).symm, h3⟩)
    · exact .inr (.inl ⟨k, by omega, h1, h2⟩)
    · exact .inr (.inr ⟨k, by omega, h1, h2⟩)

theorem lex_first {n s : Nat} {f : Nat → Nat} (hf : ∀ i, i < s → f i = i) {g : Nat → Nat} (hg : Cho n s g) : ¬ Lex s g f := by
  rintro ⟨k, hk, _, hl⟩
  have := hg.ge hk
  have := hf k hk
  omega

/-- The list behind f. -/
def nxt (f : Nat → Nat) (k : Nat) (i : Nat) : Nat := if i < k then f i else f k + 1 + (i - k)

theorem lex_nxt {n s : Nat} {f : Nat → Nat} {k : Nat} (hk : k < s) (hlast : ∀ i, k < i → i < s → f i + s = n + i) {g : Nat → Nat} (hg : Cho n s g) (h : Lex s g (nxt f k)) : Lex s g f ∨ Same s g f := by
  obtain ⟨m, hm, h1, h2⟩ := h
  rcases Nat.lt_trichotomy m k with h3 | h3 | h3
  · refine .inl ⟨m, hm, fun i hi => ?_, ?_⟩
    · have := h1 i hi
      unfold nxt at this
      rw [if_pos (by omega)] at this
      exact this
    · unfold nxt at h2
      rw [if_pos h3] at h2
      exact h2
  · subst h3
    have hlow : ∀ i, i < m → g i = f i := fun i hi => by
      have := h1 i hi
      unfold nxt at this
      rw [if_pos hi] at this
      exact this
    unfold nxt at h2
    rw [if_neg (Nat.lt_irrefl _), Nat.sub_self] at h2
    rcases lex_tri g f s with h4 | h4 | ⟨j, hj, h5, h6⟩
    · exact .inr h4
    · exact .inl h4
    · exfalso
      rcases Nat.lt_trichotomy j m with h7 | h7 | h7
      · have := hlow j h7; omega
      · subst h7; omega
      · have := hlast j h7 hj
        have := hg.most hj
        omega
  · exfalso
    have h4 := h1 k h3
    unfold nxt at h4 h2
    rw [if_neg (Nat.lt_irrefl _), Nat.sub_self] at h4
    rw [if_neg (by omega)] at h2
    have := hg.step k (m - k) (by omega)
    rw [show k + (m - k) = m by omega] at this
    omega

theorem lex_last {n s : Nat} {f : Nat → Nat} (hlast : ∀ i, i < s → f i + s = n + i) {g : Nat → Nat} (hg : Cho n s g) : Lex s g f ∨ Same s g f := by
  rcases lex_tri g f s with h4 | h4 | ⟨j, hj, h5, h6⟩
  · exact .inr h4
  · exact .inl h4
  · exfalso
    have := hlast j hj
    have := hg.most hj
    omega

/-- The list of the first s values. -/
def lst (s : Nat) (f : Nat → Nat) : List Nat := (List.range s).map f

theorem mem_lst {s : Nat} {f : Nat → Nat} {x : Nat} : x ∈ lst s f ↔ ∃ i, i < s ∧ f i = x := by simp [lst]

section
variable {xs ys : Nat → Int}

theorem cr_self (i : Nat) : cr xs ys i i = 0 := by unfold cr; rw [Int.mul_comm]; omega

/-- One and two leave a direction. -/
theorem blk_least {l : List Nat} (h : Blk xs ys l) (a b : Nat) : ¬ (∀ x ∈ l, x = a ∨ x = b) := by
  intro hl
  obtain ⟨hne, hb⟩ := h
  have h0 := cr_self (xs := xs) (ys := ys) a
  have h1 := cr_self (xs := xs) (ys := ys) b
  have h2 := cr_swap xs ys a b
  obtain ⟨i, hi⟩ : ∃ i, i ∈ l := by
    cases l with
    | nil => exact absurd rfl hne
    | cons a l => exact ⟨a, by simp⟩
  obtain ⟨⟨j, hj, hj0⟩, q, hq, hq0⟩ := hb i hi
  rcases hl i hi with rfl | rfl <;> rcases hl j hj with rfl | rfl <;> rcases hl q hq with rfl | rfl <;> omega

theorem blk_same {l m : List Nat} (h : ∀ x, x ∈ l ↔ x ∈ m) (hb : Blk xs ys l) : Blk xs ys m := by
  obtain ⟨hne, hb⟩ := hb
  refine ⟨?_, fun i hi => ?_⟩
  · cases l with
    | nil => exact absurd rfl hne
    | cons a l => intro e; have := (h a).1 (by simp); rw [e] at this; cases this
  · obtain ⟨⟨j, hj, hj0⟩, q, hq, hq0⟩ := hb i ((h i).2 hi)
    exact ⟨⟨j, (h j).1 hj, hj0⟩, q, (h q).1 hq, hq0⟩

theorem small_blk {s : Nat} {f : Nat → Nat} (hs : s < 3) (h : Blk xs ys (lst s f)) : False := by
  refine blk_least h (f 0) (f 1) (fun x hx => ?_)
  obtain ⟨i, hi, rfl⟩ := mem_lst.1 hx
  match i, hi with
  | 0, _ => exact .inl rfl
  | 1, _ => exact .inr rfl
  | i + 2, h => omega

/-- f blocks, and nothing before it does. -/
structure LeastB (xs ys : Nat → Int) (n s : Nat) (f : Nat → Nat) : Prop where
  cho : Cho n s f
  blk : Blk xs ys (lst s f)
  less : ∀ t g, t < s → Cho n t g → ¬ Blk xs ys (lst t g)
  before : ∀ g, Cho n s g → Lex s g f → ¬ Blk xs ys (lst s g)

theorem exists_cho (n : Nat) : ∀ l : List Nat, l.Nodup → (∀ x ∈ l, x < n) → ∃ f, Cho n l.length f ∧ ∀ x, x ∈ lst l.length f ↔ x ∈ l
  | [], _, _ => ⟨id, ⟨fun i hi => by simp at hi, fun i hi => by simp at hi⟩, by simp [lst]⟩
  | a :: l, hnd, hl => by
    obtain ⟨f, hf, hm⟩ := exists_cho n l (List.nodup_cons.1 hnd).2 (fun x hx => hl x (List.mem_cons_of_mem _ hx))
    have ha : a ∉ l := (List.nodup_cons.1 hnd).1
    have hne : ∀ i, i < l.length → f i ≠ a := fun i hi e => ha ((hm a).1 (mem_lst.2 ⟨i, hi, e⟩))
    -- where a belongs
    obtain ⟨k, hk, h1, h2⟩ : ∃ k, k ≤ l.length ∧ (∀ i, i < k → f i < a) ∧ ∀ i, k ≤ i → i < l.length → a < f i := by
      have key : ∀ d, d ≤ l.length → ∃ k, k ≤ d ∧ (∀ i, i < k → f i < a) ∧ ∀ i, k ≤ i → i < d → a < f i := by
        intro d
        induction d with
        | zero => exact fun _ => ⟨0, Nat.le_refl _, fun i hi => by omega, fun i _ hi => by omega⟩
        | succ d ih =>
          intro hd
          obtain ⟨k, hk, h1, h2⟩ := ih (by omega)
          rcases Nat.lt_trichotomy (f d) a with h3 | h3 | h3
          · refine ⟨d + 1, Nat.le_refl _, fun i hi => ?_, fun i h4 h5 => by omega⟩
            rcases Nat.lt_or_ge i d with h4 | h4
            · exact Nat.lt_trans (hf.mono h4 (by omega)) h3
            · obtain rfl : i = d := by omega
              exact h3
          · exact absurd h3 (hne d (by omega))
          · refine ⟨k, by omega, h1, fun i h4 h5 => ?_⟩
            rcases Nat.lt_or_ge i d with h6 | h6
            · exact h2 i h4 h6
            · obtain rfl : i = d := by omega
              exact h3
      exact key l.length (Nat.le_refl _)
    refine ⟨fun i => if i < k then f i else if i = k then a else f (i - 1), ⟨fun i hi => ?_, fun i hi => ?_⟩, fun x => ?_⟩
    · simp only [List.length_cons] at hi
      by_cases c1 : i + 1 < k
      · rw [if_pos (by omega), if_pos c1]
        exact hf.inc i (by omega)
      · by_cases c2 : i < k
        · obtain rfl : k = i + 1 := by omega
          rw [if_pos c2, if_neg c1, if_pos rfl]
          exact h1 i c2
        · by_cases c3 : i = k
          · subst c3
            rw [if_neg c2, if_pos rfl, if_neg c1, if_neg (by omega)]
            exact h2 _ (by omega) (by omega)
          · rw [if_neg c2, if_neg c3, if_neg c1, if_neg (by omega)]
            have := hf.inc (i - 1) (by omega)
            rw [show i - 1 + 1 = i by omega] at this
            rw [show i + 1 - 1 = i by omega]
            exact this
    · simp only [List.length_cons] at hi
      by_cases c2 : i < k
      · rw [if_pos c2]; exact hf.lt i (by omega)
      · by_cases c3 : i = k
        · rw [if_neg c2, if_pos c3]; exact hl a (by simp)
        · rw [if_neg c2, if_neg c3]; exact hf.lt _ (by omega)
    · rw [mem_lst, List.mem_cons, ← hm x, mem_lst]
      constructor
      · rintro ⟨i, hi, e⟩
        simp only [List.length_cons] at hi
        by_cases c2 : i < k
        · rw [if_pos c2] at e; exact .inr ⟨i, by omega, e⟩
        · by_cases c3 : i = k
          · rw [if_neg c2, if_pos c3] at e; exact .inl e.symm
          · rw [if_neg c2, if_neg c3] at e; exact .inr ⟨i - 1, by omega, e⟩
      · rintro (rfl | ⟨i, hi, e⟩)
        · exact ⟨k, by simp; omega, by rw [if_neg (Nat.lt_irrefl _), if_pos rfl]⟩
        · by_cases c2 : i < k
          · exact ⟨i, by simp; omega, by rw [if_pos c2]; exact e⟩
          · exact ⟨i + 1, by simp; omega, by rw [if_neg (by omega), if_neg (by omega), Nat.add_sub_cancel]; exact e⟩

/-- Where all leave no direction three or four do. -/
theorem blk_four {n : Nat} (h : Blk xs ys (List.range n)) : ∃ s f, (s = 3 ∨ s = 4) ∧ Cho n s f ∧ Blk xs ys (lst s f) := by
  rcases steinitz h with ⟨i, m, p, hi, hm, hp, t⟩ | ⟨i, m, p, q, hi, hm, hp, hq, t⟩
  · have hb := three_blk t (l := [i, m, p]) (by simp)
    obtain ⟨a, b, c⟩ := t
    have s1 := cr_self (xs := xs) (ys := ys) i
    have s2 := cr_self (xs := xs) (ys := ys) m
    have hnd : [i, m, p].Nodup := by
      simp only [List.nodup_cons, List.mem_cons, List.not_mem_nil, or_false, not_or, not_false_eq_true, List.nodup_nil, and_true]
      exact ⟨⟨fun e => by subst e; omega, fun e => by subst e; omega⟩, fun e => by subst e; omega⟩
    obtain ⟨f, hf, hs⟩ := exists_cho n [i, m, p] hnd (by
      intro x hx
      simp only [List.mem_cons, List.not_mem_nil, or_false] at hx
      rcases hx with rfl | rfl | rfl <;> first | exact List.mem_range.1 hi | exact List.mem_range.1 hm | exact List.mem_range.1 hp)
    exact ⟨3, f, .inl rfl, hf, blk_same (fun x => (hs x).symm) hb⟩
  · have hb := four_blk t (l := [i, m, p, q]) (by simp)
    obtain ⟨a, b, c, d, e⟩ := t
    have s1 := cr_self (xs := xs) (ys := ys) i
    have s2 := cr_self (xs := xs) (ys := ys) m
    have s3 := cr_self (xs := xs) (ys := ys) p
    have s4 := cr_swap xs ys i m
    have hnd : [i, m, p, q].Nodup := by
      simp only [List.nodup_cons, List.mem_cons, List.not_mem_nil, or_false, not_or, not_false_eq_true, List.nodup_nil, and_true]
      exact ⟨⟨fun e => by subst e; omega, fun e => by subst e; omega, fun e => by subst e; omega⟩, ⟨fun e => by subst e; omega, fun e => by subst e; omega⟩, fun e => by subst e; omega⟩
    obtain ⟨f, hf, hs⟩ := exists_cho n [i, m, p, q] hnd (by
      intro x hx
      simp only [List.mem_cons, List.not_mem_nil, or_false] at hx
      rcases hx with rfl | rfl | rfl | rfl <;> first | exact List.mem_range.1 hi | exact List.mem_range.1 hm | exact List.mem_range.1 hp | exact List.mem_range.1 hq)
    exact ⟨4, f, .inr rfl, hf, blk_same (fun x => (hs x).symm) hb⟩

theorem LeastB.size {n s : Nat} {f : Nat → Nat} (h : LeastB xs ys n s f) (hb : Blk xs ys (List.range n)) : s = 3 ∨ s = 4 := by
  have h1 : ¬ s < 3 := fun hs => small_blk hs h.blk
  obtain ⟨t, g, ht, hg, hk⟩ := blk_four hb
  have h2 : s ≤ t := by
    rcases Nat.lt_or_ge t s with h3 | h3
    · exact absurd hk (h.less t g h3 hg)
    · exact h3
  omega

end
end Go.Plain

/- Directions: along the borders of the normals. -/
namespace Go.Plain

section
variable (xs ys : Nat → Int)

variable {xs ys}

end
end Go.Plain

/- Euclid's steps; what Exit says, in plain words. -/
namespace Go.Plain

theorem gcd_step (a b : Int) : Int.gcd b (a.tmod b) = Int.gcd a b := by
  show Nat.gcd b.natAbs (a.tmod b).natAbs = Nat.gcd a.natAbs b.natAbs
  rw [Int.natAbs_tmod, Nat.gcd_comm a.natAbs, Nat.gcd_rec b.natAbs a.natAbs, Nat.gcd_comm]

theorem gcd_zero (a : Int) : (Int.gcd a 0 : Int) = max a (-a) := by
  show ((Nat.gcd a.natAbs 0 : Nat) : Int) = _
  rw [Nat.gcd_zero_right]
  omega

theorem tmod_less {a b : Int} (hb : b ≠ 0) : (a.tmod b).natAbs < b.natAbs := by
  rw [Int.natAbs_tmod]
  exact Nat.mod_lt _ (by omega)

section
variable {xs ys : Nat → Int}

end
end Go.Plain

/- Three and four numbers, in nested loops. -/
namespace Go.Plain

section
variable {xs ys : Nat → Int}

end
end Go.Plain

namespace Go.Plain

end Go.Plain
