/- The abstract machine, part HP. -/
import Derived.Lib.Hide
/- Pairings (plain): two lists of numbers that go together place by place; tone by tone. -/
namespace Go.Pairs

/-- Both lists are as long, and what stands at one place of both goes together. -/
def eqF (r : Nat → Nat → Bool) : List Nat → List Nat → Bool
  | [], [] => true
  | a :: l, b :: m => r a b && eqF r l m
  | [], _ :: _ => false
  | _ :: _, [] => false

theorem eqF_len {r : Nat → Nat → Bool} : ∀ {X Y : List Nat}, eqF r X Y = true → X.length = Y.length
  | [], [], _ => rfl
  | a :: l, b :: m, h => by
    unfold eqF at h
    rw [Bool.and_eq_true] at h
    simp [eqF_len h.2]
  | [], _ :: _, h => by cases h
  | _ :: _, [], h => by cases h

theorem eqF_append {r : Nat → Nat → Bool} : ∀ {X Y : List Nat} (X2 Y2 : List Nat), X.length = Y.length → eqF r (X ++ X2) (Y ++ Y2) = (eqF r X Y && eqF r X2 Y2)
  | [], [], _, _, _ => rfl
  | a :: l, b :: m, X2, Y2, h => by
    show (r a b && eqF r (l ++ X2) (m ++ Y2)) = ((r a b && eqF r l m) && eqF r X2 Y2)
    rw [eqF_append X2 Y2 (by simpa using h), Bool.and_assoc]
  | [], _ :: _, _, _, h => by simp at h
  | _ :: _, [], _, _, h => by simp at h

theorem eqF_count {r : Nat → Nat → Bool} {f g : Nat → Int} (hr : ∀ a b, r a b = true → f a = g b) (t : Int) : ∀ {X Y : List Nat}, eqF r X Y = true → X.countP (fun a => f a == t) = Y.countP (fun b => g b == t)
  | [], [], _ => rfl
  | a :: l, b :: m, h => by
    unfold eqF at h
    rw [Bool.and_eq_true] at h
    have e := hr a b h.1
    rw [List.countP_cons, List.countP_cons, eqF_count hr t h.2, e]
  | [], _ :: _, h => by cases h
  | _ :: _, [], h => by cases h

theorem countP_all {p : Nat → Bool} {X : List Nat} (h : ∀ a ∈ X, p a = true) : X.countP p = X.length := List.countP_eq_length.2 h
theorem countP_none {p : Nat → Bool} {X : List Nat} (h : ∀ a ∈ X, p a = false) : X.countP p = 0 := List.countP_eq_zero.2 fun a ha => by simp [h a ha]

theorem eqF_sep {r : Nat → Nat → Bool} {f g : Nat → Int} (hr : ∀ a b, r a b = true → f a = g b) (t : Int) {X1 X2 Y1 Y2 : List Nat}
    (h1 : ∀ a ∈ X1, f a = t) (h2 : ∀ a ∈ X2, f a ≠ t) (k1 : ∀ b ∈ Y1, g b = t) (k2 : ∀ b ∈ Y2, g b ≠ t) :
    eqF r (X1 ++ X2) (Y1 ++ Y2) = (eqF r X1 Y1 && eqF r X2 Y2) := by
  by_cases hl : X1.length = Y1.length
  · exact eqF_append X2 Y2 hl
  · cases h : eqF r (X1 ++ X2) (Y1 ++ Y2)
    · cases h' : eqF r X1 Y1
      · rfl
      · exact absurd (eqF_len h') hl
    · exfalso
      have hc := eqF_count hr t h
      rw [List.countP_append, List.countP_append, countP_all (fun a ha => by simp [h1 a ha]), countP_none (X := X2) (fun a ha => by simpa using h2 a ha), countP_all (fun a ha => by simp [k1 a ha]), countP_none (X := Y2) (fun a ha => by simpa using k2 a ha)] at hc
      exact hl (by simpa using hc)

theorem eqF_flat {r : Nat → Nat → Bool} {f g : Nat → Int} (hr : ∀ a b, r a b = true → f a = g b) {X Y : Int → List Nat} (hX : ∀ t, ∀ a ∈ X t, f a = t) (hY : ∀ t, ∀ b ∈ Y t, g b = t) :
    ∀ {ts : List Int}, ts.Pairwise (· < ·) → eqF r (ts.flatMap X) (ts.flatMap Y) = ts.all fun t => eqF r (X t) (Y t)
  | [], _ => rfl
  | t :: ts, h => by
    rw [List.pairwise_cons] at h
    show eqF r (X t ++ ts.flatMap X) (Y t ++ ts.flatMap Y) = (eqF r (X t) (Y t) && ts.all fun t => eqF r (X t) (Y t))
    rw [← eqF_flat hr hX hY h.2]
    refine eqF_sep hr t (hX t) ?_ (hY t) ?_
    · intro a ha e
      obtain ⟨u, hu, ha⟩ := List.mem_flatMap.1 ha
      have := hX u a ha
      have := h.1 u hu
      omega
    · intro a ha e
      obtain ⟨u, hu, ha⟩ := List.mem_flatMap.1 ha
      have := hY u a ha
      have := h.1 u hu
      omega

theorem eqF_swap {r r' : Nat → Nat → Bool} (hr : ∀ a b, r' b a = r a b) : ∀ (X Y : List Nat), eqF r' Y X = eqF r X Y
  | [], [] => rfl
  | a :: l, b :: m => by
    show (r' b a && eqF r' m l) = (r a b && eqF r l m)
    rw [hr, eqF_swap hr l m]
  | [], _ :: _ => rfl
  | _ :: _, [] => rfl

theorem eqF_reverse {r : Nat → Nat → Bool} : ∀ (X Y : List Nat), eqF r X.reverse Y.reverse = eqF r X Y := by
  intro X Y
  by_cases hl : X.length = Y.length
  · induction X generalizing Y with
    | nil =>
      have : Y = [] := List.eq_nil_of_length_eq_zero hl.symm
      subst this; rfl
    | cons a l ih =>
      cases Y with
      | nil => simp at hl
      | cons b m =>
        rw [List.reverse_cons, List.reverse_cons, eqF_append _ _ (by simpa using hl), ih m (by simpa using hl)]
        show (eqF r l m && (r a b && true)) = (r a b && eqF r l m)
        cases r a b <;> cases eqF r l m <;> rfl
  · cases h : eqF r X.reverse Y.reverse
    · cases h' : eqF r X Y
      · rfl
      · exact absurd (eqF_len h') hl
    · exact absurd (by simpa using eqF_len h) hl

theorem eqF_mono {r r' : Nat → Nat → Bool} (hr : ∀ a b, r a b = true → r' a b = true) : ∀ {X Y : List Nat}, eqF r X Y = true → eqF r' X Y = true
  | [], [], _ => rfl
  | a :: l, b :: m, h => by
    unfold eqF at h
    rw [Bool.and_eq_true] at h
    show (r' a b && eqF r' l m) = true
    rw [hr a b h.1, eqF_mono hr h.2]; rfl
  | [], _ :: _, h => by cases h
  | _ :: _, [], h => by cases h

/-- A list sorted by tone falls apart into its tones. -/
theorem sorted_split {f : Nat → Int} (t : Int) : ∀ {d : List Nat}, d.Pairwise (fun p q => f p ≤ f q) → (∀ p ∈ d, t ≤ f p) → d = d.filter (fun p => f p == t) ++ d.filter (fun p => !(f p == t))
  | [], _, _ => rfl
  | a :: l, h, ht => by
    rw [List.pairwise_cons] at h
    have ih := sorted_split t h.2 fun p hp => ht p (List.mem_cons_of_mem _ hp)
    by_cases ha : f a = t
    · rw [List.filter_cons_of_pos (by simp [ha]), List.filter_cons_of_neg (by simp [ha]), List.cons_append, ← ih]
    · have hn : l.filter (fun p => f p == t) = [] := by
        rw [List.filter_eq_nil_iff]
        intro p hp e
        have := h.1 p hp
        have := ht a (List.mem_cons_self ..)
        simp at e
        omega
      have hall : l.filter (fun p => !(f p == t)) = l := by
        rw [hn] at ih
        exact ih.symm
      rw [List.filter_cons_of_neg (by simp [ha]), List.filter_cons_of_pos (by simp [ha]), hn, hall]; rfl

theorem sorted_flat {f : Nat → Int} : ∀ {ts : List Int} {d : List Nat}, ts.Pairwise (· < ·) → d.Pairwise (fun p q => f p ≤ f q) → (∀ p ∈ d, f p ∈ ts) → d = ts.flatMap fun t => d.filter fun p => f p == t
  | [], d, _, _, h => by
    cases d with
    | nil => rfl
    | cons a l => exact absurd (h a (List.mem_cons_self ..)) (by simp)
  | t :: ts, d, hts, hd, h => by
    rw [List.pairwise_cons] at hts
    have hs := sorted_split t hd fun p hp => by
      rcases List.mem_cons.1 (h p hp) with e | e
      · omega
      · have := hts.1 _ e; omega
    have ih := sorted_flat (d := d.filter fun p => !(f p == t)) hts.2 (hd.sublist List.filter_sublist) fun p hp => by
      rw [List.mem_filter] at hp
      rcases List.mem_cons.1 (h p hp.1) with e | e
      · simp [e] at hp
      · exact e
    show d = d.filter (fun p => f p == t) ++ ts.flatMap fun t => d.filter fun p => f p == t
    conv => lhs; rw [hs, ih]
    congr 1
    rw [List.flatMap_def, List.flatMap_def]
    congr 1
    refine List.map_congr_left fun u hu => ?_
    rw [List.filter_filter]
    refine List.filter_congr fun p _ => ?_
    have := hts.1 u hu
    by_cases e : f p = u
    · have : ¬ f p = t := by omega
      simp [e]; omega
    · simp [e]

end Go.Pairs

/- Pairings (plain): what is open, tone by tone; a step; the reference's test; the greedy list. -/
namespace Go.Pairs

variable (r : Nat → Nat → Bool) (f g : Nat → Int) (n m : Nat) (ts : List Int)

def upd (U : Nat → Bool) (k : Nat) : Nat → Bool := fun j => U j || decide (j = k)

def colA (i : Nat) (t : Int) : List Nat := (List.range' i (n - i)).filter fun p => f p == t
def colB (U : Nat → Bool) (t : Int) : Nat → List Nat
  | 0 => []
  | m + 1 => if (!U m && g m == t) = true then m :: colB U t m else colB U t m
def lastF (p : Nat → Bool) : Nat → Option Nat
  | 0 => none
  | k + 1 => if p k = true then some k else lastF p k
def cntU (U : Nat → Bool) (m : Nat) : Nat := (List.range m).countP fun k => !U k

def openT (i : Nat) (U : Nat → Bool) : Bool := ts.all fun t => eqF r (colA f n i t) (colB g U t m)

theorem colA_tone {i : Nat} {t : Int} : ∀ a ∈ colA f n i t, f a = t := by
  intro a ha
  have := (List.mem_filter.1 ha).2
  simpa using this

theorem colB_tone {U : Nat → Bool} {t : Int} : ∀ {m : Nat}, ∀ b ∈ colB g U t m, g b = t
  | 0, b, hb => by cases hb
  | m + 1, b, hb => by
    unfold colB at hb
    split at hb
    · rename_i h
      rcases List.mem_cons.1 hb with rfl | hb
      · simp at h; exact h.2
      · exact colB_tone b hb
    · exact colB_tone b hb

theorem colB_lt {U : Nat → Bool} {t : Int} : ∀ {m : Nat}, ∀ b ∈ colB g U t m, b < m
  | 0, b, hb => by cases hb
  | m + 1, b, hb => by
    unfold colB at hb
    split at hb
    · rcases List.mem_cons.1 hb with rfl | hb
      · omega
      · have := colB_lt b hb; omega
    · have := colB_lt b hb; omega

theorem colA_step {i : Nat} (hi : i < n) (t : Int) : colA f n i t = if f i = t then i :: colA f n (i + 1) t else colA f n (i + 1) t := by
  unfold colA
  rw [show n - i = (n - (i + 1)) + 1 by omega, List.range'_succ]
  by_cases h : f i = t
  · rw [if_pos h, List.filter_cons_of_pos (by simp [h])]
  · rw [if_neg h, List.filter_cons_of_neg (by simp [h])]

theorem colB_congr {U V : Nat → Bool} {t : Int} : ∀ {m : Nat}, (∀ k, k < m → g k = t → U k = V k) → colB g U t m = colB g V t m
  | 0, _ => rfl
  | m + 1, h => by
    unfold colB
    rw [colB_congr fun k hk e => h k (by omega) e]
    by_cases e : g m = t
    · rw [h m (by omega) e]
    · simp [e]

theorem lastF_none {p : Nat → Bool} : ∀ {m : Nat}, lastF p m = none → ∀ k, k < m → p k = false
  | 0, _, k, hk => absurd hk (Nat.not_lt_zero _)
  | m + 1, h, k, hk => by
    unfold lastF at h
    split at h
    · cases h
    · rename_i hp
      rcases Nat.lt_or_ge k m with h1 | h1
      · exact lastF_none h k h1
      · obtain rfl : k = m := by omega
        simpa using hp

theorem lastF_some {p : Nat → Bool} {k : Nat} : ∀ {m : Nat}, lastF p m = some k → k < m ∧ p k = true
  | 0, h => by cases h
  | m + 1, h => by
    unfold lastF at h
    split at h
    · rename_i hp; cases h; exact ⟨by omega, hp⟩
    · have := lastF_some h; exact ⟨by omega, this.2⟩

theorem colB_none {U : Nat → Bool} {t : Int} : ∀ {m : Nat}, lastF (fun k => !U k && g k == t) m = none → colB g U t m = []
  | 0, _ => rfl
  | m + 1, h => by
    unfold lastF at h
    unfold colB
    split at h
    · cases h
    · rename_i hp
      rw [if_neg hp]
      exact colB_none h

theorem colB_some {U : Nat → Bool} {t : Int} {k : Nat} : ∀ {m : Nat}, lastF (fun k => !U k && g k == t) m = some k → colB g U t m = k :: colB g (upd U k) t m
  | 0, h => by cases h
  | m + 1, h => by
    unfold lastF at h
    split at h
    · rename_i hp
      cases h
      unfold colB
      rw [if_pos hp, if_neg (by simp [upd])]
      congr 1
      exact colB_congr g fun j hj _ => by have : ¬ j = k := by omega
                                          simp [upd, this]
    · rename_i hp
      have hk := lastF_some h
      unfold colB
      rw [if_neg hp, if_neg (by
        intro h2
        apply hp
        have : ¬ m = k := by omega
        simpa [upd, this] using h2), colB_some h]

theorem openT_iff {i : Nat} {U : Nat → Bool} : openT r f g n m ts i U = true ↔ ∀ t ∈ ts, eqF r (colA f n i t) (colB g U t m) = true := by
  unfold openT
  rw [List.all_eq_true]

/-- ONE STEP: the least number left on the one side goes with the last one of its tone on the other. -/
theorem openT_step {i : Nat} {U : Nat → Bool} (hi : i < n) (hts : f i ∈ ts) :
    openT r f g n m ts i U = match lastF (fun k => !U k && g k == f i) m with | none => false | some k => r i k && openT r f g n m ts (i + 1) (upd U k) := by
  cases hl : lastF (fun k => !U k && g k == f i) m with
  | none =>
    show openT r f g n m ts i U = false
    rw [Bool.eq_false_iff, Ne, openT_iff]
    intro h
    have := h _ hts
    rw [colB_none g hl, colA_step f n hi, if_pos rfl] at this
    cases this
  | some k =>
    have hk := lastF_some hl
    have hgk : g k = f i := by have := hk.2; simp at this; exact this.2
    show openT r f g n m ts i U = (r i k && openT r f g n m ts (i + 1) (upd U k))
    rw [Bool.eq_iff_iff, Bool.and_eq_true, openT_iff, openT_iff]
    have other : ∀ t, f i ≠ t → colA f n i t = colA f n (i + 1) t ∧ colB g U t m = colB g (upd U k) t m := fun t ht => by
      refine ⟨by rw [colA_step f n hi, if_neg ht], colB_congr g fun j _ e => ?_⟩
      have : ¬ j = k := fun e2 => ht (by rw [← e, e2, hgk])
      simp [upd, this]
    constructor
    · intro h
      have h0 := h _ hts
      rw [colB_some g hl, colA_step f n hi, if_pos rfl] at h0
      unfold eqF at h0
      rw [Bool.and_eq_true] at h0
      refine ⟨h0.1, fun t ht => ?_⟩
      by_cases e : f i = t
      · subst e; exact h0.2
      · obtain ⟨e1, e2⟩ := other t e
        rw [← e1, ← e2]; exact h t ht
    · rintro ⟨h1, h⟩ t ht
      by_cases e : f i = t
      · subst e
        rw [colB_some g hl, colA_step f n hi, if_pos rfl]
        unfold eqF
        rw [Bool.and_eq_true]
        exact ⟨h1, h _ ht⟩
      · obtain ⟨e1, e2⟩ := other t e
        rw [e1, e2]; exact h t ht

theorem cntU_upd {U : Nat → Bool} {k m : Nat} (hk : k < m) (h : U k = false) : cntU U m = cntU (upd U k) m + 1 := by
  unfold cntU
  induction m with
  | zero => omega
  | succ m ih =>
    rw [List.range_succ, List.countP_append, List.countP_append]
    rcases Nat.lt_or_ge k m with h1 | h1
    · rw [ih h1]
      have : ¬ m = k := by omega
      have e : upd U k m = U m := by simp [upd, this]
      simp only [List.countP_cons, List.countP_nil, e]
      omega
    · obtain rfl : k = m := by omega
      have e : upd U k k = true := by simp [upd]
      have : (List.range k).countP (fun j => !U j) = (List.range k).countP (fun j => !upd U k j) := by
        refine List.countP_congr fun j hj => ?_
        have : ¬ j = k := by have := List.mem_range.1 hj; omega
        simp [upd, this]
      simp only [List.countP_cons, List.countP_nil, e, h, this]
      simp

/-- What the reference tests: from i on, each with the last one of its tone that is left. -/
def matchR : Nat → Nat → (Nat → Bool) → Bool
  | 0, _, _ => true
  | c + 1, i, U => match lastF (fun k => !U k && g k == f i) m with | none => false | some k => r i k && matchR c (i + 1) (upd U k)

theorem openT_last {U : Nat → Bool} (hg : ∀ k, k < m → g k ∈ ts) : openT r f g n m ts n U = decide (cntU U m = 0) := by
  rw [Bool.eq_iff_iff, openT_iff, decide_eq_true_eq]
  unfold cntU
  rw [List.countP_eq_zero]
  have hA : ∀ t, colA f n n t = [] := fun t => by unfold colA; rw [Nat.sub_self]; rfl
  constructor
  · intro h k hk hu
    have hk := List.mem_range.1 hk
    have := h _ (hg k hk)
    rw [hA] at this
    have hl := eqF_len this
    have hn : colB g U (g k) m = [] := List.eq_nil_of_length_eq_zero hl.symm
    have : ∀ m, k < m → k ∈ colB g U (g k) m := by
      intro m
      induction m with
      | zero => omega
      | succ m ih =>
        intro h
        unfold colB
        rcases Nat.lt_or_ge k m with h1 | h1
        · split
          · exact List.mem_cons_of_mem _ (ih h1)
          · exact ih h1
        · obtain rfl : k = m := by omega
          rw [if_pos (by simpa using hu)]
          exact List.mem_cons_self ..
    have := this m hk
    rw [hn] at this
    cases this
  · intro h t _
    have : ∀ m', m' ≤ m → colB g U t m' = [] := by
      intro m'
      induction m' with
      | zero => intro _; rfl
      | succ j ih =>
        intro hj
        unfold colB
        rw [if_neg, ih (by omega)]
        intro h2
        have := h j (List.mem_range.2 (by omega))
        simp at h2 this
        rw [this] at h2
        simp at h2
    rw [hA, this m (Nat.le_refl _)]
    rfl

theorem openT_match (hf : ∀ i, i < n → f i ∈ ts) (hg : ∀ k, k < m → g k ∈ ts) : ∀ (c i : Nat) (U : Nat → Bool), i + c = n → openT r f g n m ts i U = (matchR r f g m c i U && decide (cntU U m = c))
  | 0, i, U, h => by
    obtain rfl : i = n := by omega
    rw [openT_last r f g i m ts hg]
    rfl
  | c + 1, i, U, h => by
    rw [openT_step r f g n m ts (by omega) (hf i (by omega))]
    unfold matchR
    cases hl : lastF (fun k => !U k && g k == f i) m with
    | none => rfl
    | some k =>
      have hk := lastF_some hl
      have hu : U k = false := by have := hk.2; simp at this; exact this.1
      simp only
      rw [openT_match hf hg c (i + 1) (upd U k) (by omega), cntU_upd hk.1 hu, Bool.and_assoc]
      congr 2
      rw [Bool.eq_iff_iff, decide_eq_true_eq, decide_eq_true_eq]
      omega

/-- Where something is open, a first partner leaves it open. -/
theorem openT_some {i : Nat} {U : Nat → Bool} (hi : i < n) (hts : f i ∈ ts) (h : openT r f g n m ts i U = true) :
    ∃ k, k < m ∧ U k = false ∧ r i k = true ∧ openT r f g n m ts (i + 1) (upd U k) = true := by
  rw [openT_step r f g n m ts hi hts] at h
  cases hl : lastF (fun k => !U k && g k == f i) m with
  | none => rw [hl] at h; cases h
  | some k =>
    rw [hl] at h
    simp only [Bool.and_eq_true] at h
    have hk := lastF_some hl
    exact ⟨k, hk.1, by have := hk.2; simp at this; exact this.1, h.1, h.2⟩

theorem openT_symm {U : Nat → Bool} (hU : ∀ k, U k = false) (r' : Nat → Nat → Bool) (hr : ∀ a b, r' b a = r a b) : openT r' g f m n ts 0 U = openT r f g n m ts 0 U := by
  have hB : ∀ (g : Nat → Int) (m : Nat) (t : Int), colB g U t m = (colA g m 0 t).reverse := by
    intro g m t
    induction m with
    | zero => rfl
    | succ m ih =>
      unfold colB
      unfold colA at ih ⊢
      rw [ih, Nat.sub_zero, Nat.sub_zero, List.range'_1_concat, List.filter_append, List.reverse_append]
      by_cases h : g m = t
      · simp [hU, h]
      · simp [hU, h]
  unfold openT
  congr 1
  funext t
  rw [hB, hB, ← eqF_reverse (colA g m 0 t), List.reverse_reverse, eqF_swap hr]

theorem openT_mono {r' : Nat → Nat → Bool} (hr : ∀ a b, r a b = true → r' a b = true) {i : Nat} {U : Nat → Bool} (h : openT r f g n m ts i U = true) : openT r' f g n m ts i U = true := by
  rw [openT_iff] at h ⊢
  exact fun t ht => eqF_mono hr (h t ht)

end Go.Pairs

/- Pairings (plain): what sorting by tone leaves; the greedy list. -/
namespace Go.Pairs

variable (r : Nat → Nat → Bool) (f g : Nat → Int) (n m : Nat) (ts : List Int)

def riseL : List Nat := ts.flatMap fun t => colA f n 0 t
def fallL : List Nat := ts.flatMap fun t => colB g (fun _ => false) t m

theorem filter_range' (n i : Nat) (h : i ≤ n) : (List.range' 0 n).filter (fun p => decide (i ≤ p)) = List.range' i (n - i) := by
  induction n with
  | zero => obtain rfl : i = 0 := by omega
            rfl
  | succ n ih =>
    rw [List.range'_1_concat, List.filter_append]
    rcases Nat.lt_or_ge n i with h1 | h1
    · obtain rfl : i = n + 1 := by omega
      rw [Nat.sub_self]
      have : (List.range' 0 n).filter (fun p => decide (n + 1 ≤ p)) = [] := by
        rw [List.filter_eq_nil_iff]
        intro p hp
        have := List.mem_range'_1.1 hp
        simp; omega
      rw [this]
      simp
    · rw [ih h1, show n + 1 - i = (n - i) + 1 by omega, List.range'_1_concat]
      congr 1
      rw [show i + (n - i) = n by omega]
      simp [h1]

theorem colA_filter {i : Nat} (h : i ≤ n) (t : Int) : (colA f n 0 t).filter (fun p => decide (i ≤ p)) = colA f n i t := by
  unfold colA
  rw [← filter_range' n i h, Nat.sub_zero, List.filter_filter, List.filter_filter]
  refine List.filter_congr fun p _ => ?_
  rw [Bool.and_comm]

theorem colB_filter (U : Nat → Bool) (t : Int) : ∀ m, (colB g (fun _ => false) t m).filter (fun k => !U k) = colB g U t m
  | 0 => rfl
  | m + 1 => by
    unfold colB
    by_cases h : g m = t
    · rw [if_pos (by simp [h])]
      cases hu : U m
      · rw [List.filter_cons_of_pos (by simp [hu]), colB_filter U t m, if_pos (by simp [h])]
      · rw [List.filter_cons_of_neg (by simp [hu]), colB_filter U t m, if_neg (by simp)]
    · rw [if_neg (by simp [h]), if_neg (by simp [h]), colB_filter U t m]

/-- WHAT THE PROGRAM TESTS. -/
theorem openT_lists (hr : ∀ a b, r a b = true → f a = g b) (hts : ts.Pairwise (· < ·)) {i : Nat} (h : i ≤ n) (U : Nat → Bool) :
    eqF r ((riseL f n ts).filter fun p => decide (i ≤ p)) ((fallL g m ts).filter fun k => !U k) = openT r f g n m ts i U := by
  unfold riseL fallL openT
  rw [List.filter_flatMap, List.filter_flatMap]
  have e1 : (fun a => (colA f n 0 a).filter fun p => decide (i ≤ p)) = fun a => colA f n i a := funext fun t => colA_filter f n h t
  have e2 : (fun a => (colB g (fun _ => false) a m).filter fun k => !U k) = fun a => colB g U a m := funext fun t => colB_filter g U t m
  rw [e1, e2]
  exact eqF_flat hr (fun t => colA_tone f n) (fun t => colB_tone g) hts

theorem rise_unique {d : List Nat} (hts : ts.Pairwise (· < ·)) (hf : ∀ i, i < n → f i ∈ ts) (hp : d.Perm (List.range n)) (hs : d.Pairwise fun p q => f p < f q ∨ (f p = f q ∧ p < q)) : d = riseL f n ts := by
  have h1 := sorted_flat (f := f) hts (hs.imp fun h => by rcases h with h | h <;> omega) fun p hp' => hf p (List.mem_range.1 (hp.mem_iff.1 hp'))
  rw [h1]
  unfold riseL
  rw [List.flatMap_def, List.flatMap_def]
  congr 1
  refine List.map_congr_left fun t _ => ?_
  unfold colA
  refine List.Perm.eq_of_pairwise (le := (· < ·)) (fun a b _ _ h1 h2 => absurd (Nat.lt_trans h1 h2) (Nat.lt_irrefl _)) ?_ ?_ ?_
  · have h2 := hs.sublist (List.filter_sublist (p := fun p => f p == t))
    refine List.Pairwise.imp_of_mem ?_ h2
    intro a b ha hb h
    have ha := (List.mem_filter.1 ha).2
    have hb := (List.mem_filter.1 hb).2
    simp at ha hb
    omega
  · exact List.Pairwise.sublist List.filter_sublist (List.pairwise_lt_range' 1)
  · rw [Nat.sub_zero, ← List.range_eq_range']
    exact hp.filter _

theorem colB_range (t : Int) : ∀ m, colB g (fun _ => false) t m = ((List.range m).filter fun k => g k == t).reverse
  | 0 => rfl
  | m + 1 => by
    unfold colB
    rw [List.range_succ, List.filter_append, List.reverse_append, colB_range t m]
    by_cases h : g m = t
    · simp [h]
    · simp [h]

theorem fall_unique {d : List Nat} (hts : ts.Pairwise (· < ·)) (hg : ∀ i, i < m → g i ∈ ts) (hp : d.Perm (List.range m)) (hs : d.Pairwise fun p q => g p < g q ∨ (g p = g q ∧ q < p)) : d = fallL g m ts := by
  have h1 := sorted_flat (f := g) hts (hs.imp fun h => by rcases h with h | h <;> omega) fun p hp' => hg p (List.mem_range.1 (hp.mem_iff.1 hp'))
  rw [h1]
  unfold fallL
  rw [List.flatMap_def, List.flatMap_def]
  congr 1
  refine List.map_congr_left fun t _ => ?_
  rw [colB_range]
  refine List.Perm.eq_of_pairwise (le := fun a b => b < a) (fun a b _ _ h1 h2 => absurd (Nat.lt_trans h1 h2) (Nat.lt_irrefl _)) ?_ ?_ ?_
  · have h2 := hs.sublist (List.filter_sublist (p := fun p => g p == t))
    refine List.Pairwise.imp_of_mem ?_ h2
    intro a b ha hb h
    have ha := (List.mem_filter.1 ha).2
    have hb := (List.mem_filter.1 hb).2
    simp at ha hb
    omega
  · rw [List.pairwise_reverse]
    exact List.Pairwise.sublist List.filter_sublist List.pairwise_lt_range
  · exact (hp.filter _).trans (List.reverse_perm _).symm

/-- Each takes the first partner that leaves the rest open. -/
def may (i : Nat) (U : Nat → Bool) (k : Nat) : Bool := !U k && r i k && openT r f g n m ts (i + 1) (upd U k)
def greedy : Nat → Nat → (Nat → Bool) → List Nat
  | 0, _, _ => []
  | c + 1, i, U => match (List.range m).find? (may r f g n m ts i U) with | none => [] | some k => k :: greedy c (i + 1) (upd U k)

theorem find_range {p : Nat → Bool} {k : Nat} (hk : k < m) (hp : p k = true) (hn : ∀ j, j < k → p j = false) : (List.range m).find? p = some k := by
  rw [List.find?_range_eq_some]
  exact ⟨hp, List.mem_range.2 hk, fun j hj => by simp [hn j hj]⟩

theorem greedy_cons {c i k : Nat} {U : Nat → Bool} (hk : k < m) (hp : may r f g n m ts i U k = true) (hn : ∀ j, j < k → may r f g n m ts i U j = false) :
    greedy r f g n m ts (c + 1) i U = k :: greedy r f g n m ts c (i + 1) (upd U k) := by
  show (match (List.range m).find? (may r f g n m ts i U) with | none => [] | some k => k :: greedy r f g n m ts c (i + 1) (upd U k)) = _
  rw [find_range m hk hp hn]

theorem may_first {i : Nat} {U : Nat → Bool} (hi : i < n) (hts : f i ∈ ts) (h : openT r f g n m ts i U = true) :
    ∃ k, k < m ∧ may r f g n m ts i U k = true ∧ ∀ j, j < k → may r f g n m ts i U j = false := by
  obtain ⟨k, hk, h1, h2, h3⟩ := openT_some r f g n m ts hi hts h
  have hm : may r f g n m ts i U k = true := by unfold may; rw [h1, h2, h3]; rfl
  cases hf : (List.range m).find? (may r f g n m ts i U) with
  | none =>
    rw [List.find?_eq_none] at hf
    exact absurd hm (hf k (List.mem_range.2 hk))
  | some k' =>
    rw [List.find?_range_eq_some] at hf
    exact ⟨k', List.mem_range.1 hf.2.1, hf.1, fun j hj => by simpa using hf.2.2 j hj⟩

theorem greedy_len (hf : ∀ i, i < n → f i ∈ ts) : ∀ (c i : Nat) (U : Nat → Bool), i + c = n → openT r f g n m ts i U = true → (greedy r f g n m ts c i U).length = c
  | 0, _, _, _, _ => rfl
  | c + 1, i, U, h, ho => by
    obtain ⟨k, hk, h1, h2⟩ := may_first r f g n m ts (by omega) (hf i (by omega)) ho
    rw [greedy_cons r f g n m ts hk h1 h2]
    unfold may at h1
    rw [Bool.and_eq_true] at h1
    simp [greedy_len hf c (i + 1) (upd U k) (by omega) h1.2]

theorem greedy_ok (hf : ∀ i, i < n → f i ∈ ts) : ∀ (c i : Nat) (U : Nat → Bool), i + c = n → openT r f g n m ts i U = true → ∀ j k, (greedy r f g n m ts c i U)[j]? = some k → k < m ∧ U k = false ∧ r (i + j) k = true ∧ k ∉ (greedy r f g n m ts c i U).take j
  | 0, _, _, _, _, j, k, h => by cases h
  | c + 1, i, U, h, ho, j, k, hj => by
    obtain ⟨k0, hk, h1, h2⟩ := may_first r f g n m ts (by omega) (hf i (by omega)) ho
    rw [greedy_cons r f g n m ts hk h1 h2] at hj ⊢
    unfold may at h1
    rw [Bool.and_eq_true, Bool.and_eq_true] at h1
    cases j with
    | zero =>
      simp at hj
      subst hj
      exact ⟨hk, by simpa using h1.1.1, h1.1.2, by simp⟩
    | succ j =>
      simp only [List.getElem?_cons_succ] at hj
      obtain ⟨q1, q2, q3, q4⟩ := greedy_ok hf c (i + 1) (upd U k0) (by omega) h1.2 j k hj
      simp [upd] at q2
      refine ⟨q1, q2.1, by rw [show i + (j + 1) = i + 1 + j by omega]; exact q3, ?_⟩
      rw [List.take_succ_cons, List.mem_cons, not_or]
      exact ⟨q2.2, q4⟩

end Go.Pairs
