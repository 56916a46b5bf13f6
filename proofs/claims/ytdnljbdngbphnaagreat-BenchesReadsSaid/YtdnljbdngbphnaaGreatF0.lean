/- What panes hold, plainly: of each pane the first that is listed, the panes ascending. -/
namespace Go.Reads

structure W7 where
  p : Int
  k : Int
  a : Int
  sh : Int
  bk : Bool
  tb : Int
  tn : Int
deriving DecidableEq

structure H5 where
  n : Int
  p : Int
  c : Int
  sh : Int
  bk : Bool
deriving DecidableEq

def h0 : H5 := ⟨0, 0, 0, 0, false⟩
def w0 : W7 := ⟨0, 0, 0, 0, false, 0, 0⟩
def conv (x : W7) : H5 := ⟨x.a, x.p, 0, x.sh, x.bk⟩
def inP (l : List W7) : List H5 := (l.filter fun x => decide (x.k = 3)).map conv
def hq (l : List H5) (i : Nat) : H5 := l.getD i h0
def wq (l : List W7) (i : Nat) : W7 := l.getD i w0

/-- Where one more goes. -/
def hk (l : List H5) (h : H5) : Nat := (l.takeWhile fun x => decide (x.n < h.n)).length
def hold (l : List H5) (h : H5) : List H5 := if hk l h < l.length ∧ (hq l (hk l h)).n = h.n then l else l.take (hk l h) ++ [h] ++ l.drop (hk l h)

theorem hk_le (l : List H5) (h : H5) : hk l h ≤ l.length := by
  unfold hk
  exact (List.takeWhile_sublist _).length_le

theorem hk_spec : ∀ (l : List H5) (h : H5) (q : Nat), q ≤ l.length → (∀ j, j < q → (hq l j).n < h.n) → (q < l.length → ¬ (hq l q).n < h.n) → hk l h = q
  | [], h, q, hq0, _, _ => by simp at hq0; subst hq0; rfl
  | x :: l, h, 0, _, _, h2 => by
    have : ¬ x.n < h.n := h2 (by simp)
    unfold hk
    rw [List.takeWhile_cons_of_neg (by simpa using this)]
    rfl
  | x :: l, h, q + 1, hq0, h1, h2 => by
    have hx : x.n < h.n := h1 0 (by omega)
    have ih := hk_spec l h q (by simpa using hq0) (fun j hj => h1 (j + 1) (by omega)) (fun hl => h2 (by simpa using hl))
    unfold hk at ih ⊢
    rw [List.takeWhile_cons_of_pos (by simpa using hx), List.length_cons, ih]

theorem hk_lt : ∀ (l : List H5) (h : H5) (j : Nat), j < hk l h → (hq l j).n < h.n
  | [], h, j, hj => by simp [hk] at hj
  | x :: l, h, j, hj => by
    by_cases hx : x.n < h.n
    · unfold hk at hj
      rw [List.takeWhile_cons_of_pos (by simpa using hx), List.length_cons] at hj
      cases j with
      | zero => exact hx
      | succ j => exact hk_lt l h j (by unfold hk; omega)
    · unfold hk at hj
      rw [List.takeWhile_cons_of_neg (by simpa using hx)] at hj
      simp at hj

theorem hk_at : ∀ (l : List H5) (h : H5), hk l h < l.length → ¬ (hq l (hk l h)).n < h.n
  | [], h, hl => by simp at hl
  | x :: l, h, hl => by
    by_cases hx : x.n < h.n
    · have e : hk (x :: l) h = hk l h + 1 := by unfold hk; rw [List.takeWhile_cons_of_pos (by simpa using hx), List.length_cons]
      rw [e] at hl ⊢
      exact hk_at l h (by simpa using hl)
    · have e : hk (x :: l) h = 0 := by unfold hk; rw [List.takeWhile_cons_of_neg (by simpa using hx)]; rfl
      rw [e]
      exact hx

def Asc (l : List H5) : Prop := l.Pairwise fun x y => x.n < y.n

theorem hq_mem {l : List H5} {j : Nat} (h : j < l.length) : hq l j ∈ l := by
  unfold hq
  rw [List.getD_eq_getElem?_getD, List.getElem?_eq_getElem h]
  exact List.getElem_mem h

theorem mem_hq {l : List H5} {x : H5} (h : x ∈ l) : ∃ j, j < l.length ∧ hq l j = x := by
  obtain ⟨j, hj, e⟩ := List.getElem_of_mem h
  exact ⟨j, hj, by unfold hq; rw [List.getD_eq_getElem?_getD, List.getElem?_eq_getElem hj]; exact e⟩

theorem asc_at {l : List H5} (h : Asc l) {i j : Nat} (hij : i < j) (hj : j < l.length) : (hq l i).n < (hq l j).n := by
  have := List.pairwise_iff_getElem.1 h i j (by omega) hj hij
  unfold hq
  rw [List.getD_eq_getElem?_getD, List.getD_eq_getElem?_getD, List.getElem?_eq_getElem hj, List.getElem?_eq_getElem (by omega : i < l.length)]
  exact this

theorem take_mem {l : List H5} {k : Nat} {x : H5} (h : x ∈ l.take k) : ∃ j, j < k ∧ j < l.length ∧ hq l j = x := by
  obtain ⟨j, hj, e⟩ := List.getElem_of_mem h
  rw [List.length_take] at hj
  refine ⟨j, by omega, by omega, ?_⟩
  unfold hq
  rw [List.getElem_take] at e
  rw [List.getD_eq_getElem?_getD, List.getElem?_eq_getElem (by omega)]
  exact e

theorem drop_mem {l : List H5} {k : Nat} {x : H5} (h : x ∈ l.drop k) : ∃ j, k ≤ j ∧ j < l.length ∧ hq l j = x := by
  obtain ⟨j, hj, e⟩ := List.getElem_of_mem h
  rw [List.length_drop] at hj
  refine ⟨k + j, by omega, by omega, ?_⟩
  unfold hq
  rw [List.getElem_drop] at e
  rw [List.getD_eq_getElem?_getD, List.getElem?_eq_getElem (by omega)]
  exact e

theorem ge_of_at {l : List H5} (ha : Asc l) {h : H5} {j : Nat} (hj : j < l.length) (hkj : hk l h ≤ j) : ¬ (hq l j).n < h.n := by
  have h1 := hk_at l h (by omega)
  rcases Nat.lt_or_ge (hk l h) j with h2 | h2
  · have := asc_at ha h2 hj
    omega
  · have : j = hk l h := by omega
    rw [this]
    exact h1

theorem hold_asc {l : List H5} (ha : Asc l) (h : H5) : Asc (hold l h) := by
  unfold hold
  by_cases hc : hk l h < l.length ∧ (hq l (hk l h)).n = h.n
  · rw [if_pos hc]; exact ha
  · rw [if_neg hc]
    unfold Asc
    rw [List.append_assoc, List.pairwise_append]
    refine ⟨ha.sublist (List.take_sublist _ _), ?_, ?_⟩
    · rw [List.singleton_append, List.pairwise_cons]
      refine ⟨fun y hy => ?_, ha.sublist (List.drop_sublist _ _)⟩
      obtain ⟨j, h1, h2, rfl⟩ := drop_mem hy
      have h3 := ge_of_at ha h2 h1
      rcases Nat.lt_or_ge (hk l h) j with h4 | h4
      · have h5 := asc_at ha h4 h2
        have h6 := hk_at l h (by omega)
        omega
      · have : j = hk l h := by omega
        subst this
        have : (hq l (hk l h)).n ≠ h.n := fun e => hc ⟨h2, e⟩
        omega
    · intro x hx y hy
      obtain ⟨i, h1, h2, rfl⟩ := take_mem hx
      have h3 := hk_lt l h i h1
      rcases List.mem_append.1 hy with hy | hy
      · rw [List.mem_singleton] at hy
        rw [hy]; exact h3
      · obtain ⟨j, h4, h5, rfl⟩ := drop_mem hy
        exact asc_at ha (by omega) h5

theorem hold_mem {l : List H5} (ha : Asc l) (h x : H5) : x ∈ hold l h ↔ x ∈ l ∨ (x = h ∧ ∀ y ∈ l, y.n ≠ h.n) := by
  unfold hold
  by_cases hc : hk l h < l.length ∧ (hq l (hk l h)).n = h.n
  · rw [if_pos hc]
    exact ⟨.inl, fun e => e.elim id (fun e => absurd hc.2 (e.2 _ (hq_mem hc.1)))⟩
  · rw [if_neg hc]
    have hno : ∀ y ∈ l, y.n ≠ h.n := by
      intro y hy e
      obtain ⟨j, hj, rfl⟩ := mem_hq hy
      rcases Nat.lt_or_ge j (hk l h) with h1 | h1
      · have := hk_lt l h j h1; omega
      · rcases Nat.lt_or_ge (hk l h) j with h2 | h2
        · have h3 := asc_at ha h2 hj
          have h4 := hk_at l h (by omega)
          omega
        · have : j = hk l h := by omega
          subst this
          exact hc ⟨hj, e⟩
    rw [List.mem_append, List.mem_append, List.mem_singleton]
    constructor
    · rintro ((hx | hx) | hx)
      · exact .inl (List.mem_of_mem_take hx)
      · exact .inr ⟨hx, hno⟩
      · exact .inl (List.mem_of_mem_drop hx)
    · rintro (hx | ⟨hx, -⟩)
      · rw [← List.take_append_drop (hk l h) l, List.mem_append] at hx
        rcases hx with hx | hx
        · exact .inl (.inl hx)
        · exact .inr hx
      · exact .inl (.inr hx)

/-- The first that is listed of a pane. -/
def fst (l : List H5) (n : Int) : Option H5 := l.find? fun x => decide (x.n = n)

theorem fst_snoc (l : List H5) (h : H5) (n : Int) : fst (l ++ [h]) n = (fst l n).or (if h.n = n then some h else none) := by
  unfold fst
  rw [List.find?_append]
  congr 1
  by_cases e : h.n = n <;> simp [e]

theorem fst_some {l : List H5} {n : Int} {x : H5} (h : fst l n = some x) : x ∈ l ∧ x.n = n := by
  unfold fst at h
  exact ⟨List.mem_of_find?_eq_some h, by simpa using List.find?_some h⟩

theorem fst_none {l : List H5} {n : Int} : fst l n = none ↔ ∀ x ∈ l, x.n ≠ n := by
  unfold fst
  rw [List.find?_eq_none]
  simp

def foundR (l : List H5) : List H5 := l.foldl hold []

theorem foundR_snoc (l : List H5) (h : H5) : foundR (l ++ [h]) = hold (foundR l) h := by simp [foundR]

theorem foundR_ok : ∀ (l : List H5), Asc (foundR l) ∧ ∀ x, x ∈ foundR l ↔ fst l x.n = some x := by
  intro l
  induction hn : l.length generalizing l with
  | zero =>
    have : l = [] := List.eq_nil_of_length_eq_zero hn
    subst this
    exact ⟨List.Pairwise.nil, fun x => by simp [foundR, fst]⟩
  | succ n ih =>
    obtain ⟨m, h, rfl⟩ : ∃ m h, l = m ++ [h] := by
      have hne : l ≠ [] := by intro e; subst e; simp at hn
      exact ⟨l.dropLast, l.getLast hne, (List.dropLast_concat_getLast hne).symm⟩
    obtain ⟨ha, hm⟩ := ih m (by simpa using hn)
    rw [foundR_snoc]
    refine ⟨hold_asc ha h, fun x => ?_⟩
    rw [hold_mem ha h x, hm x, fst_snoc]
    constructor
    · rintro (e | ⟨rfl, e⟩)
      · rw [e]; rfl
      · have : fst m x.n = none := fst_none.2 (fun y hy hyn => by
          cases hf : fst m x.n with
          | none => exact fst_none.1 hf y hy hyn
          | some z =>
            have hz := fst_some hf
            exact e z ((hm z).2 (by rw [hz.2]; exact hf)) hz.2)
        rw [this]
        simp
    · intro e
      cases hf : fst m x.n with
      | some z => rw [hf] at e; simp at e; exact .inl (by rw [e])
      | none =>
        rw [hf] at e
        simp at e
        refine .inr ⟨e.2.symm, fun y hy hyn => ?_⟩
        have := fst_some ((hm y).1 hy)
        exact fst_none.1 hf y this.1 (by rw [hyn]; exact e.1)

theorem asc_uniq : ∀ {a b : List H5}, Asc a → Asc b → (∀ x, x ∈ a ↔ x ∈ b) → a = b
  | [], [], _, _, _ => rfl
  | [], y :: b, _, _, h => by have := (h y).2 (by simp); simp at this
  | x :: a, [], _, _, h => by have := (h x).1 (by simp); simp at this
  | x :: a, y :: b, ha, hb, h => by
    unfold Asc at ha hb
    rw [List.pairwise_cons] at ha hb
    have e : x = y := by
      rcases List.mem_cons.1 ((h x).1 (by simp)) with e | e
      · exact e
      · rcases List.mem_cons.1 ((h y).2 (by simp)) with g | g
        · exact g.symm
        · have h1 := hb.1 x e
          have h2 := ha.1 y g
          omega
    subst e
    rw [asc_uniq ha.2 hb.2 (fun z => ?_)]
    constructor
    · intro hz
      rcases List.mem_cons.1 ((h z).1 (List.mem_cons_of_mem _ hz)) with e | e
      · subst e; have := ha.1 z hz; omega
      · exact e
    · intro hz
      rcases List.mem_cons.1 ((h z).2 (List.mem_cons_of_mem _ hz)) with e | e
      · subst e; have := hb.1 z hz; omega
      · exact e

/-- By sorted panes the same comes out. -/
theorem found_keys {l : List H5} {ss : List Int} (hs : ss.Pairwise (· < ·)) (hm : ∀ n, n ∈ ss ↔ ∃ x ∈ l, x.n = n) : ss.map (fun n => (fst l n).getD h0) = foundR l := by
  have hf : ∀ n ∈ ss, ∃ x, fst l n = some x := fun n hn => by
    obtain ⟨x, hx, e⟩ := (hm n).1 hn
    cases hf : fst l n with
    | none => exact absurd e (fst_none.1 hf x hx)
    | some y => exact ⟨y, rfl⟩
  refine asc_uniq ?_ (foundR_ok l).1 (fun x => ?_)
  · unfold Asc
    rw [List.pairwise_map]
    refine List.Pairwise.imp_of_mem ?_ hs
    intro a b ha hb hab
    obtain ⟨x, hx⟩ := hf a ha
    obtain ⟨y, hy⟩ := hf b hb
    rw [hx, hy]
    have h1 := (fst_some hx).2
    have h2 := (fst_some hy).2
    simp only [Option.getD_some]
    omega
  · rw [(foundR_ok l).2 x, List.mem_map]
    constructor
    · rintro ⟨n, hn, rfl⟩
      obtain ⟨y, hy⟩ := hf n hn
      rw [hy, Option.getD_some, (fst_some hy).2, hy]
    · intro e
      exact ⟨x.n, (hm _).2 ⟨x, (fst_some e).1, rfl⟩, by rw [e]; rfl⟩

end Go.Reads
