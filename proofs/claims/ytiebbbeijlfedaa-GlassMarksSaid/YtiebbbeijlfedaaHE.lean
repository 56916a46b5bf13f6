/- The abstract machine, part HE. -/
import Derived.Test.YtiebbbeijlfedaaHD
import Derived.Test.YtiebbbeijlfedaaAbsC
import Derived.Laws.EntriesVeiled
/- A region that draws its order, by an invariant over what is listed; the pairing. -/
namespace Go.Abs
open Go Go.RowKit

variable {P : Program} {md : Region.Mode} {ops : Array Oper} {Q : Exit → Act → World → Prop}

theorem wpAny_inv (Inv : Array Bool → Act → World → Prop)
    (hstep : ∀ listed a w i, listed.size = ops.size → Inv listed a w → i ∈ Region.ready md ops listed → wpOp P ops Q i (Inv (listed.setIfInBounds i true)) a w)
    (hdone : ∀ listed a w, Inv listed a w → Region.ready md ops listed = [] → Q .normal a w) :
    ∀ (fuel : Nat) (listed : Array Bool) (a : Act) (w : World), listed.size = ops.size → listed.toList.countP (fun b => !b) ≤ fuel → Inv listed a w → wpAny P md ops Q fuel listed a w := by
  intro fuel
  induction fuel with
  | zero =>
    intro listed a w hs hc hi
    have hr : Region.ready md ops listed = [] := by
      rw [List.eq_nil_iff_forall_not_mem]
      intro i h
      obtain ⟨hl, o, ho, -⟩ := mem_ready.1 h
      have hlt : i < listed.size := by rw [hs]; exact (Array.getElem?_eq_some_iff.1 ho).1
      have h0 : listed.toList.countP (fun b => !b) = 0 := by omega
      rw [List.countP_eq_zero] at h0
      have := h0 (listed[i]) (by simp)
      simp [Array.getD_eq_getD_getElem?, hlt] at hl
      simp [hl] at this
    exact ⟨hr, hdone listed a w hi hr⟩
  | succ fuel ih =>
    intro listed a w hs hc hi
    refine ⟨hdone listed a w hi, fun i h => ?_⟩
    refine wpOp_mono (fun a' w' hi' => ih _ a' w' (by simpa using hs) ?_ hi') (hstep listed a w i hs hi h)
    obtain ⟨hl, o, ho, -⟩ := mem_ready.1 h
    have hlt : i < listed.size := by rw [hs]; exact (Array.getElem?_eq_some_iff.1 ho).1
    have hl' : listed.toList[i]'(by simpa using hlt) = false := by simpa [Array.getD_eq_getD_getElem?, hlt] using hl
    rw [Array.toList_setIfInBounds, List.countP_set]
    · simp only [Bool.not_true, Bool.false_eq_true, if_false, hl', Bool.not_false, if_true]
      omega
    · simpa using hlt

theorem wp_region_inv {id : Nat} {a : Act} {w : World} (Inv : Array Bool → Act → World → Prop) (hm : P.follows .mixedOrders = true)
    (h0 : Inv (Array.replicate ops.size false) a { w with drawn := w.drawn + 1 })
    (hstep : ∀ listed a w i, listed.size = ops.size → Inv listed a w → i ∈ Region.ready .any ops listed → wpOp P ops Q i (Inv (listed.setIfInBounds i true)) a w)
    (hdone : ∀ listed a w, Inv listed a w → Region.ready .any ops listed = [] → Q .normal a w) : (Code.region id ops true).wp P Q a w := by
  refine wp_region_any hm (wpAny_inv Inv hstep hdone _ _ _ _ (by simp) ?_ h0)
  refine Nat.le_trans List.countP_le_length ?_
  simp

end Go.Abs

/- Walks: the pairing. -/
namespace Go.Proofs.Ytiebbbeijlfedaa
open Go Go.RowKit Go.Proofs Go.Pairs Go.Abs

/-- The closures. -/
abbrev fRun (N : Nat) : Value := .func (.func 90) #[] #[.pointer (some ⟨N, 0, none⟩), .pointer (some ⟨N + 1, 0, none⟩), .pointer (some ⟨N + 2, 0, none⟩)]

/-- The world ahead of the orders: seven blocks of one's own. -/
structure Pre (A B : List M3) (s : Int) (va vb : Value) (w W : World) (N : Nat) : Prop where
  below : Below N w W
  sz : w.heap.size = N
  size : N + 7 ≤ W.heap.size
  b0 : Boxed W N 23 va
  b1 : Boxed W (N + 1) 23 vb
  b2 : Boxed W (N + 2) 3 (.int .i64 s)
  b3 : Boxed W (N + 3) 116 (fRun N)
  n4 : NB W (N + 4) (List.replicate A.length 0)
  b5 : Boxed W (N + 5) 26 (.slice (some ⟨N + 4, 0, none⟩) A.length A.length)
  u6 : UB W (N + 6) fun _ => false

theorem Pre.keep {A B : List M3} {s : Int} {va vb : Value} {w W W' : World} {N : Nat} (h : Pre A B s va vb w W N) (hb : Below W.heap.size W W') : Pre A B s va vb w W' N := by
  have hs := h.size
  exact ⟨h.below.trans (hb.mono (by omega)), h.sz, Nat.le_trans hs hb.size, boxed_keep hb h.b0, boxed_keep hb h.b1, boxed_keep hb h.b2, boxed_keep hb h.b3, h.n4.keep hb, boxed_keep hb h.b5, h.u6.keep hb⟩

theorem UB.new (W : World) : UB (W.alloc (.cells (ub fun _ => false) 117)) W.heap.size fun _ => false := World.alloc_heap_new W _

/-- An order of the indices that byTone leaves. -/
def Rw (W : World) (M : List M3) (y : Int) (g : Nat) (D : List Nat) : Prop := NB W g D ∧ D.Perm (List.range M.length) ∧ D.Pairwise fun a b => ¬ cfB M y b a < 0

/-- Between the operations of the fourth region. -/
structure R4 (A B : List M3) (va vb : Value) (W5 : World) (N : Nat) (l0 l1 l2 l3 l4 l5 l6 l7 : Bool) (x11 x12 y20 y21 y22 y23 : Value) (W : World) : Prop where
  below : Below W5.heap.size W5 W
  h0 : l0 = true → y20 = va
  h1 : l1 = true → ∃ g D, y21 = .slice (some ⟨g, 0, none⟩) A.length A.length ∧ N + 7 ≤ g ∧ Rw W A 1 g D
  h2 : l2 = true → y22 = vb
  h3 : l3 = true → ∃ g D, y23 = .slice (some ⟨g, 0, none⟩) B.length B.length ∧ N + 7 ≤ g ∧ Rw W B (-1) g D
  h4 : l4 = true → ∃ p, x11 = .pointer (some ⟨p, 0, none⟩) ∧ N + 7 ≤ p ∧ Boxed W p 26 (if l6 = true then y21 else .slice none 0 0)
  h5 : l5 = true → ∃ p, x12 = .pointer (some ⟨p, 0, none⟩) ∧ N + 7 ≤ p ∧ Boxed W p 26 (if l7 = true then y23 else .slice none 0 0)
  h45 : l4 = true → l5 = true → x11 ≠ x12
  c6 : l6 = true → l1 = true ∧ l4 = true
  c7 : l7 = true → l3 = true ∧ l5 = true

theorem Rw.keep {W W' : World} {M : List M3} {y : Int} {g : Nat} {D : List Nat} (h : Rw W M y g D) (hb : Below W.heap.size W W') : Rw W' M y g D := ⟨h.1.keep hb, h.2⟩

theorem R4.keep {A B : List M3} {va vb : Value} {W5 : World} {N : Nat} {l0 l1 l2 l3 l4 l5 l6 l7 : Bool} {x11 x12 y20 y21 y22 y23 : Value} {W W' : World} (h : R4 A B va vb W5 N l0 l1 l2 l3 l4 l5 l6 l7 x11 x12 y20 y21 y22 y23 W) (hb : Below W.heap.size W W') :
    R4 A B va vb W5 N l0 l1 l2 l3 l4 l5 l6 l7 x11 x12 y20 y21 y22 y23 W' :=
  ⟨keep_below h.below hb, h.h0, fun e => by obtain ⟨g, D, h1, h2, h3⟩ := h.h1 e; exact ⟨g, D, h1, h2, h3.keep hb⟩, h.h2, fun e => by obtain ⟨g, D, h1, h2, h3⟩ := h.h3 e; exact ⟨g, D, h1, h2, h3.keep hb⟩,
    fun e => by obtain ⟨p, h1, h2, h3⟩ := h.h4 e; exact ⟨p, h1, h2, boxed_keep hb h3⟩, fun e => by obtain ⟨p, h1, h2, h3⟩ := h.h5 e; exact ⟨p, h1, h2, boxed_keep hb h3⟩, h.h45, h.c6, h.c7⟩

section
variable {A B : List M3} {va vb : Value} {W5 : World} {N : Nat} {l0 l1 l2 l3 l4 l5 l6 l7 : Bool} {x11 x12 y20 y21 y22 y23 : Value} {W : World}

theorem R4.put1 {v : Value} (h : R4 A B va vb W5 N l0 false l2 l3 l4 l5 l6 l7 x11 x12 y20 y21 y22 y23 W) (hv : ∃ g D, v = .slice (some ⟨g, 0, none⟩) A.length A.length ∧ N + 7 ≤ g ∧ Rw W A 1 g D) :
    R4 A B va vb W5 N l0 true l2 l3 l4 l5 l6 l7 x11 x12 y20 v y22 y23 W := by
  have h6 : l6 = false := by cases l6; rfl; exact absurd (h.c6 rfl).1 (by decide)
  subst h6
  exact ⟨h.below, h.h0, fun _ => hv, h.h2, h.h3, fun e => by obtain ⟨p, h1, h2, h3⟩ := h.h4 e; exact ⟨p, h1, h2, by simpa using h3⟩, h.h5, h.h45, nofun, h.c7⟩

theorem R4.put3 {v : Value} (h : R4 A B va vb W5 N l0 l1 l2 false l4 l5 l6 l7 x11 x12 y20 y21 y22 y23 W) (hv : ∃ g D, v = .slice (some ⟨g, 0, none⟩) B.length B.length ∧ N + 7 ≤ g ∧ Rw W B (-1) g D) :
    R4 A B va vb W5 N l0 l1 l2 true l4 l5 l6 l7 x11 x12 y20 y21 y22 v W := by
  have h7 : l7 = false := by cases l7; rfl; exact absurd (h.c7 rfl).1 (by decide)
  subst h7
  exact ⟨h.below, h.h0, h.h1, h.h2, fun _ => hv, h.h4, fun e => by obtain ⟨p, h1, h2, h3⟩ := h.h5 e; exact ⟨p, h1, h2, by simpa using h3⟩, h.h45, h.c6, nofun⟩

theorem R4.lt4 (h : R4 A B va vb W5 N l0 l1 l2 l3 l4 l5 l6 l7 x11 x12 y20 y21 y22 y23 W) : l4 = true → ∀ q, x11 = .pointer (some ⟨q, 0, none⟩) → q < W.heap.size := fun e q hq => by
  obtain ⟨p, h1, -, h3⟩ := h.h4 e
  rw [hq] at h1
  cases h1
  exact h3.lt
theorem R4.lt5 (h : R4 A B va vb W5 N l0 l1 l2 l3 l4 l5 l6 l7 x11 x12 y20 y21 y22 y23 W) : l5 = true → ∀ q, x12 = .pointer (some ⟨q, 0, none⟩) → q < W.heap.size := fun e q hq => by
  obtain ⟨p, h1, -, h3⟩ := h.h5 e
  rw [hq] at h1
  cases h1
  exact h3.lt

theorem R4.put4 (h : R4 A B va vb W5 N l0 l1 l2 l3 false l5 l6 l7 x11 x12 y20 y21 y22 y23 (W.alloc (.cells #[.slice none 0 0] 26))) (hN : N + 7 ≤ W.heap.size) (hq : l5 = true → ∀ q, x12 = .pointer (some ⟨q, 0, none⟩) → q < W.heap.size) :
    R4 A B va vb W5 N l0 l1 l2 l3 true l5 l6 l7 (.pointer (some ⟨W.heap.size, 0, none⟩)) x12 y20 y21 y22 y23 (W.alloc (.cells #[.slice none 0 0] 26)) := by
  have h6 : l6 = false := by cases l6; rfl; exact absurd (h.c6 rfl).2 (by decide)
  subst h6
  exact ⟨h.below, h.h0, h.h1, h.h2, h.h3, fun _ => ⟨_, rfl, hN, by simpa using Boxed.new W 26 (.slice none 0 0)⟩, h.h5, fun _ e5 e => absurd (hq e5 _ e.symm) (Nat.lt_irrefl _), nofun, h.c7⟩

theorem R4.put5 (h : R4 A B va vb W5 N l0 l1 l2 l3 l4 false l6 l7 x11 x12 y20 y21 y22 y23 (W.alloc (.cells #[.slice none 0 0] 26))) (hN : N + 7 ≤ W.heap.size) (hq : l4 = true → ∀ q, x11 = .pointer (some ⟨q, 0, none⟩) → q < W.heap.size) :
    R4 A B va vb W5 N l0 l1 l2 l3 l4 true l6 l7 x11 (.pointer (some ⟨W.heap.size, 0, none⟩)) y20 y21 y22 y23 (W.alloc (.cells #[.slice none 0 0] 26)) := by
  have h7 : l7 = false := by cases l7; rfl; exact absurd (h.c7 rfl).2 (by decide)
  subst h7
  exact ⟨h.below, h.h0, h.h1, h.h2, h.h3, h.h4, fun _ => ⟨_, rfl, hN, by simpa using Boxed.new W 26 (.slice none 0 0)⟩, fun e4 _ e => absurd (hq e4 _ e) (Nat.lt_irrefl _), h.c6, nofun⟩

theorem Rw.set {M : List M3} {y : Int} {g p : Nat} {D : List Nat} {u : Value} (h : Rw W M y g D) (hb : ∃ v, Boxed W p 26 v) : Rw (W.setCell ⟨p, 0, none⟩ u) M y g D := by
  obtain ⟨v, hb⟩ := hb
  refine ⟨h.1.of (Below.heap_setCell W _ u g ?_), h.2⟩
  intro e
  have h1 : W.heap[g]? = some (.cells (nv D).toArray 3 (0, 0)) := h.1
  have h2 : W.heap[p]? = some (.cells #[v] 26 (0, 0)) := hb
  have e' : g = p := e
  rw [← e', h1] at h2
  simp only [Option.some.injEq, Obj.cells.injEq] at h2
  exact absurd h2.2.1 (by decide)

theorem R4.put6 {p : Nat} (h : R4 A B va vb W5 N l0 true l2 l3 true l5 false l7 (.pointer (some ⟨p, 0, none⟩)) x12 y20 y21 y22 y23 W) (z5 : W5.heap.size = N + 7) :
    R4 A B va vb W5 N l0 true l2 l3 true l5 true l7 (.pointer (some ⟨p, 0, none⟩)) x12 y20 y21 y22 y23 (W.setCell ⟨p, 0, none⟩ y21) := by
  obtain ⟨p', e, hp, hb⟩ := h.h4 rfl
  cases e
  simp only [Bool.false_eq_true, if_false] at hb
  refine ⟨h.below.setCell (by simp; omega) _, h.h0, fun e => ?_, h.h2, fun e => ?_, fun _ => ⟨p, rfl, hp, by simpa using hb.set y21⟩, fun e => ?_, h.h45, fun _ => ⟨rfl, rfl⟩, h.c7⟩
  · obtain ⟨g, D, h1, h2, h3⟩ := h.h1 e
    exact ⟨g, D, h1, h2, h3.set ⟨_, hb⟩⟩
  · obtain ⟨g, D, h1, h2, h3⟩ := h.h3 e
    exact ⟨g, D, h1, h2, h3.set ⟨_, hb⟩⟩
  · obtain ⟨q, h1, h2, h3⟩ := h.h5 e
    refine ⟨q, h1, h2, boxed_set h3 ?_⟩
    rintro rfl
    exact h.h45 rfl e h1.symm

theorem R4.put7 {p : Nat} (h : R4 A B va vb W5 N l0 l1 l2 true l4 true l6 false x11 (.pointer (some ⟨p, 0, none⟩)) y20 y21 y22 y23 W) (z5 : W5.heap.size = N + 7) :
    R4 A B va vb W5 N l0 l1 l2 true l4 true l6 true x11 (.pointer (some ⟨p, 0, none⟩)) y20 y21 y22 y23 (W.setCell ⟨p, 0, none⟩ y23) := by
  obtain ⟨p', e, hp, hb⟩ := h.h5 rfl
  cases e
  simp only [Bool.false_eq_true, if_false] at hb
  refine ⟨h.below.setCell (by simp; omega) _, h.h0, fun e => ?_, h.h2, fun e => ?_, fun e => ?_, fun _ => ⟨p, rfl, hp, by simpa using hb.set y23⟩, h.h45, h.c6, fun _ => ⟨rfl, rfl⟩⟩
  · obtain ⟨g, D, h1, h2, h3⟩ := h.h1 e
    exact ⟨g, D, h1, h2, h3.set ⟨_, hb⟩⟩
  · obtain ⟨g, D, h1, h2, h3⟩ := h.h3 e
    exact ⟨g, D, h1, h2, h3.set ⟨_, hb⟩⟩
  · obtain ⟨q, h1, h2, h3⟩ := h.h4 e
    refine ⟨q, h1, h2, boxed_set h3 ?_⟩
    rintro rfl
    exact h.h45 e rfl h1
end

theorem vOne_facts {M : List M3} (h : vOne M = true) : M.length ≤ 32 ∧ (∀ k, k < M.length → (0 ≤ (mq M k).y ∧ (mq M k).y ≤ 16) ∧ 1 ≤ (mq M k).z ∧ (mq M k).z ≤ 16) ∧
    ∀ a b, a < b → b < M.length → (mq M a).y < (mq M b).y ∨ ((mq M a).y = (mq M b).y ∧ (mq M a).z < (mq M b).z) := by
  by_cases h0 : M.length = 0
  · exact ⟨by omega, fun k hk => absurd hk (by omega), fun a b _ hb => absurd hb (by omega)⟩
  · unfold vOne at h
    rw [decide_eq_false h0, Bool.false_or] at h
    have hl := vMs_len h
    unfold vMs at h
    rw [Bool.and_eq_true, Bool.and_eq_true] at h
    obtain ⟨⟨-, h1⟩, h2⟩ := h
    have hb : badM (mq M 0).x (mq M 0).x M = false := by simpa using h1
    unfold badM at hb
    rw [List.any_eq_false] at hb
    have hk : ∀ k, k < M.length → (mq M k).x = (mq M 0).x ∧ (0 ≤ (mq M k).y ∧ (mq M k).y ≤ 16) ∧ 1 ≤ (mq M k).z ∧ (mq M k).z ≤ 16 := fun k hk => by
      have := hb k (List.mem_range.2 hk)
      unfold M3.ok at this
      rw [wi_one] at this
      unfold wi at this
      simp at this
      omega
    unfold risesM at h2
    rw [List.all_eq_true] at h2
    have hc : ∀ k, k + 1 < M.length → (mq M k).y < (mq M (k + 1)).y ∨ ((mq M k).y = (mq M (k + 1)).y ∧ (mq M k).z < (mq M (k + 1)).z) := fun k hk1 => by
      have := h2 k (List.mem_range.2 (by omega))
      unfold cmpK at this
      rw [cmpM_lt] at this
      have e1 := (hk k (by omega)).1
      have e2 := (hk (k + 1) hk1).1
      rw [if_pos (by omega)] at this
      split at this
      · rename_i e; exact .inr ⟨e, by simpa using this⟩
      · exact .inl (by simpa using this)
    refine ⟨hl, fun k hk' => (hk k hk').2, fun a b hab => ?_⟩
    obtain ⟨d, rfl⟩ : ∃ d, b = a + 1 + d := ⟨b - (a + 1), by omega⟩
    induction d with
    | zero => exact fun hb => hc a (by omega)
    | succ d ih =>
      intro hb
      have h3 := ih (by omega) (by omega)
      have h4 := hc (a + 1 + d) (by omega)
      rw [show a + 1 + (d + 1) = a + 1 + d + 1 by omega]
      omega

theorem rise_of {M : List M3} (h : vOne M = true) {W : World} {g : Nat} {D : List Nat} (hR : Rw W M 1 g D) : D = riseL (fun i => (mq M i).z) M.length tones := by
  obtain ⟨-, h1, h2⟩ := vOne_facts h
  obtain ⟨-, hp, ha⟩ := hR
  have hn : D.Pairwise (· ≠ ·) := hp.symm.nodup List.nodup_range
  refine rise_unique _ _ _ tones_lt (fun i hi => tones_mem (h1 i hi).2) hp (List.Pairwise.imp_of_mem ?_ (ha.and hn))
  intro a b hma hmb ⟨hc, hne⟩
  rw [cfB_lt M 1 (.inl rfl), if_pos rfl] at hc
  have la := List.mem_range.1 (hp.mem_iff.1 hma)
  have lb := List.mem_range.1 (hp.mem_iff.1 hmb)
  have hne' : a ≠ b := hne
  rcases Nat.lt_or_gt_of_ne hne' with hlt | hlt
  · omega
  · have := h2 b a hlt la
    omega

theorem fall_of {M : List M3} (h : vOne M = true) {W : World} {g : Nat} {D : List Nat} (hR : Rw W M (-1) g D) : D = fallL (fun i => (mq M i).z) M.length tones := by
  obtain ⟨-, h1, h2⟩ := vOne_facts h
  obtain ⟨-, hp, ha⟩ := hR
  have hn : D.Pairwise (· ≠ ·) := hp.symm.nodup List.nodup_range
  refine fall_unique _ _ _ tones_lt (fun i hi => tones_mem (h1 i hi).2) hp (List.Pairwise.imp_of_mem ?_ (ha.and hn))
  intro a b hma hmb ⟨hc, hne⟩
  rw [cfB_lt M (-1) (.inr rfl), if_neg (by decide)] at hc
  have la := List.mem_range.1 (hp.mem_iff.1 hma)
  have lb := List.mem_range.1 (hp.mem_iff.1 hmb)
  have hne' : a ≠ b := hne
  rcases Nat.lt_or_gt_of_ne hne' with hlt | hlt
  · have := h2 a b hlt lb
    omega
  · omega

/-- Whether there is a pairing, and the first one. -/
def opM (A B : List M3) (s : Int) : Bool := openT (runsM A B s) (fun i => (mq A i).z) (fun k => (mq B k).z) A.length B.length tones 0 fun _ => false
def grM (A B : List M3) (s : Int) : List Nat := greedy (runsM A B s) (fun i => (mq A i).z) (fun k => (mq B k).z) A.length B.length tones A.length 0 fun _ => false

set_option maxRecDepth 100000 in
set_option maxHeartbeats 4000000 in
theorem pairing_any (A B : List M3) (s : Int) (va vb : Value) (w : World) (sA : SlM w va A) (sB : SlM w vb B) (hs : 0 ≤ s ∧ s ≤ 16) (vA : vOne A = true) (vB : vOne B = true) :
    Calls Try.prog 53 #[va, vb, .int .i64 s] w fun e w' => ∃ g, e = .returned (.tuple #[.slice (some ⟨g, 0, none⟩) A.length A.length, .bool (opM A B s)]) ∧ w.heap.size ≤ g ∧ Below w.heap.size w w' ∧ (opM A B s = true → NB w' g (grM A B s)) := by
  have hlA := (vOne_facts vA).1
  have hlB := (vOne_facts vB).1
  obtain ⟨a, capa, hva, -⟩ := id sA
  obtain ⟨b, capb, hvb, -⟩ := id sB
  subst hva hvb
  have M1 := make26 A.length (by omega)
  obtain ⟨N, hN⟩ : ∃ N, w.heap.size = N := ⟨_, rfl⟩
  have bN : Below N w w := Below.refl _ _
  go_enter Try.func53, Try.ntmps53
  go_upto_region 1 with fail
  -- the three boxes
  have b0 := Boxed.new w 23 (.slice a A.length capa)
  have b1 := Boxed.new (w.alloc (.cells #[.slice a A.length capa] 23)) 23 (.slice b B.length capb)
  have b2 := Boxed.new ((w.alloc (.cells #[.slice a A.length capa] 23)).alloc (.cells #[.slice b B.length capb] 23)) 3 (.int .i64 s)
  replace b0 := (b0.alloc (.cells #[.slice b B.length capb] 23)).alloc (.cells #[.int .i64 s] 3)
  replace b1 := b1.alloc (.cells #[.int .i64 s] 3)
  simp only [World.size_alloc, hN] at b0 b1 b2
  have bl1 : Below N w (((w.alloc (.cells #[.slice a A.length capa] 23)).alloc (.cells #[.slice b B.length capb] 23)).alloc (.cells #[.int .i64 s] 3)) := ((bN.alloc (by omega) _).alloc (by simp; omega) _).alloc (by simp; omega) _
  have z1 : (((w.alloc (.cells #[.slice a A.length capa] 23)).alloc (.cells #[.slice b B.length capb] 23)).alloc (.cells #[.int .i64 s] 3)).heap.size = N + 3 := by simp [hN]
  obtain ⟨W1, hW1⟩ : ∃ W1, ((w.alloc (.cells #[.slice a A.length capa] 23)).alloc (.cells #[.slice b B.length capb] 23)).alloc (.cells #[.int .i64 s] 3) = W1 := ⟨_, rfl⟩
  simp only [hW1, show N + 1 + 1 = N + 2 from rfl] at b0 b1 b2 bl1 z1 ⊢
  clear hW1
  -- the closure of two marks
  have b3 := Boxed.new W1 116 (fRun N)
  rw [z1] at b3
  replace bl1 := bl1.alloc (by omega) (.cells #[fRun N] 116)
  replace b0 := b0.alloc (.cells #[fRun N] 116)
  replace b1 := b1.alloc (.cells #[fRun N] 116)
  replace b2 := b2.alloc (.cells #[fRun N] 116)
  have z2 : (W1.alloc (.cells #[fRun N] 116)).heap.size = N + 4 := by simp [z1]
  go_upto_region 2 with fail
  obtain ⟨W2, hW2⟩ : ∃ W2, W1.alloc (.cells #[fRun N] 116) = W2 := ⟨_, rfl⟩
  simp only [hW2] at b0 b1 b2 b3 bl1 z2 ⊢
  clear hW2 z1 W1
  -- the row of answers
  have n4 := NB.made A.length W2
  rw [z2] at n4
  have M2 := M1 W2
  rw [z2] at M2
  have c0 := b0.cell
  replace b0 := b0.alloc (.cells (madeCells #[.int .i64 0] A.length) 3)
  replace b1 := b1.alloc (.cells (madeCells #[.int .i64 0] A.length) 3)
  replace b2 := b2.alloc (.cells (madeCells #[.int .i64 0] A.length) 3)
  replace b3 := b3.alloc (.cells (madeCells #[.int .i64 0] A.length) 3)
  replace bl1 := bl1.alloc (by omega) (.cells (madeCells #[.int .i64 0] A.length) 3)
  have z3 : (W2.alloc (.cells (madeCells #[.int .i64 0] A.length) 3)).heap.size = N + 5 := by simp [z2]
  obtain ⟨W3, hW3⟩ : ∃ W3, W2.alloc (.cells (madeCells #[.int .i64 0] A.length) 3) = W3 := ⟨_, rfl⟩
  rw [hW3] at M2
  simp only [hW3] at b0 b1 b2 b3 bl1 z3 n4
  have b5 := Boxed.new W3 26 (.slice (some ⟨N + 4, 0, none⟩) A.length A.length)
  rw [z3] at b5
  replace b0 := b0.alloc (.cells #[.slice (some ⟨N + 4, 0, none⟩) A.length A.length] 26)
  replace b1 := b1.alloc (.cells #[.slice (some ⟨N + 4, 0, none⟩) A.length A.length] 26)
  replace b2 := b2.alloc (.cells #[.slice (some ⟨N + 4, 0, none⟩) A.length A.length] 26)
  replace b3 := b3.alloc (.cells #[.slice (some ⟨N + 4, 0, none⟩) A.length A.length] 26)
  replace n4 := n4.alloc (.cells #[.slice (some ⟨N + 4, 0, none⟩) A.length A.length] 26)
  replace bl1 := bl1.alloc (by omega) (.cells #[.slice (some ⟨N + 4, 0, none⟩) A.length A.length] 26)
  have z4 : (W3.alloc (.cells #[.slice (some ⟨N + 4, 0, none⟩) A.length A.length] 26)).heap.size = N + 6 := by simp [z3]
  clear M1
  go_upto_region 3 with fail
  obtain ⟨W4, hW4⟩ : ∃ W4, W3.alloc (.cells #[.slice (some ⟨N + 4, 0, none⟩) A.length A.length] 26) = W4 := ⟨_, rfl⟩
  simp only [hW4] at b0 b1 b2 b3 n4 b5 bl1 z4 ⊢
  clear hW4 hW3 M2 c0 z3 W3 z2 W2
  go_upto_region 4 with fail
  have u6 := UB.new W4
  rw [z4] at u6
  obtain ⟨W5, hW5⟩ : ∃ W5, W4.alloc (.cells (ub fun _ => false) 117) = W5 := ⟨_, rfl⟩
  have hP : Pre A B s (.slice a A.length capa) (.slice b B.length capb) w W5 N := by
    subst hW5
    exact ⟨bl1.alloc (by omega) _, hN, by simp [z4], b0.alloc _, b1.alloc _, b2.alloc _, b3.alloc _, n4.alloc _, b5.alloc _, u6⟩
  have z5 : W5.heap.size = N + 7 := by rw [← hW5]; simp [z4]
  change Code.wp _ _ _ _ (W4.alloc (.cells (ub fun _ => false) 117))
  rw [hW5]
  clear hW5 b0 b1 b2 b3 n4 b5 bl1 u6 z4 W4
  have HS1 : Hid (∀ W, Below W5.heap.size W5 W → Calls Try.prog 91 #[.slice a A.length capa, .int .i64 1] W fun e w' => ∃ g D, e = .returned (.slice (some ⟨g, 0, none⟩) A.length A.length) ∧ ByTone A 1 W w' g D) := Lib.hid fun W hb => by
    have h1 : Below w.heap.size w W := by rw [hP.sz]; exact hP.below.trans (hb.mono (by have := hP.size; omega))
    exact byTone_any _ A 1 (.inl rfl) W (sA.keep h1) (by omega)
  have HS2 : Hid (∀ W, Below W5.heap.size W5 W → Calls Try.prog 91 #[.slice b B.length capb, .int .i64 (-1)] W fun e w' => ∃ g D, e = .returned (.slice (some ⟨g, 0, none⟩) B.length B.length) ∧ ByTone B (-1) W w' g D) := Lib.hid fun W hb => by
    have h1 : Below w.heap.size w W := by rw [hP.sz]; exact hP.below.trans (hb.mono (by have := hP.size; omega))
    exact byTone_any _ B (-1) (.inr rfl) W (sB.keep h1) (by omega)
  have HP := Lib.hid hP
  clear hP bN
  refine wp_region_inv (fun listed a' W => ∃ l0 l1 l2 l3 l4 l5 l6 l7 x11 x12 y20 y21 y22 y23, listed = #[l0, l1, l2, l3, l4, l5, l6, l7] ∧
    a' = { tmps := #[.slice a A.length capa, .slice b B.length capb, .int .i64 s, .pointer (some ⟨N, 0, none⟩), .pointer (some ⟨N + 1, 0, none⟩), .pointer (some ⟨N + 2, 0, none⟩), .slice none 0 0, .bool false, .pointer (some ⟨N + 3, 0, none⟩), .pointer (some ⟨N + 5, 0, none⟩), .pointer (some ⟨N + 6, 0, none⟩), x11, x12, undef, undef, undef, fRun N, .slice a A.length capa, .int .i64 (A.length : Nat), .slice (some ⟨N + 4, 0, none⟩) A.length A.length, y20, y21, y22, y23, undef, undef, undef, undef, undef, undef], defers := [] } ∧
    R4 A B (.slice a A.length capa) (.slice b B.length capb) W5 N l0 l1 l2 l3 l4 l5 l6 l7 x11 x12 y20 y21 y22 y23 W) (by kernel_rfl) ?_ ?_ ?_
  · exact ⟨false, false, false, false, false, false, false, false, undef, undef, undef, undef, undef, undef, rfl, rfl, ⟨⟨rfl, rfl, rfl, Nat.le_refl _, fun _ _ => rfl⟩, nofun, nofun, nofun, nofun, nofun, nofun, nofun, nofun, nofun⟩⟩
  · rintro listed a' W i hsz ⟨l0, l1, l2, l3, l4, l5, l6, l7, x11, x12, y20, y21, y22, y23, rfl, rfl, h⟩ hr
    obtain ⟨hli, o, ho, hdep⟩ := mem_ready.1 hr
    clear hr hsz
    have hi8 : i < 8 := by have := (Array.getElem?_eq_some_iff.1 ho).1; simpa using this
    obtain rfl | rfl | rfl | rfl | rfl | rfl | rfl | rfl : i = 0 ∨ i = 1 ∨ i = 2 ∨ i = 3 ∨ i = 4 ∨ i = 5 ∨ i = 6 ∨ i = 7 := by omega
    · have c0 := keep_cell h.below HP.out.b0.cell
      refine wpOp_step (o := o) ho (fun K hK => ?_)
      have HK := Lib.hid hK
      clear hK
      simp only [List.getElem?_toArray, List.getElem?_cons_zero, Option.some.injEq] at ho
      subst ho
      have hdep' := fun e h1 h2 => hdep e h1 h2
      clear hdep
      rw [if_pos (show Region.wanted _ _ = true from rfl)]
      go_wp2_with fail
      exact HK.out _ _ ⟨true, l1, l2, l3, l4, l5, l6, l7, x11, x12, _, y21, y22, y23, rfl, rfl, ⟨h.below, fun _ => rfl, h.h1, h.h2, h.h3, h.h4, h.h5, h.h45, h.c6, h.c7⟩⟩
    · refine wpOp_step (o := o) ho (fun K hK => ?_)
      have HK := Lib.hid hK
      clear hK
      simp only [List.getElem?_toArray, List.getElem?_cons_zero, List.getElem?_cons_succ, Option.some.injEq] at ho
      subst ho
      have hdep' := fun e h1 h2 => hdep e h1 h2
      clear hdep
      rw [if_pos (show Region.wanted _ _ = true from rfl)]
      have hl0 : l0 = true := by simpa using hdep' ⟨0, .data⟩ (by simp) rfl
      have hl1 : l1 = false := by simpa using hli
      have hy := h.h0 hl0
      subst hy hl1
      have C := HS1.out W h.below
      have H := Lib.hid h
      have z := h.below.size
      clear h hdep' hli
      go_wp2_with fail
      refine C.mono ?_
      rintro e w' ⟨g, D, rfl, hb⟩
      exact HK.out _ _ ⟨l0, true, l2, l3, l4, l5, l6, l7, x11, x12, _, _, y22, y23, rfl, rfl, (H.out.keep hb.below).put1 ⟨g, D, rfl, by rw [← z5]; exact Nat.le_trans z hb.new, hb.row, hb.perm, hb.asc⟩⟩
    · have c0 := keep_cell h.below HP.out.b1.cell
      refine wpOp_step (o := o) ho (fun K hK => ?_)
      have HK := Lib.hid hK
      clear hK
      simp only [List.getElem?_toArray, List.getElem?_cons_zero, List.getElem?_cons_succ, Option.some.injEq] at ho
      subst ho
      have hdep' := fun e h1 h2 => hdep e h1 h2
      clear hdep
      rw [if_pos (show Region.wanted _ _ = true from rfl)]
      go_wp2_with fail
      exact HK.out _ _ ⟨l0, l1, true, l3, l4, l5, l6, l7, x11, x12, y20, y21, _, y23, rfl, rfl, ⟨h.below, h.h0, h.h1, fun _ => rfl, h.h3, h.h4, h.h5, h.h45, h.c6, h.c7⟩⟩
    · refine wpOp_step (o := o) ho (fun K hK => ?_)
      have HK := Lib.hid hK
      clear hK
      simp only [List.getElem?_toArray, List.getElem?_cons_zero, List.getElem?_cons_succ, Option.some.injEq] at ho
      subst ho
      have hdep' := fun e h1 h2 => hdep e h1 h2
      clear hdep
      rw [if_pos (show Region.wanted _ _ = true from rfl)]
      have hl2 : l2 = true := by simpa using hdep' ⟨2, .data⟩ (by simp) rfl
      have hl3 : l3 = false := by simpa using hli
      have hy := h.h2 hl2
      subst hy hl3
      have C := HS2.out W h.below
      have H := Lib.hid h
      have z := h.below.size
      clear h hdep' hli
      go_wp2_with fail
      refine C.mono ?_
      rintro e w' ⟨g, D, rfl, hb⟩
      exact HK.out _ _ ⟨l0, l1, l2, true, l4, l5, l6, l7, x11, x12, y20, y21, _, _, rfl, rfl, (H.out.keep hb.below).put3 ⟨g, D, rfl, by rw [← z5]; exact Nat.le_trans z hb.new, hb.row, hb.perm, hb.asc⟩⟩
    · refine wpOp_step (o := o) ho (fun K hK => ?_)
      have HK := Lib.hid hK
      clear hK
      simp only [List.getElem?_toArray, List.getElem?_cons_zero, List.getElem?_cons_succ, Option.some.injEq] at ho
      subst ho
      have hdep' := fun e h1 h2 => hdep e h1 h2
      clear hdep
      rw [if_pos (show Region.wanted _ _ = true from rfl)]
      have hl4 : l4 = false := by simpa using hli
      subst hl4
      have z := h.below.size
      go_wp2_with fail
      exact HK.out _ _ ⟨l0, l1, l2, l3, true, l5, l6, l7, _, x12, y20, y21, y22, y23, rfl, rfl, (h.keep ((Below.refl _ W).alloc (Nat.le_refl _) _)).put4 (by rw [← z5]; exact z) h.lt5⟩
    · refine wpOp_step (o := o) ho (fun K hK => ?_)
      have HK := Lib.hid hK
      clear hK
      simp only [List.getElem?_toArray, List.getElem?_cons_zero, List.getElem?_cons_succ, Option.some.injEq] at ho
      subst ho
      have hdep' := fun e h1 h2 => hdep e h1 h2
      clear hdep
      rw [if_pos (show Region.wanted _ _ = true from rfl)]
      have hl5 : l5 = false := by simpa using hli
      subst hl5
      have z := h.below.size
      go_wp2_with fail
      exact HK.out _ _ ⟨l0, l1, l2, l3, l4, true, l6, l7, x11, _, y20, y21, y22, y23, rfl, rfl, (h.keep ((Below.refl _ W).alloc (Nat.le_refl _) _)).put5 (by rw [← z5]; exact z) h.lt4⟩
    · refine wpOp_step (o := o) ho (fun K hK => ?_)
      have HK := Lib.hid hK
      clear hK
      simp only [List.getElem?_toArray, List.getElem?_cons_zero, List.getElem?_cons_succ, Option.some.injEq] at ho
      subst ho
      have hdep' := fun e h1 h2 => hdep e h1 h2
      clear hdep
      rw [if_pos (show Region.wanted _ _ = true from rfl)]
      have hl1 : l1 = true := by simpa using hdep' ⟨1, .data⟩ (by simp) rfl
      have hl4 : l4 = true := by simpa using hdep' ⟨4, .data⟩ (by simp) rfl
      have hl6 : l6 = false := by simpa using hli
      subst hl1 hl4 hl6
      obtain ⟨p, rfl, hp, hb⟩ := h.h4 rfl
      have cb := hb.cell
      have fb := hb.frozen
      obtain ⟨g, D, rfl, hg, hR⟩ := h.h1 rfl
      simp only [Bool.false_eq_true, if_false] at cb
      clear hdep' hli
      go_wp2_with fail
      exact HK.out _ _ ⟨l0, true, l2, l3, true, l5, true, l7, _, x12, y20, _, y22, y23, rfl, rfl, h.put6 z5⟩
    · refine wpOp_step (o := o) ho (fun K hK => ?_)
      have HK := Lib.hid hK
      clear hK
      simp only [List.getElem?_toArray, List.getElem?_cons_zero, List.getElem?_cons_succ, Option.some.injEq] at ho
      subst ho
      have hdep' := fun e h1 h2 => hdep e h1 h2
      clear hdep
      rw [if_pos (show Region.wanted _ _ = true from rfl)]
      have hl3 : l3 = true := by simpa using hdep' ⟨3, .data⟩ (by simp) rfl
      have hl5 : l5 = true := by simpa using hdep' ⟨5, .data⟩ (by simp) rfl
      have hl7 : l7 = false := by simpa using hli
      subst hl3 hl5 hl7
      obtain ⟨p, rfl, hp, hb⟩ := h.h5 rfl
      have cb := hb.cell
      have fb := hb.frozen
      obtain ⟨g, D, rfl, hg, hR⟩ := h.h3 rfl
      simp only [Bool.false_eq_true, if_false] at cb
      clear hdep' hli
      go_wp2_with fail
      exact HK.out _ _ ⟨l0, l1, l2, true, l4, true, l6, true, x11, _, y20, y21, y22, _, rfl, rfl, h.put7 z5⟩
  · rintro listed a' W ⟨l0, l1, l2, l3, l4, l5, l6, l7, x11, x12, y20, y21, y22, y23, rfl, rfl, h⟩ hnil
    have all : ∀ i, i < 8 → (#[l0, l1, l2, l3, l4, l5, l6, l7] : Array Bool).getD i true = true := by
      have step : ∀ i, i < 8 → (∀ j, j < i → (#[l0, l1, l2, l3, l4, l5, l6, l7] : Array Bool).getD j true = true) → (#[l0, l1, l2, l3, l4, l5, l6, l7] : Array Bool).getD i true = true := by
        intro i hi hj
        cases hb : (#[l0, l1, l2, l3, l4, l5, l6, l7] : Array Bool).getD i true
        · exfalso
          refine List.not_mem_nil (a := i) ?_
          rw [← hnil, mem_ready]
          refine ⟨hb, ?_⟩
          have hj' : ∀ j, j < i → (#[l0, l1, l2, l3, l4, l5, l6, l7] : Array Bool).getD j false = true := fun j hji => by
            have := hj j hji
            simp only [Array.getD_eq_getD_getElem?] at this ⊢
            have hlt : j < (#[l0, l1, l2, l3, l4, l5, l6, l7] : Array Bool).size := by simp; omega
            rw [Array.getElem?_eq_getElem hlt] at this ⊢
            exact this
          obtain rfl | rfl | rfl | rfl | rfl | rfl | rfl | rfl : i = 0 ∨ i = 1 ∨ i = 2 ∨ i = 3 ∨ i = 4 ∨ i = 5 ∨ i = 6 ∨ i = 7 := by omega
          all_goals
            refine ⟨_, rfl, fun e he _ => hj' _ ?_⟩
            simp at he
            try (rcases he with rfl | rfl | rfl | rfl | rfl | rfl | rfl | rfl | rfl | rfl <;> decide)
            try (rcases he with rfl | rfl <;> decide)
            try (subst he; decide)
        · rfl
      intro i
      induction i using Nat.strongRecOn with
      | _ i ih => exact fun hi => step i hi fun j hj => ih j hj (by omega)
    have e0 : l0 = true := all 0 (by omega)
    have e1 : l1 = true := all 1 (by omega)
    have e2 : l2 = true := all 2 (by omega)
    have e3 : l3 = true := all 3 (by omega)
    have e4 : l4 = true := all 4 (by omega)
    have e5 : l5 = true := all 5 (by omega)
    have e6 : l6 = true := all 6 (by omega)
    have e7 : l7 = true := all 7 (by omega)
    clear all hnil
    subst e0 e1 e2 e3 e4 e5 e6 e7
    obtain ⟨p, rfl, hp, hbp⟩ := h.h4 rfl
    obtain ⟨q, rfl, hq, hbq⟩ := h.h5 rfl
    obtain ⟨g, D, rfl, hg, hR⟩ := h.h1 rfl
    obtain ⟨g', D', rfl, hg', hF⟩ := h.h3 rfl
    have hP := HP.out
    have P' := HP.out.keep h.below
    have HDr := Lib.hid (rise_of vA hR)
    have HDf := Lib.hid (fall_of vB hF)
    simp only [if_true] at hbp hbq
    clear h
    go_upto_region 6 with fail
    obtain ⟨fO, hfO⟩ : ∃ fO, Value.func (.func 92) #[] #[.pointer (some ⟨p, 0, none⟩), .pointer (some ⟨q, 0, none⟩), .pointer (some ⟨N + 6, 0, none⟩), .pointer (some ⟨N + 3, 0, none⟩)] = fO := ⟨_, rfl⟩
    obtain ⟨S, hS⟩ : ∃ S, W.heap.size = S := ⟨_, rfl⟩
    have HFO := Lib.hid hfO
    have HSS := Lib.hid hS
    rw [hfO, hS]
    obtain ⟨W6, hW6⟩ : ∃ W6, W.alloc (.cells #[fO] 72) = W6 := ⟨_, rfl⟩
    have z6 : W6.heap.size = S + 1 := by rw [← hW6, World.size_alloc, hS]
    have HW6 := Lib.hid hW6
    rw [hW6]
    clear hW6 hfO hS
    go_upto_region 8 with fail
    obtain ⟨fS, hfS⟩ : ∃ fS, Value.func (.func 98) #[] #[.pointer (some ⟨S, 0, none⟩), .pointer (some ⟨N, 0, none⟩), .pointer (some ⟨N + 1, 0, none⟩), .pointer (some ⟨N + 6, 0, none⟩), .pointer (some ⟨N + 3, 0, none⟩), .pointer (some ⟨N + 5, 0, none⟩), .pointer (some ⟨S + 1, 0, none⟩)] = fS := ⟨_, rfl⟩
    have HFS := Lib.hid hfS
    obtain ⟨W7, hW7⟩ : ∃ W7, W6.alloc (.cells #[fS] 72) = W7 := ⟨_, rfl⟩
    rw [hfS, hW7]
    have hb6 : Below W.heap.size W W6 := by rw [← HW6.out]; exact (Below.refl _ W).alloc (Nat.le_refl _) _
    have hb7 : Below W6.heap.size W6 W7 := by rw [← hW7]; exact (Below.refl _ W6).alloc (Nat.le_refl _) _
    have hb67 := keep_below hb6 hb7
    have P7 := P'.keep hb67
    have bO : Boxed W7 S 72 fO := by
      have := Boxed.new W 72 fO
      rw [HW6.out, HSS.out] at this
      exact boxed_keep hb7 this
    have bS : Boxed W7 (S + 1) 72 fS := by
      have := Boxed.new W6 72 fS
      rwa [hW7, z6] at this
    have zS : N + 7 ≤ S := by rw [← HSS.out]; exact P'.size
    have hbp7 := boxed_keep hb67 hbp
    have hbq7 := boxed_keep hb67 hbq
    have hR7 := hR.keep hb67
    have hF7 := hF.keep hb67
    have sA7 : SlM W7 (.slice a A.length capa) A := sA.keep (by rw [P7.sz]; exact P7.below)
    have sB7 : SlM W7 (.slice b B.length capb) B := sB.keep (by rw [P7.sz]; exact P7.below)
    obtain ⟨hlA', fA, -⟩ := vOne_facts vA
    obtain ⟨hlB', fB, -⟩ := vOne_facts vB
    obtain ⟨C, hC⟩ : ∃ C : Cfg, C = { A := A, B := B, s := s, pa := N, pb := N + 1, ps := N + 2, p8 := N + 3, p9 := N + 5, p10 := N + 6, p11 := p, p12 := q, p13 := S, p14 := S + 1, gR := g, gF := g', gO := N + 4, va := .slice a A.length capa, vb := .slice b B.length capb, R := D, F := D' } := ⟨_, rfl⟩
    have lD : D.length = A.length := by simpa using hR.2.1.length_eq
    have lD' : D'.length = B.length := by simpa using hF.2.1.length_eq
    have ok : C.Ok := by
      subst hC
      refine ⟨hs, fun k hk => (fA k hk).1, fun k hk => (fB k hk).1, hlA', hlB', fun i hi => tones_mem (fA i hi).2, fun i hi => tones_mem (fB i hi).2, HDr.out, HDf.out,
        fun k hk => List.mem_range.1 (hR.2.1.mem_iff.1 hk), fun k hk => List.mem_range.1 (hF.2.1.mem_iff.1 hk), by simp only; omega, by simp only; omega, ?_, by simp only; omega, ?_, ?_⟩
      · intro x hx
        simp only [List.mem_cons, List.not_mem_nil, or_false] at hx
        simp only
        omega
      · intro x off n c e hn
        simp only at e ⊢
        have hx : x < N := by
          obtain ⟨a', cap', e', -, hc⟩ := sA
          simp only [Value.slice.injEq] at e e'
          obtain ⟨rfl, rfl, rfl⟩ := e
          obtain ⟨rfl, -, rfl⟩ := e'
          obtain ⟨b', off', e2, c0, -⟩ := hc 0 hn
          cases e2
          rw [← P7.sz]
          exact World.block_lt_of_cell? w _ c0
        omega
      · intro x off n c e hn
        simp only at e ⊢
        have hx : x < N := by
          obtain ⟨a', cap', e', -, hc⟩ := sB
          simp only [Value.slice.injEq] at e e'
          obtain ⟨rfl, rfl, rfl⟩ := e
          obtain ⟨rfl, -, rfl⟩ := e'
          obtain ⟨b', off', e2, c0, -⟩ := hc 0 hn
          cases e2
          rw [← P7.sz]
          exact World.block_lt_of_cell? w _ c0
        omega
    have at7 : C.At W7 (fun _ => false) (List.replicate A.length 0) := by
      subst hC
      exact ⟨⟨P7.b0.cell, P7.b1.cell, P7.b2.cell, sA7, sB7, P7.b3.cell, by simp only; rw [lD]; exact hbp7.cell, by simp only; rw [lD']; exact hbq7.cell, hR7.1, hF7.1, P7.u6⟩,
        P7.b5.cell, P7.n4, by simp, by rw [bO.cell, ← HFO.out], by rw [bS.cell, ← HFS.out]⟩
    have C3 : Calls Try.prog 98 #[.int .i64 0, .pointer (some ⟨S, 0, none⟩), .pointer (some ⟨N, 0, none⟩), .pointer (some ⟨N + 1, 0, none⟩), .pointer (some ⟨N + 6, 0, none⟩), .pointer (some ⟨N + 3, 0, none⟩), .pointer (some ⟨N + 5, 0, none⟩), .pointer (some ⟨S + 1, 0, none⟩)] W7
        fun e w' => e = .returned (.bool (opM A B s)) ∧ (w'.cell? ⟨N + 5, 0, none⟩ = some (.slice (some ⟨N + 4, 0, none⟩) A.length A.length) ∧ Below N w w' ∧ (opM A B s = true → NB w' (N + 4) (grM A B s))) := by
      have := search_any C ok A.length 0 (fun _ => false) (List.replicate A.length 0) W7 (by rw [hC]; simp) at7
      subst hC
      refine this.mono fun e w' ⟨he, U', O', hat, hk, _, hT⟩ => ⟨he, hat.c9, ?_, fun e => ?_⟩
      · have hPb := P7.below
        have hPs := P7.size
        refine ⟨hk.os.trans hPb.os, hk.tape.trans hPb.tape, hk.output.trans hPb.output, Nat.le_trans hPb.size hk.size, fun k hkN => ?_⟩
        simp only at hk
        exact (hk.block k (by omega) (by omega) (by omega)).trans (hPb.block k hkN)
      · have h1 := hT e
        have h2 := hat.nO
        rw [h1, List.take_zero, List.nil_append] at h2
        exact h2
    have cS := bS.cell
    rw [← HFS.out] at cS
    have hwN := P7.sz
    obtain ⟨r, hr⟩ : ∃ r, opM A B s = r := ⟨_, rfl⟩
    rw [hr] at C3
    have HRR := Lib.hid hr
    clear hr hfS at7 ok bO bS hbp7 hbq7 hR7 hF7 sA7 sB7 P7 P' hb67 hb6 hb7 fA fB hbp hbq hR hF HDr HDf hC C lD lD' HS1 HS2 HP sA sB vA vB hs HW6 z6 hW7 z5
    rw [← HFS.out]
    go_wp2_with (first | (go_at_call 98; with_reducible refine C3.mono ?_; rintro e w8 ⟨rfl, c9, hbl, hT⟩))
    go_ret2
    exact ⟨N + 4, by rw [HRR.out]; rfl, by omega, by rw [hwN]; exact hbl, by rw [HRR.out]; exact hT⟩

end Go.Proofs.Ytiebbbeijlfedaa
