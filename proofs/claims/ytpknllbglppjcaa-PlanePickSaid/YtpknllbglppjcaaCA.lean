/- The abstract machine, part CA. -/
import Derived.RangeFuncNested
import Derived.RangeFuncBound
import Derived.RangeFuncCalls
import Derived.RangeFuncLeaves
import Derived.Test.YtpknllbglppjcaaDA
import Derived.Lib.Hide
import Derived.RangeFuncBox
/- A loop over an iterator that hands out a row of its own, and writes that row between two rounds. -/
namespace Go.Abs
open Go Go.RowKit

variable {F : Fence} {n : Nat} {P : Program} {α : Type}

/-- It stays where one block at or beyond B turns. -/
def Past (B : Nat) (I : List α → World → Prop) : Prop := ∀ s X Y row, I s X → X.grownBy Y row → (∀ r, row = some r → B ≤ r) → I s Y

theorem Past.put {B : Nat} {I : List α → World → Prop} (h : Past B I) {s : List α} {W : World} {l : Nat} (o : Obj) (hs : I s W) (hl : B ≤ l) : I s (W.putObj l o) :=
  h s W _ (some l) hs (grownBy_putObj' W l o) fun r e => by cases e; exact hl

theorem Past.new {B : Nat} {I : List α → World → Prop} (h : Past B I) {s : List α} {W : World} (o : Obj) (hs : I s W) : I s (W.alloc o) :=
  h s W _ none hs (World.grownBy_alloc W o none) fun r e => by cases e

theorem Past.and {B : Nat} {I J : List α → World → Prop} (h : Past B I) (k : Past B J) : Past B fun s W => I s W ∧ J s W :=
  fun s X Y row hs hg hr => ⟨h s X Y row hs.1 hg hr, k s X Y row hs.2 hg hr⟩

/-- What a round that goes on must leave: all cells. -/
structure KeepsRows (W W' : World) : Prop where
  size : W.heap.size ≤ W'.heap.size
  same : ∀ (k : Nat) (o : Obj), W.heap[k]? = some o → o.isCells = true → W'.heap[k]? = some o

theorem KeepsRows.refl (W : World) : KeepsRows W W := ⟨Nat.le_refl _, fun _ _ h _ => h⟩
theorem KeepsRows.trans {X Y Z : World} (h : KeepsRows X Y) (k : KeepsRows Y Z) : KeepsRows X Z := ⟨Nat.le_trans h.size k.size, fun i o hi ho => k.same i o (h.same i o hi ho) ho⟩
theorem KeepsRows.put {W : World} {l : Nat} {o : Obj} (o' : Obj) (hl : W.heap[l]? = some o) (ho : o.isCells = false) : KeepsRows W (W.putObj l o') :=
  ⟨by simp, fun k u hk hu => by
    rw [World.putObj_heap_other]
    · exact hk
    · rintro rfl
      rw [hl] at hk; cases hk; rw [ho] at hu; cases hu⟩
theorem KeepsRows.below {W W' : World} (h : Below W.heap.size W W') : KeepsRows W W' := ⟨h.size, fun k _ hk _ => (h.block k (Array.getElem?_eq_some_iff.1 hk).1).trans hk⟩
theorem KeepsRows.cell {W W' : World} (h : KeepsRows W W') {b o : Nat} {v : Value} (hc : W.cell? ⟨b, o, none⟩ = some v) : W'.cell? ⟨b, o, none⟩ = some v := by
  cases ho : W.heap[b]? with
  | none => simp [World.cell?, ho] at hc
  | some u =>
    have : u.isCells = true := by cases u <;> first | rfl | (simp [World.cell?, ho] at hc)
    have h2 := h.same b u ho this
    unfold World.cell? at hc ⊢
    simp only [ho] at hc
    simp only [h2]
    exact hc

end Go.Abs

/- A row of numbers in a block of its own. -/
namespace Go.Abs
open Go Go.RowKit Go.Plain

/-- Block g holds the numbers f 0 .. f (s - 1). -/
structure RowAt (W : World) (g s : Nat) (f : Nat → Nat) : Prop where
  lt : g < W.heap.size
  cell : ∀ k, k < s → W.cell? ⟨g, k, none⟩ = some (.int .i64 (f k : Nat))
  thaw : ∀ k, k < s → W.frozen? ⟨g, k, none⟩ = false

theorem grownBy_set (W : World) (b o : Nat) (v : Value) : W.grownBy (W.setCell ⟨b, o, none⟩ v) (some b) :=
  ⟨rfl, rfl, rfl, (KeepsOthers.setCell W _ v).size, fun k _ hk => Below.heap_setCell _ _ _ k (fun e => hk (by rw [e]))⟩

theorem cell_block {W X : World} {b o : Nat} (h : X.heap[b]? = W.heap[b]?) : X.cell? ⟨b, o, none⟩ = W.cell? ⟨b, o, none⟩ := World.cell?_of_block h
theorem frozen_block {W X : World} {b o : Nat} (h : X.heap[b]? = W.heap[b]?) : X.frozen? ⟨b, o, none⟩ = W.frozen? ⟨b, o, none⟩ := World.frozen?_of_block h

theorem RowAt.block {W X : World} {g s : Nat} {f : Nat → Nat} (h : RowAt W g s f) (e : X.heap[g]? = W.heap[g]?) (hz : g < X.heap.size) : RowAt X g s f :=
  ⟨hz, fun k hk => (cell_block e).trans (h.cell k hk), fun k hk => (frozen_block e).trans (h.thaw k hk)⟩

theorem RowAt.below {W X : World} {g s : Nat} {f : Nat → Nat} (h : RowAt W g s f) (hb : Below W.heap.size W X) : RowAt X g s f :=
  h.block (hb.block g h.lt) (Nat.lt_of_lt_of_le h.lt hb.size)

theorem RowAt.put {W : World} {g s l : Nat} {f : Nat → Nat} (h : RowAt W g s f) (o : Obj) (hl : g ≠ l) : RowAt (W.putObj l o) g s f :=
  h.block (World.putObj_heap_other hl) (by simpa using h.lt)

theorem RowAt.rows {W X : World} {g s : Nat} {f : Nat → Nat} (h : RowAt W g s f) (hk : KeepsRows W X) (hs : 0 < s) : RowAt X g s f := by
  have hc := h.cell 0 hs
  cases ho : W.heap[g]? with
  | none => simp [World.cell?, ho] at hc
  | some u =>
    have hu : u.isCells = true := by cases u <;> first | rfl | (simp [World.cell?, ho] at hc)
    have e := hk.same g u ho hu
    exact h.block (e.trans ho.symm) (Nat.lt_of_lt_of_le h.lt hk.size)

theorem RowAt.change {W : World} {g s : Nat} {f f' : Nat → Nat} (h : RowAt W g s f) (e : ∀ k, k < s → f k = f' k) : RowAt W g s f' :=
  ⟨h.lt, fun k hk => by rw [← e k hk]; exact h.cell k hk, h.thaw⟩

theorem RowAt.set {W : World} {g s : Nat} {f f' : Nat → Nat} (h : RowAt W g s f) {i : Nat} (hi : i < s) (v : Nat) (hv : f' i = v) (he : ∀ k, k < s → k ≠ i → f' k = f k) : RowAt (W.setCell ⟨g, i, none⟩ (.int .i64 (v : Nat))) g s f' := by
  refine ⟨Nat.lt_of_lt_of_le h.lt (grownBy_set W g i _).size, fun k hk => ?_, fun k hk => by rw [World.frozen?_setCell]; exact h.thaw k hk⟩
  by_cases hki : k = i
  · subst hki
    rw [hv]
    exact World.cell?_setCell_same _ _ _ (h.cell k hk)
  · rw [he k hk hki]
    rw [World.cell?_setCell_other]
    · exact h.cell k hk
    · intro e
      cases e
      exact hki rfl

/-- What has been shown: lists in the one block, and all that are before f. -/
structure Shown (n s g : Nat) (pre : List (Nat × (Nat → Nat))) (f : Nat → Nat) : Prop where
  one : ∀ x ∈ pre, x.1 = g ∧ Cho n s x.2
  all : ∀ h, Cho n s h → Lex s h f → ∃ x ∈ pre, Same s h x.2

theorem Shown.start {n s g : Nat} {f : Nat → Nat} (hf : ∀ i, i < s → f i = i) : Shown n s g [] f := ⟨(fun x hx => by cases hx), fun h hh hl => absurd hl (lex_first hf hh)⟩

theorem Shown.next {n s g k : Nat} {pre : List (Nat × (Nat → Nat))} {f : Nat → Nat} (h : Shown n s g pre f) (hf : Cho n s f) (hk : k < s) (hlast : ∀ i, k < i → i < s → f i + s = n + i) : Shown n s g (pre ++ [(g, f)]) (nxt f k) :=
  ⟨fun x hx => (List.mem_append.1 hx).elim (h.one x) (fun h1 => by rw [List.mem_singleton.1 h1]; exact ⟨rfl, hf⟩), fun u hu hl => by
    rcases lex_nxt hk hlast hu hl with h1 | h1
    · obtain ⟨x, hx, e⟩ := h.all u hu h1
      exact ⟨x, List.mem_append_left _ hx, e⟩
    · exact ⟨(g, f), by simp, h1⟩⟩

/-- All have been shown. -/
theorem Shown.whole {n s g : Nat} {pre : List (Nat × (Nat → Nat))} {f : Nat → Nat} (h : Shown n s g pre f) (hlast : ∀ i, i < s → f i + s = n + i) : ∀ u, Cho n s u → ∃ x ∈ pre ++ [(g, f)], Same s u x.2 := fun u hu => by
  rcases lex_last hlast hu with h1 | h1
  · obtain ⟨x, hx, e⟩ := h.all u hu h1
    exact ⟨x, List.mem_append_left _ hx, e⟩
  · exact ⟨(g, f), by simp, h1⟩

end Go.Abs

/- A function that leaves with several marks. -/
namespace Go.Abs
open Go Go.RowKit

variable {F : Fence} {n : Nat} {P : Program}

def Opens (W : World) (Ds : List Nat) : Prop := ∀ D ∈ Ds, W.heap[D]? = some (.deferred (some []))

theorem Opens.tail {W : World} {D : Nat} {Ds : List Nat} (h : Opens W (D :: Ds)) (hn : (D :: Ds).Nodup) (o : Obj) : Opens (W.putObj D o) Ds := fun E hE =>
  (World.putObj_heap_other (fun e => (List.nodup_cons.1 hn).1 (by rw [← e]; exact hE))).trans (h E (List.mem_cons_of_mem _ hE))

end Go.Abs
