/- The abstract machine, part LE. -/
import Derived.Test.YtcfapbccegijnaaGreatAbsC
import Derived.Test.YtcfapbccegijnaaGreatLA
import Derived.RangeFuncNested
import Derived.RangeFuncBound
import Derived.RangeFuncCalls
import Derived.RangeFuncLeaves
import Derived.Shelf.Abstract
import Derived.Shelf.RegionOpen
import Derived.WalkKit
import Derived.OwnWalkIn
import Derived.TacticsInMore
import Derived.LoopNIn
import Derived.LoopIn
import Derived.Lib.Hide
/- A region that draws its order, in a fence: what leads up to its end only reads; the end comes last in every order. -/
namespace Go.Abs
open Go Go.RowKit

structure Lead (ops : Array Oper) (m : Nat) (a a1 a' : Act) (listed : Array Bool) : Prop where
  size : listed.size = ops.size
  closed : Closed ops listed
  tail : ∀ i, m ≤ i → isIn listed i = false
  defers : a'.defers = a.defers
  len : a'.tmps.size = a.tmps.size
  done : ∀ t j, j < m → isIn listed j = true → dstOf ops j = some t → a'.tmps[t]? = a1.tmps[t]?
  rest : ∀ t, (∀ j, j < m → isIn listed j = true → dstOf ops j ≠ some t) → a'.tmps[t]? = a.tmps[t]?

variable {F : Fence} {n m : Nat} {P : Program} {ops : Array Oper} {Q : Exit → Act → World → Prop} {a a1 : Act} {w : World}

end Go.Abs

/- The law on regions with a lead, told by a list of slots and values. -/
namespace Go.Abs
open Go Go.RowKit

variable {F : Fence} {n m : Nat} {P : Program} {ops : Array Oper} {Q : Exit → Act → World → Prop} {a a1 : Act} {w : World}

/-- Each operation yields what the frame holds in its slot. -/
def Runs (P : Program) (a1 : Act) (w : World) : List Oper → Prop
  | [] => True
  | o :: l => (∀ d, o.dst = some d → (execOp a1.eval o).run P w = .ok (.value (a1.eval (.tmp d))) w ∧ d < a1.tmps.size) ∧ Runs P a1 w l

theorem Runs.get : ∀ {l : List Oper}, Runs P a1 w l → ∀ (i : Nat) (o : Oper), l[i]? = some o → ∀ d, o.dst = some d → (execOp a1.eval o).run P w = .ok (.value (a1.eval (.tmp d))) w ∧ d < a1.tmps.size
  | [], _, i, o, h => by simp at h
  | o' :: l, hr, 0, o, h => by simp at h; subst h; exact hr.1
  | o' :: l, hr, i + 1, o, h => hr.2.get i o (by simpa using h)

/-- The list of what is listed, once all of the lead is. -/
def ledList (n m : Nat) : Array Bool := (List.replicate m true ++ List.replicate (n - m) false).toArray

theorem listed_eq {listed : Array Bool} {n m : Nat} (hm : m ≤ n) (hs : listed.size = n) (h1 : ∀ i, i < m → isIn listed i = true) (h2 : ∀ i, m ≤ i → isIn listed i = false) : listed = ledList n m := by
  apply Array.ext_getElem?
  intro i
  unfold ledList
  have e0 : (List.replicate m true ++ List.replicate (n - m) false).toArray[i]? = (List.replicate m true ++ List.replicate (n - m) false)[i]? := List.getElem?_toArray ..
  rw [e0]
  by_cases hl : i < n
  · have e1 : listed[i]? = some (listed.getD i false) := by simp [Array.getD_eq_getD_getElem?, show i < listed.size by omega]
    rw [e1]
    by_cases him : i < m
    · have := h1 i him
      unfold isIn at this
      rw [this, List.getElem?_append_left (by simpa using him)]
      simp [him]
    · have := h2 i (by omega)
      unfold isIn at this
      rw [this, List.getElem?_append_right (by simp; omega), List.length_replicate, List.getElem?_replicate, if_pos (by omega)]
  · rw [Array.getElem?_eq_none (by omega), List.getElem?_eq_none (by simp; omega)]

end Go.Abs

/- Two points compared. -/
namespace Go.Proofs.YtcfapbccegijnaaGreat
open Go Go.RowKit Go.Proofs

end Go.Proofs.YtcfapbccegijnaaGreat

/- The iterator over the corners of a closed polygon: its contract. -/
namespace Go.Proofs.YtcfapbccegijnaaGreat
open Go Go.RowKit Go.Proofs Go.Abs

attribute [local go_sem] Oper.semAt_some

/-- What a round must keep: what lay below n, and the block B. -/
structure KeepC (n B : Nat) (W W' : World) : Prop where
  size : W.heap.size ≤ W'.heap.size
  same : ∀ k, k < n ∨ k = B → W'.heap[k]? = W.heap[k]?

theorem KeepC.refl (n B : Nat) (W : World) : KeepC n B W W := ⟨Nat.le_refl _, fun _ _ => rfl⟩
theorem KeepC.trans {n B : Nat} {X Y Z : World} (h : KeepC n B X Y) (k : KeepC n B Y Z) : KeepC n B X Z := ⟨Nat.le_trans h.size k.size, fun i hi => (k.same i hi).trans (h.same i hi)⟩
theorem KeepC.cell {n B : Nat} {W W' : World} (h : KeepC n B W W') {b o : Nat} {v : Value} (hb : b < n ∨ b = B) (hc : W.cell? ⟨b, o, none⟩ = some v) : W'.cell? ⟨b, o, none⟩ = some v := by
  rw [World.cell?_of_block (h.same b hb)]; exact hc
theorem KeepC.below {n B : Nat} {W W' : World} (h : Below W.heap.size W W') (hn : n ≤ W.heap.size) (hB : B < W.heap.size) : KeepC n B W W' := ⟨h.size, fun k hk => h.block k (by omega)⟩

end Go.Proofs.YtcfapbccegijnaaGreat

/- Walks: straight, doubled. -/
namespace Go.Proofs.YtcfapbccegijnaaGreat
open Go Go.RowKit Go.Proofs Go.Shelf

attribute [local go_sem] Oper.semAt_some

/-- A block that holds a corner. -/
def Box6 (W : World) (B : Nat) (v : Value) : Prop := ∃ c, v = .agg c ∧ W.heap[B]? = some (.cells c 168 (0, 0))

theorem Box6.cell {W : World} {B : Nat} {c : Array Value} (h : Box6 W B (.agg c)) {o : Nat} {v : Value} (ho : c[o]? = some v) : W.cell? ⟨B, o, none⟩ = some v := by
  obtain ⟨c', e, hb⟩ := h
  cases e
  unfold World.cell?
  simp [hb, ho]

theorem Box6.own {W X : World} {B B' : Nat} {v : Value} {row : Option Nat} (h : Box6 W B v) (hg : W.grownBy X row) (hr : ∀ r, row = some r → B' ≤ r ∧ ∃ o : Obj, W.heap[r]? = some o ∧ o.isCells = false) : Box6 X B v := by
  obtain ⟨c, e, hb⟩ := h
  refine ⟨c, e, ?_⟩
  rw [hg.block B (Array.getElem?_eq_some_iff.1 hb).1 (fun e' => by
    obtain ⟨_, o, ho, hc⟩ := hr B e'.symm
    rw [hb] at ho; cases ho; cases hc)]
  exact hb

theorem Box6.new (W : World) (c : Array Value) : Box6 (W.alloc (.cells c 168)) W.heap.size (.agg c) := ⟨c, rfl, World.alloc_heap_new W _⟩

end Go.Proofs.YtcfapbccegijnaaGreat

/- Walks: straight, first. -/
namespace Go.Proofs.YtcfapbccegijnaaGreat
open Go Go.RowKit Go.Proofs Go.Shelf

theorem below_box {W w' : World} {B : Nat} {t : TypeId} {v : Value} (hb : Below W.heap.size W w') (h : Boxed W B t v) : Boxed w' B t v := (hb.block B h.lt).trans h

attribute [local go_sem] Oper.semAt_some

end Go.Proofs.YtcfapbccegijnaaGreat
