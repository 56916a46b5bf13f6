/- The abstract machine, part MD. -/
import Derived.Test.YtpknllbglppjcaaMC
import Derived.Maps.OwnOps
import Derived.Maps.Views
import Derived.DeepKeys4
import Derived.Test.YtpknllbglppjcaaMA
import Derived.Test.YtpknllbglppjcaaGQ
/- Walks: numbers. -/
namespace Go.Proofs.Ytpknllbglppjcaa
open Go Go.RowKit Go.Proofs Go.Abs Go.Plain Go.Maps Go.WideShapes

end Go.Proofs.Ytpknllbglppjcaa

/- Walks: Move. -/
namespace Go.Proofs.Ytpknllbglppjcaa
open Go Go.RowKit Go.Proofs Go.Abs Go.Plain Go.Maps

theorem Mb.grown {w w' : World} {b : Nat} {t x y : Int} {m : Bool} {ty : TypeId} {row : Option Nat} (h : Mb w b t m x y ty) (hg : w.grownBy w' row) (hr : some b ≠ row) : Mb w' b t m x y ty := (hg.block b h.lt hr).trans h
/-- A setting in a block of its own. -/
def Sb (w : World) (b : Nat) (s : Int) (m : Bool) : Prop := w.heap[b]? = some (.cells #[.int .i64 s, .bool m] 51 (0, 0))
theorem Sb.lt {w : World} {b : Nat} {s : Int} {m : Bool} (h : Sb w b s m) : b < w.heap.size := (Array.getElem?_eq_some_iff.1 h).1
theorem Sb.c0 {w : World} {b : Nat} {s : Int} {m : Bool} (h : Sb w b s m) : w.cell? ⟨b, 0, none⟩ = some (.int .i64 s) := cell_at h rfl
theorem Sb.c1 {w : World} {b : Nat} {s : Int} {m : Bool} (h : Sb w b s m) : w.cell? ⟨b, 1, none⟩ = some (.bool m) := cell_at h rfl
theorem Sb.f {w : World} {b : Nat} {s : Int} {m : Bool} (h : Sb w b s m) (k : Nat) : w.frozen? ⟨b, k, none⟩ = false := thaw_at h
theorem Sb.keep {w w' : World} {b : Nat} {s : Int} {m : Bool} (h : Sb w b s m) (hb : Below w.heap.size w w') : Sb w' b s m := (hb.block b h.lt).trans h
theorem Sb.alloc {w : World} {b : Nat} {s : Int} {m : Bool} (h : Sb w b s m) (o : Obj) : Sb (w.alloc o) b s m := (heap_old w o h.lt).trans h
theorem Sb.new (w : World) (s : Int) (m : Bool) : Sb (w.alloc (.cells #[.int .i64 s, .bool m] 51)) w.heap.size s m := World.alloc_heap_new _ _
theorem Sb.set {w : World} {b : Nat} {s : Int} {m : Bool} (h : Sb w b s m) (s' : Int) (m' : Bool) : Sb ((w.setCell ⟨b, 0, none⟩ (.int .i64 s')).setCell ⟨b, 1, none⟩ (.bool m')) b s' m' := put_heap _ (put_heap _ h)
theorem Sb.drew {w : World} {b : Nat} {s : Int} {m : Bool} (h : Sb w b s m) : Sb (w.drewN 1) b s m := h
theorem Sb.grown {w w' : World} {b : Nat} {s : Int} {m : Bool} {row : Option Nat} (h : Sb w b s m) (hg : w.grownBy w' row) (hr : some b ≠ row) : Sb w' b s m := (hg.block b h.lt hr).trans h
theorem Sb.load {w : World} {b : Nat} {s : Int} {m : Bool} (h : Sb w b s m) : (loadVar 51 ⟨b, 0, none⟩).run Try.prog w = .ok (st s m) w :=
  run_loadVar_mid (P := Try.prog) w b 0 51 [.int .i64 s, .bool m] _ (range_at h) Try.underlying51 rfl (by kernel_rfl)

end Go.Proofs.Ytpknllbglppjcaa

/- Walks: Move of an outline by a valid motion. -/
namespace Go.Proofs.Ytpknllbglppjcaa
open Go Go.RowKit Go.Proofs Go.Abs Go.Plain Go.Maps

theorem vOut_n {L : Pl} (h : vOut L = true) : 3 ≤ L.length ∧ L.length ≤ 24 ∧ vPts L = true := by
  unfold vOut at h
  simp only [Bool.and_eq_true, decide_eq_true_eq] at h
  exact ⟨h.1, h.2.1, h.2.2.1⟩

theorem vOut_sum {L : Pl} (h : vOut L = true) : 0 < sumL L := by
  unfold vOut at h
  simp only [Bool.and_eq_true, decide_eq_true_eq] at h
  exact h.2.2.2.2.1

/-- All coordinates are small. -/
def AllSm (L : Pl) : Prop := ∀ j, Small (px L j) ∧ Small (py L j)

theorem small_out {L : Pl} {j : Nat} (h : ¬ j < L.length) : Small (px L j) ∧ Small (py L j) := by
  have : L.getD j (0, 0) = (0, 0) := by rw [List.getD_eq_getElem?_getD, List.getElem?_eq_none (by omega)]; rfl
  unfold px py
  rw [this]
  unfold Small
  simp

theorem AllSm.rev {L : Pl} (h : AllSm L) : AllSm L.reverse := fun j => by
  by_cases hj : j < L.length
  · unfold px py
    rw [rev_getD hj]
    exact h _
  · exact small_out (by rw [List.length_reverse]; exact hj)

theorem AllSm.turn {L : Pl} (h : AllSm L) (b : Bool) : AllSm (turnL b L) := by
  cases b
  · exact h
  · exact h.rev

theorem Apart.turn {L : Pl} (h : Apart L) (b : Bool) : Apart (turnL b L) := by
  cases b
  · exact h
  · exact h.rev

end Go.Proofs.Ytpknllbglppjcaa
