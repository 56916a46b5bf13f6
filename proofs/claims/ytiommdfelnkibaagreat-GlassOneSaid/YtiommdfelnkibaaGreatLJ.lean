/- The abstract machine, part LJ. -/
import Derived.Test.YtiommdfelnkibaaGreatLI
import Derived.Test.YtiommdfelnkibaaGreatLC
/- A region that draws its order, in a fence or in a round, whose lead has one operation on which the end need not wait. -/
namespace Go.Abs
open Go Go.RowKit

variable {F : Fence} {n m : Nat} {P : Program} {ops : Array Oper} {Q : Exit → Act → World → Prop} {a a1 : Act} {w : World}

end Go.Abs

/- Walks: Gauges. -/
namespace Go.Proofs.YtiommdfelnkibaaGreat
open Go Go.RowKit Go.Proofs Go.Abs Go.Shelf

theorem info67 : (Tryz.prog.info? 83).map (fun i => (i.zero, i.size, i.bytes)) = some (some (gg 0 0 0 0 0), 5, 40) := by kernel_rfl

/-- A struct of one's own, of any type. -/
def BoxS (t : TypeId) (W : World) (B : Nat) (v : Value) : Prop := ∃ c, v = .agg c ∧ W.heap[B]? = some (.cells c t (0, 0))

theorem BoxS.cell {t : TypeId} {W : World} {B : Nat} {c : Array Value} (h : BoxS t W B (.agg c)) {o : Nat} {v : Value} (ho : c[o]? = some v) : W.cell? ⟨B, o, none⟩ = some v := by
  obtain ⟨c', e, h⟩ := h
  cases e
  unfold World.cell?
  simp [h, ho]

theorem BoxS.own {t : TypeId} {W X : World} {B B' : Nat} {v : Value} {row : Option Nat} (h : BoxS t W B v) (hg : W.grownBy X row) (hr : ∀ r, row = some r → B' ≤ r ∧ ∃ o : Obj, W.heap[r]? = some o ∧ o.isCells = false) : BoxS t X B v := by
  obtain ⟨c, e, hb⟩ := h
  refine ⟨c, e, ?_⟩
  rw [hg.block B (Array.getElem?_eq_some_iff.1 hb).1 (fun e' => by
    obtain ⟨_, o, ho, hc⟩ := hr B e'.symm
    rw [hb] at ho; cases ho; cases hc)]
  exact hb

theorem BoxS.new (t : TypeId) (W : World) (c : Array Value) : BoxS t (W.alloc (.cells c t)) W.heap.size (.agg c) := ⟨c, rfl, World.alloc_heap_new W _⟩

attribute [local go_sem] Oper.semAt_some

theorem KeepN.appended {N : Nat} {X0 w3 : World} {tmp : Obj} {v v' c : Value} {k : Nat} {xs : List Value} (bO : Boxed X0 N 22 v) (bC : Boxed X0 (N + 1) 26 c) (hr : X0.ownsRow N 83 5 v k xs)
    (hg : (X0.alloc tmp).grownBy w3 v.ownBlock) : KeepN N (N + 1) X0 (w3.setCell ⟨N, 0, none⟩ v') := by
  have hN := (Array.getElem?_eq_some_iff.1 (show X0.heap[N]? = _ from bO)).1
  have same : ∀ j, j < X0.heap.size → j ≠ N → some j ≠ v.ownBlock → (w3.setCell ⟨N, 0, none⟩ v').heap[j]? = X0.heap[j]? := fun j hj hn hv => by
    rw [Below.heap_setCell _ _ _ j hn, hg.block j (by simp; omega) hv, alloc_heap_old _ _ hj]
  have notrow : ∀ (j : Nat) (cs : Array Value) (t : TypeId) (x : Nat × Nat), X0.heap[j]? = some (.cells cs t x) → t ≠ 83 → some j ≠ v.ownBlock := fun j cs t x hj ht e => by
    rcases hr.2 with ⟨rfl, -⟩ | ⟨g, cap, cur, rfl, -, h2, -⟩
    · cases e
    · simp only [Value.ownBlock, Option.some.injEq] at e
      subst e
      rw [hj] at h2
      cases h2
      exact ht rfl
  refine ⟨?_, fun j hj => ?_, fun j cs x hj => ?_⟩
  · have h1 := hg.size
    have h2 := (KeepsOthers.setCell w3 ⟨N, 0, none⟩ v').size
    simp at h1
    omega
  · rcases hj with hj | rfl
    · exact same j (by omega) (by omega) (fun e => by have := (hr.lt j e.symm).1; omega)
    · have hC : X0.heap[N + 1]? = some (.cells #[c] 26 (0, 0)) := bC
      exact same _ (Array.getElem?_eq_some_iff.1 hC).1 (by omega) (notrow _ _ _ _ hC (by decide))
  · rw [same j (Array.getElem?_eq_some_iff.1 hj).1 ?_ (notrow _ _ _ _ hj (by decide))]
    · exact hj
    · rintro rfl
      rw [show X0.heap[j]? = some (.cells #[v] 22 (0, 0)) from bO] at hj
      cases hj

end Go.Proofs.YtiommdfelnkibaaGreat
