/- The abstract machine, part GrRF. -/
import Derived.Test.YtkmcboincjohlaaGreatGrLL
import Derived.Test.YtkmcboincjohlaaGreatGrLK
import Derived.Test.YtkmcboincjohlaaGreatGrRD
/- Rows of gauges that are stored into, and the gauges that the reference's reset has stored after k rounds. -/
namespace Go.Proofs.YtkmcboincjohlaaGreat
open Go Go.RowKit Go.Proofs Go.Abs

/-- The block holds n gauges, from its start on. -/
structure RowQ (W : World) (g n : Nat) (F : Nat → G5) : Prop where
  lt : g < W.heap.size
  c : ∀ j, j < n * 5 → W.cell? ⟨g, j, none⟩ = some (cG F j) ∧ W.frozen? ⟨g, j, none⟩ = false

theorem RowQ.keep {W W' : World} {g n : Nat} {F : Nat → G5} (h : RowQ W g n F) (hb : Below W.heap.size W W') : RowQ W' g n F :=
  ⟨Nat.lt_of_lt_of_le h.lt hb.size, fun j hj => ⟨keep_cell hb (h.c j hj).1, (hb.frozen h.lt).trans (h.c j hj).2⟩⟩

theorem RowQ.congr {W : World} {g n : Nat} {F F' : Nat → G5} (h : RowQ W g n F) (e : ∀ x, x < n → F x = F' x) : RowQ W g n F' :=
  ⟨h.lt, fun j hj => ⟨by rw [(h.c j hj).1, cG_congr (e (j / 5) (by omega))], (h.c j hj).2⟩⟩

theorem RowQ.other {W : World} {g n : Nat} {F : Nat → G5} (h : RowQ W g n F) {b o : Nat} (hb : b ≠ g) (v : Value) : RowQ (W.setCell ⟨b, o, none⟩ v) g n F :=
  ⟨by simpa [World.setCell] using h.lt, fun j hj => ⟨by rw [World.cell?_setCell_other (h := fun x => hb (by cases x; rfl))]; exact (h.c j hj).1, by rw [World.frozen?_setCell]; exact (h.c j hj).2⟩⟩

theorem RowQ.put {W : World} {g n : Nat} {F F' : Nat → G5} (h : RowQ W g n F) {p : Nat} (v : Value)
    (hv : ∀ j, j < n * 5 → cG F' j = if j = p then v else cG F j) : RowQ (W.setCell ⟨g, p, none⟩ v) g n F' := by
  refine ⟨by simpa [World.setCell] using h.lt, fun j hj => ?_⟩
  refine ⟨?_, by rw [World.frozen?_setCell]; exact (h.c j hj).2⟩
  rw [hv j hj]
  by_cases e : j = p
  · subst e
    rw [if_pos rfl]
    exact World.cell?_setCell_same _ _ _ (h.c _ hj).1
  · rw [if_neg e, World.cell?_setCell_other (h := fun x => e (by cases x; rfl))]
    exact (h.c j hj).1

def updG (F : Nat → G5) (x : Nat) (u : G5) (i : Nat) : G5 := if i = x then u else F i

theorem RowQ.set5 {W : World} {g n : Nat} {F : Nat → G5} (h : RowQ W g n F) (x : Nat) (a b c d e : Int) :
    RowQ (((((W.setCell ⟨g, x * 5, none⟩ (.int .i64 a)).setCell ⟨g, x * 5 + 1, none⟩ (.int .i64 b)).setCell ⟨g, x * 5 + 2, none⟩ (.int .i64 c)).setCell ⟨g, x * 5 + 3, none⟩ (.int .i64 d)).setCell ⟨g, x * 5 + 4, none⟩ (.int .i64 e)) g n (updG F x ⟨a, b, c, d, e⟩) := by
  have h1 : RowQ _ g n (updG F x ⟨a, (F x).b, (F x).c, (F x).d, (F x).e⟩) := h.put (p := x * 5) (.int .i64 a) (fun j hj => by
    unfold cG updG
    by_cases hx : j / 5 = x
    · rw [if_pos hx, hx]; (repeat' split) <;> first | rfl | omega
    · rw [if_neg hx, if_neg (show ¬ j = x * 5 by omega)])
  have h2 : RowQ _ g n (updG F x ⟨a, b, (F x).c, (F x).d, (F x).e⟩) := h1.put (p := x * 5 + 1) (.int .i64 b) (fun j hj => by
    unfold cG updG
    by_cases hx : j / 5 = x
    · simp only [if_pos hx]; (repeat' split) <;> first | rfl | omega
    · simp only [if_neg hx, if_neg (show ¬ j = x * 5 + 1 by omega)])
  have h3 : RowQ _ g n (updG F x ⟨a, b, c, (F x).d, (F x).e⟩) := h2.put (p := x * 5 + 2) (.int .i64 c) (fun j hj => by
    unfold cG updG
    by_cases hx : j / 5 = x
    · simp only [if_pos hx]; (repeat' split) <;> first | rfl | omega
    · simp only [if_neg hx, if_neg (show ¬ j = x * 5 + 2 by omega)])
  have h4 : RowQ _ g n (updG F x ⟨a, b, c, d, (F x).e⟩) := h3.put (p := x * 5 + 3) (.int .i64 d) (fun j hj => by
    unfold cG updG
    by_cases hx : j / 5 = x
    · simp only [if_pos hx]; (repeat' split) <;> first | rfl | omega
    · simp only [if_neg hx, if_neg (show ¬ j = x * 5 + 3 by omega)])
  exact h4.put (p := x * 5 + 4) (.int .i64 e) (fun j hj => by
    unfold cG updG
    by_cases hx : j / 5 = x
    · simp only [if_pos hx]; (repeat' split) <;> first | rfl | omega
    · simp only [if_neg hx, if_neg (show ¬ j = x * 5 + 4 by omega)])

theorem RowQ.made (s : Nat) (w : World) : RowQ (w.alloc (.cells (madeCells #[.int .i64 0, .int .i64 0, .int .i64 0, .int .i64 0, .int .i64 0] (s * 5)) 82)) w.heap.size s (fun _ => ⟨0, 0, 0, 0, 0⟩) := by
  have h := World.alloc_heap_new w (.cells (madeCells #[.int .i64 0, .int .i64 0, .int .i64 0, .int .i64 0, .int .i64 0] (s * 5)) 82)
  refine ⟨by simp, fun j hj => ⟨?_, frozen_of h⟩⟩
  refine cell_of h ?_
  have e : cG (fun _ => ⟨0, 0, 0, 0, 0⟩) j = .int .i64 0 := by
    unfold cG; (repeat' split) <;> rfl
  rw [e]
  unfold madeCells
  rw [Array.getElem?_map, show (Array.range (s * 5))[j]? = some j by simp [hj], Option.map_some]
  have hj5 : j % 5 < 5 := Nat.mod_lt _ (by omega)
  rcases (show j % 5 = 0 ∨ j % 5 = 1 ∨ j % 5 = 2 ∨ j % 5 = 3 ∨ j % 5 = 4 by omega) with e | e | e | e | e <;> simp [e]

/-! ### plain -/

/-- The gauges as they are laid. -/
def layL (G : List G5) (n sh : Nat) (b : Bool) : List G5 := (List.range n).map (lay G n sh b)

theorem layL_len (G : List G5) (n sh : Nat) (b : Bool) : (layL G n sh b).length = n := by simp [layL]
theorem layL_gz (G : List G5) {n sh x : Nat} (b : Bool) (h : x < n) : gz (layL G n sh b) x = lay G n sh b x := by
  unfold gz layL
  simp [List.getD_eq_getElem?_getD, h]

/-- The edge on which gauge i is laid, and the gauge that is laid on edge x. -/
def ld (n sh : Nat) (b : Bool) (i : Nat) : Nat := if b then kb n sh i else fw n sh i
def dl (n sh : Nat) (b : Bool) (x : Nat) : Nat := if b then kb n sh x else kf n sh x

end Go.Proofs.YtkmcboincjohlaaGreat

/- Walks: the reference's reset. -/
namespace Go.Proofs.YtkmcboincjohlaaGreat
open Go Go.RowKit Go.Proofs Go.Abs

/-- What the operations of the storing region yield. -/
def RtV (w : World) (n k l : Nat) (sh : Int) (b : Bool) (u : G5) : Nat → Value → World → Prop
  | 0, v, _ => v = .pointer (some ⟨w.heap.size + 3, 5, none⟩)
  | 1, v, _ => v = .slice (some ⟨w.heap.size + 4, 0, none⟩) n n
  | 2, v, _ => v = st sh b
  | 3, v, _ => v = .int .i64 n
  | 4, v, _ => v = .int .i64 k
  | 5, v, _ => v = .int .i64 l
  | 6, v, _ => v = gg u.a u.b u.c u.d u.e
  | _, v, _ => v = .pointer (some ⟨w.heap.size + 4, l * 5, none⟩)

theorem RtV.keep {w : World} {n k l : Nat} {sh : Int} {b : Bool} {u : G5} (i : Nat) (v : Value) (W W' : World) (h : RtV w n k l sh b u i v W) (_ : Below W.heap.size W W') : RtV w n k l sh b u i v W' := by
  match i, h with
  | 0, h => exact h
  | 1, h => exact h
  | 2, h => exact h
  | 3, h => exact h
  | 4, h => exact h
  | 5, h => exact h
  | 6, h => exact h
  | _ + 7, h => exact h

theorem res7 {W : World} {N : Nat} {a0 a1 a2 a3 a4 a5 a6 b0 b1 b2 b3 b4 b5 b6 : Value} (h : W.heap[N]? = some (.cells #[a0, a1, a2, a3, a4, a5, a6] 40 (0, 0))) :
    (((((((W.setCell ⟨N, 0, none⟩ b0).setCell ⟨N, 1, none⟩ b1).setCell ⟨N, 2, none⟩ b2).setCell ⟨N, 3, none⟩ b3).setCell ⟨N, 4, none⟩ b4).setCell ⟨N, 5, none⟩ b5).setCell ⟨N, 6, none⟩ b6).heap[N]? = some (.cells #[b0, b1, b2, b3, b4, b5, b6] 40 (0, 0)) := by
  unfold World.setCell
  simp only [Array.getElem?_modify, if_true, h, Option.map_some]
  rfl

end Go.Proofs.YtkmcboincjohlaaGreat
