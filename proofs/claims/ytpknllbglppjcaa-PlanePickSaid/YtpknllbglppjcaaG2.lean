/- Walks: Compose. -/
import Derived.Test.YtpknllbglppjcaaGA
import Derived.Deep.MidRow
namespace Go.Proofs.Ytpknllbglppjcaa
open Go Go.RowKit Go.Proofs

/-- Two settings in their boxes, and room for a third. -/
structure Sts (w : World) (s : Int) (b : Bool) (t : Int) (c : Bool) (r0 r1 : Value) (w' : World) : Prop where
  bel : Below w.heap.size w w'
  n : w.heap.size + 3 ≤ w'.heap.size
  c0 : w'.cell? ⟨w.heap.size, 0, none⟩ = some (.int .i64 s)
  c1 : w'.cell? ⟨w.heap.size, 1, none⟩ = some (.bool b)
  c2 : w'.cell? ⟨w.heap.size + 1, 0, none⟩ = some (.int .i64 t)
  c3 : w'.cell? ⟨w.heap.size + 1, 1, none⟩ = some (.bool c)
  c4 : w'.cell? ⟨w.heap.size + 1 + 1, 0, none⟩ = some r0
  c5 : w'.cell? ⟨w.heap.size + 1 + 1, 1, none⟩ = some r1
  f4 : w'.frozen? ⟨w.heap.size + 1 + 1, 0, none⟩ = false
  f5 : w'.frozen? ⟨w.heap.size + 1 + 1, 1, none⟩ = false

variable {w w1 w2 : World} {s t : Int} {b c : Bool} {r0 r1 : Value}

theorem keep_frozen {w w' : World} {b o : Nat} {v : Bool} {x : Value} (hb : Below w.heap.size w w') (hc : w.cell? ⟨b, o, none⟩ = some x) (h : w.frozen? ⟨b, o, none⟩ = v) : w'.frozen? ⟨b, o, none⟩ = v := (hb.frozen (lt_of_cell hc)).trans h

theorem set_cell {w : World} {p q : Addr} {v x : Value} (hne : p ≠ q) (h : w.cell? p = some x) : (w.setCell q v).cell? p = some x := by
  rw [World.cell?_setCell_other (h := Ne.symm hne)]; exact h

theorem new_cell {w : World} {p : Addr} {v x : Value} (h : w.cell? p = some x) : (w.setCell p v).cell? p = some v := World.cell?_setCell_same _ _ _ h

theorem set_frozen {w : World} {p q : Addr} {v : Value} {x : Bool} (h : w.frozen? p = x) : (w.setCell q v).frozen? p = x := by
  rw [World.frozen?_setCell]; exact h

theorem Sts.keep (h : Sts w s b t c r0 r1 w1) (hb : Below w1.heap.size w1 w2) : Sts w s b t c r0 r1 w2 :=
  ⟨keep_below h.bel hb, Nat.le_trans h.n hb.size, keep_cell hb h.c0, keep_cell hb h.c1, keep_cell hb h.c2, keep_cell hb h.c3, keep_cell hb h.c4, keep_cell hb h.c5, keep_frozen hb h.c4 h.f4, keep_frozen hb h.c5 h.f5⟩

theorem Sts.start (w : World) (s : Int) (b : Bool) (t : Int) (c : Bool) : Sts w s b t c (.int .i64 0) (.bool false) (((w.alloc (stObj s b)).alloc (stObj t c)).alloc (stObj 0 false)) := by
  have s1 : ∀ (v : World) (o : Obj), (v.alloc o).heap.size = v.heap.size + 1 := fun v o => by simp
  have n1 := st_new w s b
  have n2 := st_new (w.alloc (stObj s b)) t c
  have n3 := st_new ((w.alloc (stObj s b)).alloc (stObj t c)) 0 false
  simp only [s1] at n2 n3
  refine ⟨(((Below.refl _ _).alloc (by simp) _).alloc (by simp) _).alloc (by simp; omega) _, by simp, pt_old _ _ (pt_old _ _ n1.1), pt_old _ _ (pt_old _ _ n1.2), pt_old _ _ n2.1, pt_old _ _ n2.2, n3.1, n3.2, ?_, ?_⟩ <;> go_simp

end Go.Proofs.Ytpknllbglppjcaa
