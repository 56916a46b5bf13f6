/- The abstract machine, part GrN4. -/
import Derived.Test.YtcgmmfcphfkdhaaGreatGrN3
import Derived.Deep.WholeRow
/- Walks: the content of a note. -/
namespace Go.Proofs.YtcgmmfcphfkdhaaGreat
open Go Go.RowKit Go.Proofs

def zN : Value := .agg #[.int .i64 0, .int .i64 0, .int .i64 0, .int .i64 0, .int .i64 0, .int .i64 0, .int .i64 0, .int .i64 0, .int .i64 0, .int .i64 0, .int .i64 0, .bool false, .int .i64 0, .int .i64 0, .slice none 0 0, .slice none 0 0, .slice none 0 0,
  .int .i64 0, .int .i64 0, .int .i64 0, .int .i64 0, .int .i64 0, .int .i64 0, .int .i64 0, .slice none 0 0, .slice none 0 0, .int .i64 0, .int .i64 0, .slice none 0 0]

def zA : Array Value := zN.cells
theorem zA_run (w : World) : (zeroValue 40).run Tryz.prog w = .ok (.agg zA) w := Tryz.zeroValue40 w

theorem z40 : Hid (∃ Z : Array Value, (∀ w, (zeroValue 40).run Tryz.prog w = .ok (.agg Z) w) ∧ Z.size = 29 ∧ Z.all (·.oneCell') = true) := Lib.hid ⟨zA, zA_run, by kernel_rfl, by kernel_rfl⟩

theorem below_set {w W : World} (h : Below w.heap.size w W) {b : Nat} (hb : w.heap.size ≤ b) (o : Nat) (u : Value) : Below w.heap.size w (W.setCell ⟨b, o, none⟩ u) :=
  ⟨h.os, h.tape, h.output, by rw [size_set]; exact h.size, fun k hk => (heap_set (by omega)).trans (h.block k hk)⟩

theorem slp_nil (w : World) : SlP w (.slice none 0 0) [] := ⟨none, 0, rfl, by simp, fun k hk => absurd hk (Nat.not_lt_zero k)⟩
theorem sli_nil (w : World) : SlI w (.slice none 0 0) [] := ⟨none, 0, rfl, by simp, fun k hk => absurd hk (Nat.not_lt_zero k)⟩
theorem sls_nil (w : World) : SlS w (.slice none 0 0) [] := ⟨none, 0, rfl, by simp, fun k hk => absurd hk (Nat.not_lt_zero k)⟩

abbrev It0 : It := ⟨0, 0, 0, 0, 0, 0, 0, [], [], 0, 0, []⟩
abbrev nilS : Value := .slice none 0 0

end Go.Proofs.YtcgmmfcphfkdhaaGreat

/- Storing the empty item into a note. -/
namespace Go.Proofs.YtcgmmfcphfkdhaaGreat
open Go Go.RowKit Go.Proofs

abbrev z12 : Array Value := #[.int .i64 0, .int .i64 0, .int .i64 0, .int .i64 0, .int .i64 0, .int .i64 0, .int .i64 0, .slice none 0 0, .slice none 0 0, .int .i64 0, .int .i64 0, .slice none 0 0]

set_option maxRecDepth 100000 in
theorem set12 {w : World} {B : Nat} {x : Nv} (h : NB w B x.arr 40) : NB (w.setCells B 17 z12.toList) B (Nv.arr { x with N := { x.N with X := It0 }, iP := .slice none 0 0, iC := .slice none 0 0, iS := .slice none 0 0 }) 40 := by
  have h0 : NB _ B (Nv.arr { x with N := { x.N with X := { x.N.X with id := 0 } } }) 40 := h.set 17 (.int .i64 0)
  have h1 : NB _ B (Nv.arr { x with N := { x.N with X := { x.N.X with id := 0, k := 0 } } }) 40 := h0.set 18 (.int .i64 0)
  have h2 : NB _ B (Nv.arr { x with N := { x.N with X := { x.N.X with id := 0, k := 0, y := 0 } } }) 40 := h1.set 19 (.int .i64 0)
  have h3 : NB _ B (Nv.arr { x with N := { x.N with X := { x.N.X with id := 0, k := 0, y := 0, f := 0 } } }) 40 := h2.set 20 (.int .i64 0)
  have h4 : NB _ B (Nv.arr { x with N := { x.N with X := { x.N.X with id := 0, k := 0, y := 0, f := 0, p := 0 } } }) 40 := h3.set 21 (.int .i64 0)
  have h5 : NB _ B (Nv.arr { x with N := { x.N with X := { x.N.X with id := 0, k := 0, y := 0, f := 0, p := 0, l := 0 } } }) 40 := h4.set 22 (.int .i64 0)
  have h6 : NB _ B (Nv.arr { x with N := { x.N with X := { x.N.X with id := 0, k := 0, y := 0, f := 0, p := 0, l := 0, s := 0 } } }) 40 := h5.set 23 (.int .i64 0)
  have h7 : NB _ B (Nv.arr { x with N := { x.N with X := { x.N.X with id := 0, k := 0, y := 0, f := 0, p := 0, l := 0, s := 0 } }, iP := .slice none 0 0 }) 40 := h6.set 24 (.slice none 0 0)
  have h8 : NB _ B (Nv.arr { x with N := { x.N with X := { x.N.X with id := 0, k := 0, y := 0, f := 0, p := 0, l := 0, s := 0 } }, iP := .slice none 0 0, iC := .slice none 0 0 }) 40 := h7.set 25 (.slice none 0 0)
  have h9 : NB _ B (Nv.arr { x with N := { x.N with X := { x.N.X with id := 0, k := 0, y := 0, f := 0, p := 0, l := 0, s := 0, lo := 0 } }, iP := .slice none 0 0, iC := .slice none 0 0 }) 40 := h8.set 26 (.int .i64 0)
  have h10 : NB _ B (Nv.arr { x with N := { x.N with X := { x.N.X with id := 0, k := 0, y := 0, f := 0, p := 0, l := 0, s := 0, lo := 0, hi := 0 } }, iP := .slice none 0 0, iC := .slice none 0 0 }) 40 := h9.set 27 (.int .i64 0)
  exact h10.set 28 (.slice none 0 0)

theorem below_sets {w W : World} (h : Below w.heap.size w W) {b : Nat} (hb : w.heap.size ≤ b) : ∀ (l : List Value) (o : Nat), Below w.heap.size w (W.setCells b o l)
  | [], _ => h
  | v :: l, o => below_sets (below_set h hb o v) hb l (o + 1)

theorem store12 {w : World} {B : Nat} {x : Nv} (h : NB w B x.arr 40) : (storeCells ⟨B, 17, none⟩ z12.toList 0).run Tryz.prog w = .ok () (w.setCells B 17 z12.toList) := by
  have := run_storeVar_mid (P := Tryz.prog) w B 17 38 z12 (fun j hj => by
    have hj : j < 12 := hj
    refine ⟨?_, h.f _⟩
    have hs : (x.arr[17 + j]?).isSome = true := by
      rw [Array.getElem?_eq_getElem (by rw [arr_size]; omega)]; rfl
    obtain ⟨v, hv⟩ := Option.isSome_iff_exists.1 hs
    rw [h.c hv]
    rfl) (by kernel_rfl) (by kernel_rfl)
  simpa [storeVar, Tryz.sizeOf38, Value.cells] using this

end Go.Proofs.YtcgmmfcphfkdhaaGreat
