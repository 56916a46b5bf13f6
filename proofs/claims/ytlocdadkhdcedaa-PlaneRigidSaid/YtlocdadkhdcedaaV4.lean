/- A motion that came in, opened. -/
import Derived.Test.YtlocdadkhdcedaaV1
import Derived.Test.YtlocdadkhdcedaaMA
import Derived.Deep.Slices
namespace Go.Proofs.Ytlocdadkhdcedaa
open Go Go.RowKit Go.Proofs Go.WideShapes Go.ChangeShapes Go.Deep

theorem mcells3 : Try.prog.cellsOf 3 = 1 := by kernel_rfl
theorem mcells4 : Try.prog.cellsOf 4 = 1 := by kernel_rfl
theorem mcells23 : Try.prog.cellsOf 23 = 2 := by kernel_rfl
theorem mcells49 : Try.prog.cellsOf 49 = 4 := by kernel_rfl

section
variable {H : Type} {enc : TypeId × Value → H} {W : World} {base n : Nat} {sp : Nat → Bool} {held : Bool}

theorem int_cell {v : Value} {y : DataW H × List MemPlace} (h : DataW.trod enc Try.prog W base sp held n 3 [v] = some y) : ∃ a, v = .int .i64 a := by
  obtain ⟨a, ea, -, -⟩ := DataW.trod_int Try.underlying3 h
  simp only [List.cons.injEq, and_true] at ea
  exact ⟨a, ea⟩

theorem bool_cell {v : Value} {y : DataW H × List MemPlace} (h : DataW.trod enc Try.prog W base sp held n 4 [v] = some y) : ∃ a, v = .bool a := by
  obtain ⟨a, ea, -⟩ := DataW.trod_bool Try.underlying4 h
  simp only [List.cons.injEq, and_true] at ea
  exact ⟨a, ea⟩

theorem pt_cells {v0 v1 : Value} {y : DataW H × List MemPlace} (h : DataW.trod enc Try.prog W base sp held n 23 [v0, v1] = some y) : ∃ a b, v0 = .int .i64 a ∧ v1 = .int .i64 b := by
  obtain ⟨xs, k, _, _, _, hxl, hf⟩ := DataW.trod_struct Try.underlying23 h
  match xs, hxl with
  | [y0, y1], _ =>
    have g0 := hf 0 _ rfl
    have g1 := hf 1 _ rfl
    simp [mcells3] at g0 g1
    obtain ⟨a, rfl⟩ := int_cell g0
    obtain ⟨b, rfl⟩ := int_cell g1
    exact ⟨a, b, rfl, rfl⟩
end

theorem array4 {α : Type} {cs : Array α} (h : cs.size = 4) : ∃ c0 c1 c2 c3, cs = #[c0, c1, c2, c3] := by
  obtain ⟨l⟩ := cs
  match l, h with
  | [c0, c1, c2, c3], _ => exact ⟨c0, c1, c2, c3, rfl⟩

set_option maxRecDepth 100000 in
theorem motion_of {H : Type} {enc : TypeId × Value → H} {W : World} {base0 base : Nat} {sp : Nat → Bool} {held : Bool} {v : Value} {d : DataW H} {p : List MemPlace} (hok : Value.okWide Try.prog W .any base0 49 v)
    (h : DataW.Trod enc Try.prog W base sp held 49 v d p) : ∃ t b x y, v = mo t b x y := by
  obtain ⟨cs, rfl, hsz⟩ := okWide_struct Try.underlying49 hok
  obtain ⟨c0, c1, c2, c3, rfl⟩ := array4 (hsz.trans mcells49)
  obtain ⟨fuel, hf⟩ := h
  have hf' : DataW.trod enc Try.prog W base sp held fuel 49 [c0, c1, c2, c3] = some (d, p) := by simpa [Value.cells] using hf
  obtain ⟨xs, k, _, _, _, hxl, hg⟩ := DataW.trod_struct Try.underlying49 hf'
  match xs, hxl with
  | [y0, y1, y2], _ =>
    have g0 := hg 0 _ rfl
    have g1 := hg 1 _ rfl
    have g2 := hg 2 _ rfl
    simp [mcells3, mcells4, mcells23] at g0 g1 g2
    obtain ⟨a0, rfl⟩ := int_cell g0
    obtain ⟨a1, rfl⟩ := bool_cell g1
    obtain ⟨a2, a3, rfl, rfl⟩ := pt_cells g2
    exact ⟨a0, a1, a2, a3, rfl⟩

end Go.Proofs.Ytlocdadkhdcedaa
