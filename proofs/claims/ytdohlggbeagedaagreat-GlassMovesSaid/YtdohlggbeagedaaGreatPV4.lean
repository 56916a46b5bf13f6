/- A motion that came in, opened. -/
import Derived.Test.YtdohlggbeagedaaGreatLU
import Derived.Deep.Slices
namespace Go.Proofs.YtdohlggbeagedaaGreat
open Go Go.RowKit Go.Proofs Go.WideShapes Go.ChangeShapes Go.Deep

theorem mcells3 : Tryz.prog.cellsOf 3 = 1 := by kernel_rfl
theorem mcells4 : Tryz.prog.cellsOf 4 = 1 := by kernel_rfl
theorem mcells66 : Tryz.prog.cellsOf 66 = 2 := by kernel_rfl
theorem mcells68 : Tryz.prog.cellsOf 68 = 4 := by kernel_rfl

section
variable {H : Type} {enc : TypeId × Value → H} {W : World} {base n : Nat} {sp : Nat → Bool} {held : Bool}

theorem mo_int {v : Value} {y : DataW H × List MemPlace} (h : DataW.trod enc Tryz.prog W base sp held n 3 [v] = some y) : ∃ a, v = .int .i64 a := by
  obtain ⟨a, ea, -, -⟩ := DataW.trod_int Tryz.underlying3 h
  simp only [List.cons.injEq, and_true] at ea
  exact ⟨a, ea⟩

theorem mo_bool {v : Value} {y : DataW H × List MemPlace} (h : DataW.trod enc Tryz.prog W base sp held n 4 [v] = some y) : ∃ a, v = .bool a := by
  obtain ⟨a, ea, -⟩ := DataW.trod_bool Tryz.underlying4 h
  simp only [List.cons.injEq, and_true] at ea
  exact ⟨a, ea⟩

theorem mo_pt {v0 v1 : Value} {y : DataW H × List MemPlace} (h : DataW.trod enc Tryz.prog W base sp held n 66 [v0, v1] = some y) : ∃ a b, v0 = .int .i64 a ∧ v1 = .int .i64 b := by
  obtain ⟨xs, k, _, _, _, hxl, hf⟩ := DataW.trod_struct Tryz.underlying66 h
  match xs, hxl with
  | [y0, y1], _ =>
    have g0 := hf 0 _ rfl
    have g1 := hf 1 _ rfl
    simp [mcells3] at g0 g1
    obtain ⟨a, rfl⟩ := mo_int g0
    obtain ⟨b, rfl⟩ := mo_int g1
    exact ⟨a, b, rfl, rfl⟩
end

theorem array4 {α : Type} {cs : Array α} (h : cs.size = 4) : ∃ c0 c1 c2 c3, cs = #[c0, c1, c2, c3] := by
  obtain ⟨l⟩ := cs
  match l, h with
  | [c0, c1, c2, c3], _ => exact ⟨c0, c1, c2, c3, rfl⟩

set_option maxRecDepth 100000 in
theorem motion_of {H : Type} {enc : TypeId × Value → H} {W : World} {base0 base : Nat} {sp : Nat → Bool} {held : Bool} {v : Value} {d : DataW H} {p : List MemPlace} (hok : Value.okWide Tryz.prog W .any base0 68 v)
    (h : DataW.Trod enc Tryz.prog W base sp held 68 v d p) : ∃ t b x y, v = mo t b x y := by
  obtain ⟨cs, rfl, hsz⟩ := okWide_struct Tryz.underlying68 hok
  obtain ⟨c0, c1, c2, c3, rfl⟩ := array4 (hsz.trans mcells68)
  obtain ⟨fuel, hf⟩ := h
  have hf' : DataW.trod enc Tryz.prog W base sp held fuel 68 [c0, c1, c2, c3] = some (d, p) := by simpa [Value.cells] using hf
  obtain ⟨xs, k, _, _, _, hxl, hg⟩ := DataW.trod_struct Tryz.underlying68 hf'
  match xs, hxl with
  | [y0, y1, y2], _ =>
    have g0 := hg 0 _ rfl
    have g1 := hg 1 _ rfl
    have g2 := hg 2 _ rfl
    simp [mcells3, mcells4, mcells66] at g0 g1 g2
    obtain ⟨a0, rfl⟩ := mo_int g0
    obtain ⟨a1, rfl⟩ := mo_bool g1
    obtain ⟨a2, a3, rfl, rfl⟩ := mo_pt g2
    exact ⟨a0, a1, a2, a3, rfl⟩

end Go.Proofs.YtdohlggbeagedaaGreat
