/- Slices of gauges and of marks that came in as arguments, opened. -/
import Derived.Test.YtiebbbeijlfedaaV3
namespace Go.Proofs.Ytiebbbeijlfedaa
open Go Go.RowKit Go.Proofs Go.WideShapes Go.ChangeShapes

set_option maxRecDepth 100000 in
theorem slg_arg {H : Type} {enc : TypeId × Value → H} {W : World} {base0 base : Nat} {sp : Nat → Bool} {held : Bool} {v : Value} {d : DataW H} {p : List MemPlace} (hok : Value.okWide Try.prog W .any base0 22 v)
    (h : DataW.Trod enc Try.prog W base sp held 22 v d p) : ∃ G, SlG W v G := by
  have hok' : Cell.okWide Try.prog W .any base0 22 v := by simpa only [Value.okWide, Try.underlying22] using hok
  obtain ⟨a, len, cap, rfl⟩ := okWide_slice Try.underlying22 hok
  obtain ⟨m, hm⟩ := h
  exact slg_of (n := m) hok' (by simpa [Value.cells] using hm)

set_option maxRecDepth 100000 in
theorem slm_arg {H : Type} {enc : TypeId × Value → H} {W : World} {base0 base : Nat} {sp : Nat → Bool} {held : Bool} {v : Value} {d : DataW H} {p : List MemPlace} (hok : Value.okWide Try.prog W .any base0 23 v)
    (h : DataW.Trod enc Try.prog W base sp held 23 v d p) : ∃ M, SlM W v M := by
  have hok' : Cell.okWide Try.prog W .any base0 23 v := by simpa only [Value.okWide, Try.underlying23] using hok
  obtain ⟨a, len, cap, rfl⟩ := okWide_slice Try.underlying23 hok
  obtain ⟨m, hm⟩ := h
  exact slm_of (n := m) hok' (by simpa [Value.cells] using hm)

end Go.Proofs.Ytiebbbeijlfedaa
