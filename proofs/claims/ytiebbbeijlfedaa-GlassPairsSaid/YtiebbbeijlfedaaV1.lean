/- A slice of numbers that came in, opened; a film. -/
import Derived.Test.YtiebbbeijlfedaaA6
import Derived.OpenShut
import Derived.ChangeSlices
import Derived.Lib.SmallJoins
namespace Go.Proofs.Ytiebbbeijlfedaa
open Go Go.RowKit Go.Proofs Go.WideShapes Go.ChangeShapes Go.Deep Go.Joins

set_option maxRecDepth 100000 in
theorem spot26 {W : World} {base : Nat} {a : Addr} {len cap : Nat} (hok : Cell.okWide Try.prog W .any base 26 (.slice (some a) len cap)) : a.spot = none := by
  simp only [Try.underlying26, Cell.okWide, Cell.ok] at hok
  exact hok.2.2.2.1

set_option maxRecDepth 100000 in
theorem sli_of {H : Type} {enc : TypeId × Value → H} {W : World} {base0 base n : Nat} {sp : Nat → Bool} {held : Bool} {v : Value} {x : DataW H × List MemPlace} (hok : Cell.okWide Try.prog W .any base0 26 v)
    (h : DataW.trod enc Try.prog W base sp held n 26 [v] = some x) : ∃ L, SlI W v L := by
  rcases open_ints Try.underlying26 Try.underlying3 (by kernel_rfl) h with ⟨hcs, -⟩ | ⟨a, len, cap, zs, hcs, -, hl, hcap, hzs, -, hall, -⟩
  · simp only [List.cons.injEq, and_true] at hcs
    subst hcs
    exact ⟨[], none, 0, rfl, by simp, fun k hk => absurd hk (Nat.not_lt_zero _)⟩
  · simp only [List.cons.injEq, and_true] at hcs
    subst hcs
    have hsp := spot26 hok
    obtain ⟨b, off, s⟩ := a
    simp only at hsp
    subst hsp
    have hlz : len ≤ zs.length := by rw [hzs]; split <;> omega
    have hlen : (zs.take len).length = len := by rw [List.length_take]; omega
    refine ⟨zs.take len, some ⟨b, off, none⟩, cap, by rw [hlen], by rw [hlen]; unfold maxLen at hcap; omega, fun k hk => ⟨b, off, rfl, ?_⟩⟩
    rw [hlen] at hk
    have h1 := hall k (by omega)
    rw [Addr.add_mid] at h1
    rw [h1]
    congr 2
    unfold iz
    rw [List.getD_eq_getElem?_getD, List.getD_eq_getElem?_getD, List.getElem?_take_of_lt hk]

set_option maxRecDepth 100000 in
theorem sli_arg {H : Type} {enc : TypeId × Value → H} {W : World} {base0 base : Nat} {sp : Nat → Bool} {held : Bool} {v : Value} {d : DataW H} {p : List MemPlace} (hok : Value.okWide Try.prog W .any base0 26 v)
    (h : DataW.Trod enc Try.prog W base sp held 26 v d p) : ∃ L, SlI W v L := by
  have hok' : Cell.okWide Try.prog W .any base0 26 v := by simpa only [Value.okWide, Try.underlying26] using hok
  obtain ⟨a, len, cap, rfl⟩ := okWide_slice Try.underlying26 hok
  obtain ⟨m, hm⟩ := h
  exact sli_of (n := m) hok' (by simpa [Value.cells] using hm)

set_option maxRecDepth 100000 in
theorem film_cell {W : World} {base0 : Nat} {x v : Value} (hok : Value.okWide Try.prog W .any base0 28 (.agg #[x, v])) : Cell.okWide Try.prog W .any base0 26 v := by
  simp only [Value.okWide, Try.underlying28] at hok
  obtain ⟨cs, e, -, ts, hts, -, hcell⟩ := hok
  have hk : Try.prog.cellTypes Try.prog.depth 28 = some [3, 26] := by kernel_rfl
  rw [hk] at hts
  cases hts
  cases e
  obtain ⟨u, hu, hc⟩ := hcell 1 v rfl
  simp at hu
  subst hu
  exact hc

end Go.Proofs.Ytiebbbeijlfedaa
