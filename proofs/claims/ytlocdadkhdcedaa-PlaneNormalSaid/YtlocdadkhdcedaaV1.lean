/- A slice of points that came in, opened. -/
import Derived.Test.YtlocdadkhdcedaaKD
import Derived.OpenShut
import Derived.Deep.SlicePairs
namespace Go.Proofs.Ytlocdadkhdcedaa
open Go Go.RowKit Go.Proofs Go.WideShapes Go.ChangeShapes Go.Deep

set_option maxRecDepth 100000 in
theorem slice_spot {W : World} {base : Nat} {a : Addr} {len cap : Nat} (hok : Value.okWide Try.prog W .any base 32 (.slice (some a) len cap)) : a.spot = none := by
  simp only [Value.okWide, Try.underlying32, Cell.okWide, Cell.ok] at hok
  exact hok.2.2.2.1

set_option maxRecDepth 100000 in
theorem slv_of {H : Type} {enc : TypeId × Value → H} {W : World} {base : Nat} {sp : Nat → Bool} {held : Bool} {v : Value} {d : DataW H} {p : List MemPlace} (hok : Value.okWide Try.prog W .any base 32 v)
    (h : DataW.Trod enc Try.prog W 0 sp held 32 v d p) : ∃ L, SlV W v L := by
  obtain ⟨a, len, cap, rfl⟩ := okWide_slice Try.underlying32 hok
  obtain ⟨m, hm⟩ := h
  rcases open_slice_pairs Try.underlying32 Try.underlying23 (by kernel_rfl) rfl rfl (by kernel_rfl) (by kernel_rfl) hm with ⟨hcs, -⟩ | ⟨a', len', cap', m', n', V0, V1, D0, D1, P0, P1, hcs, -, hl, hcap, hmm, -, hall⟩
  · have e : Value.slice a len cap = .slice none 0 0 := by simpa [Value.cells] using hcs
    simp only [Value.slice.injEq] at e
    obtain ⟨rfl, rfl, rfl⟩ := e
    exact ⟨[], none, 0, rfl, by simp, .inr ⟨rfl, rfl, rfl⟩⟩
  · have e : Value.slice a len cap = .slice (some a') len' cap' := by simpa [Value.cells] using hcs
    simp only [Value.slice.injEq] at e
    obtain ⟨rfl, rfl, rfl⟩ := e
    have hsp := slice_spot hok
    obtain ⟨b, off, s⟩ := a'
    simp only at hsp
    subst hsp
    have hlm : len ≤ m' := by rw [hmm]; split <;> omega
    have hlen : ((List.range len).map fun i => (intOf (V0 i), intOf (V1 i))).length = len := by simp
    refine ⟨(List.range len).map fun i => (intOf (V0 i), intOf (V1 i)), some ⟨b, off, none⟩, cap, by rw [hlen], by rw [hlen]; unfold maxLen at hcap; omega, .inl ⟨b, off, rfl, fun k hk => ?_⟩⟩
    rw [hlen] at hk
    obtain ⟨c0, c1, t0, t1⟩ := hall k (by omega)
    obtain ⟨x, ex, -, -⟩ := DataW.trod_int Try.underlying3 t0
    obtain ⟨y, ey, -, -⟩ := DataW.trod_int Try.underlying3 t1
    simp only [List.cons.injEq, and_true] at ex ey
    have hx : px ((List.range len).map fun i => (intOf (V0 i), intOf (V1 i))) k = x := by simp [px, hk, ex, intOf]
    have hy : py ((List.range len).map fun i => (intOf (V0 i), intOf (V1 i))) k = y := by simp [py, hk, ey, intOf]
    rw [hx, hy]
    rw [ex] at c0
    rw [ey] at c1
    rw [add_plain] at c0 c1
    exact ⟨c0, by simpa [Nat.add_assoc] using c1⟩

end Go.Proofs.Ytlocdadkhdcedaa
