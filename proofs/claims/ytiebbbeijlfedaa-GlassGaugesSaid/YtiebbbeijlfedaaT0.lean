/- A slice of points, nil or not; one that came in, opened. -/
import Derived.Test.YtiebbbeijlfedaaRB
import Derived.Test.YtiebbbeijlfedaaV2
import Derived.Deep.SlicePairs
namespace Go.Proofs.Ytiebbbeijlfedaa
open Go Go.RowKit Go.Proofs Go.WideShapes Go.ChangeShapes Go.Deep

/-- The value is a slice, nil or not, that holds the points of L. -/
def SlV (w : World) (v : Value) (L : List (Int × Int)) : Prop := ∃ a cap, v = .slice a L.length cap ∧ L.length ≤ 9223372036854775807 ∧ ((∃ b off, a = some ⟨b, off, none⟩ ∧ PtsAt w b off L) ∨ (a = none ∧ cap = 0 ∧ L = []))

theorem SlV.keep {w w' : World} {v : Value} {L : List (Int × Int)} (h : SlV w v L) (hb : Below w.heap.size w w') : SlV w' v L := by
  obtain ⟨a, cap, rfl, hl, h⟩ := h
  refine ⟨a, cap, rfl, hl, h.imp ?_ id⟩
  rintro ⟨b, off, rfl, hp⟩
  exact ⟨b, off, rfl, hp.keep hb⟩

theorem vOut_sl {w : World} {v : Value} {L : List (Int × Int)} (h : SlV w v L) : Calls Try.prog 44 #[v] w fun e w' => e = .returned (.bool (vOut L)) ∧ Below w.heap.size w w' := by
  obtain ⟨a, cap, rfl, hl, ⟨b, off, rfl, hp⟩ | ⟨rfl, rfl, rfl⟩⟩ := h
  · exact validOutline_any b off cap L hl w hp
  · exact validOutline_nil w

theorem refOut_sl {w : World} {v : Value} {L : List (Int × Int)} (h : SlV w v L) : Calls Try.prog 47 #[v] w fun e w' => e = .returned (.bool (vOut L)) ∧ Below w.heap.size w w' := by
  obtain ⟨a, cap, rfl, hl, ⟨b, off, rfl, hp⟩ | ⟨rfl, rfl, rfl⟩⟩ := h
  · rw [vOut_rOut]
    exact refOut_any b off cap L hl w hp
  · rw [vOut_rOut]
    exact refOut_nil w

theorem vOut_nil : vOut [] = false := rfl

theorem vOut_n {L : List (Int × Int)} (h : vOut L = true) : 3 ≤ L.length ∧ L.length ≤ 24 ∧ vPts L = true := by
  unfold vOut at h
  simp only [Bool.and_eq_true, decide_eq_true_eq] at h
  exact ⟨h.1, h.2.1, h.2.2.1⟩

theorem vOut_pts {w : World} {v : Value} {L : List (Int × Int)} (h : SlV w v L) (hv : vOut L = true) : ∃ b off cap, v = .slice (some ⟨b, off, none⟩) L.length cap ∧ PtsAt w b off L := by
  obtain ⟨a, cap, rfl, hl, ⟨b, off, rfl, hp⟩ | ⟨rfl, rfl, rfl⟩⟩ := h
  · exact ⟨b, off, cap, rfl, hp⟩
  · cases hv

set_option maxRecDepth 100000 in
theorem slice_spot {W : World} {base : Nat} {a : Addr} {len cap : Nat} (hok : Value.okWide Try.prog W .any base 34 (.slice (some a) len cap)) : a.spot = none := by
  simp only [Value.okWide, Try.underlying34, Cell.okWide, Cell.ok] at hok
  exact hok.2.2.2.1

set_option maxRecDepth 100000 in
theorem slv_of {H : Type} {enc : TypeId × Value → H} {W : World} {base : Nat} {sp : Nat → Bool} {held : Bool} {v : Value} {d : DataW H} {p : List MemPlace} (hok : Value.okWide Try.prog W .any base 34 v)
    (h : DataW.Trod enc Try.prog W 0 sp held 34 v d p) : ∃ L, SlV W v L := by
  obtain ⟨a, len, cap, rfl⟩ := okWide_slice Try.underlying34 hok
  obtain ⟨m, hm⟩ := h
  rcases open_slice_pairs Try.underlying34 Try.underlying65 (by kernel_rfl) rfl rfl (by kernel_rfl) (by kernel_rfl) hm with ⟨hcs, -⟩ | ⟨a', len', cap', m', n', V0, V1, D0, D1, P0, P1, hcs, -, hl, hcap, hmm, -, hall⟩
  · have e : Value.slice a len cap = .slice none 0 0 := by simpa [Value.cells] using hcs
    simp only [Value.slice.injEq] at e
    obtain ⟨rfl, rfl, rfl⟩ := e
    exact ⟨[], none, 0, rfl, by simp, .inr ⟨rfl, rfl, rfl⟩⟩
  · have e : Value.slice a len cap = .slice (some a') len' cap' := by simpa [Value.cells] using hcs
    simp only [Value.slice.injEq] at e
    obtain ⟨rfl, rfl, rfl⟩ := e
    have hsp := slice_spot hok
    obtain ⟨b, off, s⟩ := a'
    simp only at hsp
    subst hsp
    have hlm : len ≤ m' := by rw [hmm]; split <;> omega
    have hlen : ((List.range len).map fun i => (intOf (V0 i), intOf (V1 i))).length = len := by simp
    refine ⟨(List.range len).map fun i => (intOf (V0 i), intOf (V1 i)), some ⟨b, off, none⟩, cap, by rw [hlen], by rw [hlen]; unfold maxLen at hcap; omega, .inl ⟨b, off, rfl, fun k hk => ?_⟩⟩
    rw [hlen] at hk
    obtain ⟨c0, c1, t0, t1⟩ := hall k (by omega)
    obtain ⟨x, ex, -, -⟩ := DataW.trod_int Try.underlying3 t0
    obtain ⟨y, ey, -, -⟩ := DataW.trod_int Try.underlying3 t1
    simp only [List.cons.injEq, and_true] at ex ey
    have hx : px ((List.range len).map fun i => (intOf (V0 i), intOf (V1 i))) k = x := by simp [px, hk, ex, intOf]
    have hy : py ((List.range len).map fun i => (intOf (V0 i), intOf (V1 i))) k = y := by simp [py, hk, ey, intOf]
    rw [hx, hy]
    rw [ex] at c0
    rw [ey] at c1
    rw [add_plain] at c0 c1
    exact ⟨c0, by simpa [Nat.add_assoc] using c1⟩

end Go.Proofs.Ytiebbbeijlfedaa
