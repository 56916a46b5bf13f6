/- Bytes, an event and counts that came in, opened. -/
import Derived.Test.YtcgmmfcphfkdhaaGreatV2
namespace Go.Proofs.YtcgmmfcphfkdhaaGreat
open Go Go.RowKit Go.Proofs Go.WideShapes Go.ChangeShapes Go.Deep Go.Torn

section
variable {H : Type} {enc : TypeId × Value → H} {W : World} {held : Bool}

set_option maxRecDepth 100000 in
theorem bytes_of {base : Nat} {v : Value} {d : DataW H} {p : List MemPlace} (hok : Value.okWide Tryz.prog W .any base 46 v) (h : DataW.Trod enc Tryz.prog W 0 (fun _ => true) held 46 v d p) : ∃ L, SlB W v L ∧ By L := by
  obtain ⟨a, len, cap, rfl⟩ := okWide_slice Tryz.underlying46 hok
  obtain ⟨m, hm⟩ := h
  have hm' : DataW.trod enc Tryz.prog W 0 (fun _ => true) held m 46 [.slice a len cap] = some (d, p) := by simpa [Value.cells] using hm
  obtain ⟨L, h1, h2, -⟩ := bytes_cell hm'
  exact ⟨L, h1, h2⟩

set_option maxRecDepth 100000 in
theorem counts_of {base : Nat} {v : Value} (hok : Value.okWide Tryz.prog W .any base 32 v) : ∃ a l c, v = .slice a l c := okWide_slice Tryz.underlying32 hok

theorem cells73 : Tryz.prog.cellsOf 73 = 35 := by kernel_rfl

set_option maxRecDepth 100000 in
theorem event_of {base : Nat} {v : Value} {d : DataW H} {p : List MemPlace} (hok : Value.okWide Tryz.prog W .any base 73 v) (h : DataW.Trod enc Tryz.prog W 0 (fun _ => true) held 73 v d p) :
    ∃ E eb, v = .agg E ∧ E.size = 35 ∧ E[1]? = some (.int .i64 eb) := by
  obtain ⟨cs, rfl, hsz⟩ := okWide_struct Tryz.underlying73 hok
  obtain ⟨m, hm⟩ := h
  have hm' : DataW.trod enc Tryz.prog W 0 (fun _ => true) held m 73 cs.toList = some (d, p) := by simpa [Value.cells] using hm
  obtain ⟨xs, k, hk, hy, hcl, hxl, hg⟩ := DataW.trod_struct Tryz.underlying73 hm'
  rw [cells73] at hcl hsz
  have hx : xs.length = 7 := hxl
  have g1 : DataW.trod enc Tryz.prog W 0 (fun _ => true) held k 3 ((cs.toList.drop 1).take (Tryz.prog.cellsOf 3)) = xs[1]? := hg 1 _ rfl
  rw [cells3, drop_one (by omega), List.getElem?_eq_getElem (by omega)] at g1
  obtain ⟨a1, e1, -, -⟩ := DataW.trod_int Tryz.underlying3 g1
  simp only [List.cons.injEq, and_true] at e1
  refine ⟨cs, a1, rfl, hsz, ?_⟩
  rw [← e1, Array.getElem?_eq_getElem (by omega)]
  simp
end
end Go.Proofs.YtcgmmfcphfkdhaaGreat
