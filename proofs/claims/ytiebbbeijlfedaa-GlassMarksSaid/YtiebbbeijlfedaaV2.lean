/- Pieces that came in, opened: lists of gauges and of marks. -/
import Derived.Test.YtiebbbeijlfedaaV1
import Derived.Test.YtiebbbeijlfedaaC5
import Derived.Test.YtiebbbeijlfedaaCA
import Derived.Deep.Slices
namespace Go.Proofs.Ytiebbbeijlfedaa
open Go Go.RowKit Go.Proofs Go.WideShapes Go.ChangeShapes Go.Deep Go.Joins

theorem cells3' : Try.prog.cellsOf 3 = 1 := by kernel_rfl
theorem cells42' : Try.prog.cellsOf 42 = 2 := by kernel_rfl
theorem cells67' : Try.prog.cellsOf 67 = 5 := by kernel_rfl
theorem cells61' : Try.prog.cellsOf 61 = 3 := by kernel_rfl

section
variable {H : Type} {enc : TypeId × Value → H} {W : World} {base n : Nat} {sp : Nat → Bool} {held : Bool}

theorem int_cell {v : Value} {y : DataW H × List MemPlace} (h : DataW.trod enc Try.prog W base sp held n 3 [v] = some y) : ∃ a, v = .int .i64 a := by
  obtain ⟨a, ea, -, -⟩ := DataW.trod_int Try.underlying3 h
  simp only [List.cons.injEq, and_true] at ea
  exact ⟨a, ea⟩

set_option maxRecDepth 100000 in
theorem span_cells {v0 v1 : Value} {y : DataW H × List MemPlace} (h : DataW.trod enc Try.prog W base sp held n 42 [v0, v1] = some y) : ∃ a b, v0 = .int .i64 a ∧ v1 = .int .i64 b := by
  obtain ⟨xs, k, _, _, _, hxl, hf⟩ := DataW.trod_struct Try.underlying42 h
  match xs, hxl with
  | [y0, y1], _ =>
    have g0 := hf 0 _ rfl
    have g1 := hf 1 _ rfl
    simp [cells3'] at g0 g1
    obtain ⟨a, rfl⟩ := int_cell g0
    obtain ⟨b, rfl⟩ := int_cell g1
    exact ⟨a, b, rfl, rfl⟩

set_option maxRecDepth 100000 in
theorem gauge_cells {v0 v1 v2 v3 v4 : Value} {y : DataW H × List MemPlace} (h : DataW.trod enc Try.prog W base sp held n 67 [v0, v1, v2, v3, v4] = some y) : ∃ a b c d e, v0 = .int .i64 a ∧ v1 = .int .i64 b ∧ v2 = .int .i64 c ∧ v3 = .int .i64 d ∧ v4 = .int .i64 e := by
  obtain ⟨xs, k, _, _, _, hxl, hf⟩ := DataW.trod_struct Try.underlying67 h
  match xs, hxl with
  | [y0, y1, y2], _ =>
    have g0 := hf 0 _ rfl
    have g1 := hf 1 _ rfl
    have g2 := hf 2 _ rfl
    simp [cells3', cells42'] at g0 g1 g2
    obtain ⟨a, b, rfl, rfl⟩ := span_cells g0
    obtain ⟨c, d, rfl, rfl⟩ := span_cells g1
    obtain ⟨e, rfl⟩ := int_cell g2
    exact ⟨a, b, c, d, e, rfl, rfl, rfl, rfl, rfl⟩

set_option maxRecDepth 100000 in
theorem mark_cells {v0 v1 v2 : Value} {y : DataW H × List MemPlace} (h : DataW.trod enc Try.prog W base sp held n 61 [v0, v1, v2] = some y) : ∃ a b c, v0 = .int .i64 a ∧ v1 = .int .i64 b ∧ v2 = .int .i64 c := by
  obtain ⟨xs, k, _, _, _, hxl, hf⟩ := DataW.trod_struct Try.underlying61 h
  match xs, hxl with
  | [y0, y1, y2], _ =>
    have g0 := hf 0 _ rfl
    have g1 := hf 1 _ rfl
    have g2 := hf 2 _ rfl
    simp [cells3'] at g0 g1 g2
    obtain ⟨a, rfl⟩ := int_cell g0
    obtain ⟨b, rfl⟩ := int_cell g1
    obtain ⟨c, rfl⟩ := int_cell g2
    exact ⟨a, b, c, rfl, rfl, rfl⟩

set_option maxRecDepth 100000 in
theorem spot22 {a : Addr} {len cap : Nat} (hok : Cell.okWide Try.prog W .any base 22 (.slice (some a) len cap)) : a.spot = none := by
  simp only [Try.underlying22, Cell.okWide, Cell.ok] at hok
  exact hok.2.2.2.1

set_option maxRecDepth 100000 in
theorem spot23 {a : Addr} {len cap : Nat} (hok : Cell.okWide Try.prog W .any base 23 (.slice (some a) len cap)) : a.spot = none := by
  simp only [Try.underlying23, Cell.okWide, Cell.ok] at hok
  exact hok.2.2.2.1

set_option maxRecDepth 100000 in
theorem slg_of {base0 : Nat} {v : Value} {x : DataW H × List MemPlace} (hok : Cell.okWide Try.prog W .any base0 22 v)
    (h : DataW.trod enc Try.prog W base sp held n 22 [v] = some x) : ∃ G, SlG W v G := by
  rcases open_slice Try.underlying22 h with ⟨hcs, -⟩ | ⟨a, len, cap, m, k, D, Pl, hcs, -, hl, hcap, hmm, -, hall⟩
  · simp only [List.cons.injEq, and_true] at hcs
    subst hcs
    exact ⟨[], none, 0, rfl, by simp, fun k hk => absurd hk (Nat.not_lt_zero _)⟩
  · simp only [List.cons.injEq, and_true] at hcs
    subst hcs
    have hsp := spot22 hok
    obtain ⟨b, off, s⟩ := a
    simp only at hsp
    subst hsp
    have hlm : len ≤ m := by rw [hmm]; split <;> omega
    have each : ∀ i, i < len → ∃ g : G5, W.cell? ⟨b, off + i * 5, none⟩ = some (.int .i64 g.a) ∧ W.cell? ⟨b, off + i * 5 + 1, none⟩ = some (.int .i64 g.b) ∧ W.cell? ⟨b, off + i * 5 + 2, none⟩ = some (.int .i64 g.c) ∧ W.cell? ⟨b, off + i * 5 + 3, none⟩ = some (.int .i64 g.d) ∧ W.cell? ⟨b, off + i * 5 + 4, none⟩ = some (.int .i64 g.e) := by
      intro i hi
      obtain ⟨cs', h1, h2⟩ := hall i (by omega)
      rw [cells67'] at h1
      obtain ⟨_, hlen, hcell⟩ := World.cells?_some h1
      match cs', hlen with
      | [v0, v1, v2, v3, v4], _ =>
        obtain ⟨a0, a1, a2, a3, a4, rfl, rfl, rfl, rfl, rfl⟩ := gauge_cells h2
        have e0 := hcell 0 (by omega)
        have e1 := hcell 1 (by omega)
        have e2 := hcell 2 (by omega)
        have e3 := hcell 3 (by omega)
        have e4 := hcell 4 (by omega)
        rw [Addr.add_mid, Addr.add_mid] at e0 e1 e2 e3 e4
        exact ⟨⟨a0, a1, a2, a3, a4⟩, by simpa using e0, by simpa using e1, by simpa using e2, by simpa using e3, by simpa using e4⟩
    have each' : ∀ i, ∃ g : G5, i < len → (W.cell? ⟨b, off + i * 5, none⟩ = some (.int .i64 g.a) ∧ W.cell? ⟨b, off + i * 5 + 1, none⟩ = some (.int .i64 g.b) ∧ W.cell? ⟨b, off + i * 5 + 2, none⟩ = some (.int .i64 g.c) ∧ W.cell? ⟨b, off + i * 5 + 3, none⟩ = some (.int .i64 g.d) ∧ W.cell? ⟨b, off + i * 5 + 4, none⟩ = some (.int .i64 g.e)) := by
      intro i
      by_cases hi : i < len
      · obtain ⟨g, hg⟩ := each i hi
        exact ⟨g, fun _ => hg⟩
      · exact ⟨⟨0, 0, 0, 0, 0⟩, fun h => absurd h hi⟩
    let f := fun i => Classical.choose (each' i)
    have hf : ∀ i, i < len → _ := fun i => Classical.choose_spec (each' i)
    have hlen : ((List.range len).map f).length = len := by simp
    refine ⟨(List.range len).map f, some ⟨b, off, none⟩, cap, by rw [hlen], by rw [hlen]; unfold maxLen at hcap; omega, fun k hk => ⟨b, off, rfl, ?_⟩⟩
    rw [hlen] at hk
    have hz : gz ((List.range len).map f) k = f k := by unfold gz; rw [List.getD_eq_getElem?_getD, List.getElem?_map, List.getElem?_range hk]; rfl
    rw [hz]
    exact hf k hk
end

end Go.Proofs.Ytiebbbeijlfedaa
