/- Pieces that came in, opened. -/
import Derived.Test.YtkmcboincjohlaaGreatGrLI
import Derived.Test.YtkmcboincjohlaaGreatGrLC
namespace Go.Proofs.YtkmcboincjohlaaGreat
open Go Go.RowKit Go.Proofs Go.WideShapes Go.ChangeShapes Go.Deep Go.Joins

section
variable {H : Type} {enc : TypeId × Value → H} {W : World} {base n : Nat} {sp : Nat → Bool} {held : Bool}

set_option maxRecDepth 100000 in
theorem slm_of {base0 : Nat} {v : Value} {x : DataW H × List MemPlace} (hok : Cell.okWide Tryz.prog W .any base0 38 v)
    (h : DataW.trod enc Tryz.prog W base sp held n 38 [v] = some x) : ∃ M, SlM W v M := by
  rcases open_slice Tryz.underlying38 h with ⟨hcs, -⟩ | ⟨a, len, cap, m, k, D, Pl, hcs, -, hl, hcap, hmm, -, hall⟩
  · simp only [List.cons.injEq, and_true] at hcs
    subst hcs
    exact ⟨[], none, 0, rfl, by simp, fun k hk => absurd hk (Nat.not_lt_zero _)⟩
  · simp only [List.cons.injEq, and_true] at hcs
    subst hcs
    have hsp := spot23 hok
    obtain ⟨b, off, s⟩ := a
    simp only at hsp
    subst hsp
    have hlm : len ≤ m := by rw [hmm]; split <;> omega
    have each : ∀ i, i < len → ∃ g : M3, W.cell? ⟨b, off + i * 3, none⟩ = some (.int .i64 g.x) ∧ W.cell? ⟨b, off + i * 3 + 1, none⟩ = some (.int .i64 g.y) ∧ W.cell? ⟨b, off + i * 3 + 2, none⟩ = some (.int .i64 g.z) := by
      intro i hi
      obtain ⟨cs', h1, h2⟩ := hall i (by omega)
      rw [cells61'] at h1
      obtain ⟨_, hlen, hcell⟩ := World.cells?_some h1
      match cs', hlen with
      | [v0, v1, v2], _ =>
        obtain ⟨a0, a1, a2, rfl, rfl, rfl⟩ := mark_cells h2
        have e0 := hcell 0 (by omega)
        have e1 := hcell 1 (by omega)
        have e2 := hcell 2 (by omega)
        rw [Addr.add_mid, Addr.add_mid] at e0 e1 e2
        exact ⟨⟨a0, a1, a2⟩, by simpa using e0, by simpa using e1, by simpa using e2⟩
    have each' : ∀ i, ∃ g : M3, i < len → (W.cell? ⟨b, off + i * 3, none⟩ = some (.int .i64 g.x) ∧ W.cell? ⟨b, off + i * 3 + 1, none⟩ = some (.int .i64 g.y) ∧ W.cell? ⟨b, off + i * 3 + 2, none⟩ = some (.int .i64 g.z)) := by
      intro i
      by_cases hi : i < len
      · obtain ⟨g, hg⟩ := each i hi
        exact ⟨g, fun _ => hg⟩
      · exact ⟨⟨0, 0, 0⟩, fun h => absurd h hi⟩
    let f := fun i => Classical.choose (each' i)
    have hf : ∀ i, i < len → _ := fun i => Classical.choose_spec (each' i)
    have hlen : ((List.range len).map f).length = len := by simp
    refine ⟨(List.range len).map f, some ⟨b, off, none⟩, cap, by rw [hlen], by rw [hlen]; unfold maxLen at hcap; omega, fun k hk => ⟨b, off, rfl, ?_⟩⟩
    rw [hlen] at hk
    have hz : mq ((List.range len).map f) k = f k := by unfold mq; rw [List.getD_eq_getElem?_getD, List.getElem?_map, List.getElem?_range hk]; rfl
    rw [hz]
    exact hf k hk
end

theorem array7 {α : Type} {cs : Array α} (h : cs.size = 7) : ∃ c0 c1 c2 c3 c4 c5 c6, cs = #[c0, c1, c2, c3, c4, c5, c6] := by
  obtain ⟨l⟩ := cs
  match l, h with
  | [c0, c1, c2, c3, c4, c5, c6], _ => exact ⟨c0, c1, c2, c3, c4, c5, c6, rfl⟩

set_option maxRecDepth 100000 in
theorem pcs_slices {W : World} {base0 : Nat} {x0 x1 x2 x3 x4 vg vm : Value} (hok : Value.okWide Tryz.prog W .any base0 40 (.agg #[x0, x1, x2, x3, x4, vg, vm])) : Cell.okWide Tryz.prog W .any base0 31 vg ∧ Cell.okWide Tryz.prog W .any base0 38 vm := by
  simp only [Value.okWide, Tryz.underlying40] at hok
  obtain ⟨cs, e, -, ts, hts, -, hcell⟩ := hok
  have hk : Tryz.prog.cellTypes Tryz.prog.depth 40 = some [3, 3, 3, 3, 3, 31, 38] := by kernel_rfl
  rw [hk] at hts
  cases hts
  cases e
  obtain ⟨u, hu, hc⟩ := hcell 5 vg rfl
  obtain ⟨u', hu', hc'⟩ := hcell 6 vm rfl
  simp at hu hu'
  subst hu
  subst hu'
  exact ⟨hc, hc'⟩

theorem cells25' : Tryz.prog.cellsOf 40 = 7 := by kernel_rfl
theorem cells22' : Tryz.prog.cellsOf 31 = 1 := by kernel_rfl
theorem cells23' : Tryz.prog.cellsOf 38 = 1 := by kernel_rfl

set_option maxRecDepth 100000 in
theorem piece_of {H : Type} {enc : TypeId × Value → H} {W : World} {base0 base : Nat} {sp : Nat → Bool} {held : Bool} {v : Value} {d : DataW H} {p : List MemPlace} (hok : Value.okWide Tryz.prog W .any base0 40 v)
    (h : DataW.Trod enc Tryz.prog W base sp held 40 v d p) : ∃ id c r m s vg vm G M, v = pcs id c r m s vg vm ∧ SlG W vg G ∧ SlM W vm M := by
  obtain ⟨cs, rfl, hsz⟩ := okWide_struct Tryz.underlying40 hok
  obtain ⟨c0, c1, c2, c3, c4, c5, c6, rfl⟩ := array7 (hsz.trans cells25')
  obtain ⟨fuel, hf⟩ := h
  have hs := pcs_slices hok
  have hf' : DataW.trod enc Tryz.prog W base sp held fuel 40 [c0, c1, c2, c3, c4, c5, c6] = some (d, p) := by simpa [Value.cells] using hf
  obtain ⟨xs, k, _, _, _, hxl, hg⟩ := DataW.trod_struct Tryz.underlying40 hf'
  match xs, hxl with
  | [y0, y1, y2, y3, y4, y5, y6], _ =>
    have g0 := hg 0 _ rfl
    have g1 := hg 1 _ rfl
    have g2 := hg 2 _ rfl
    have g3 := hg 3 _ rfl
    have g4 := hg 4 _ rfl
    have g5 := hg 5 _ rfl
    have g6 := hg 6 _ rfl
    simp [cells3', cells22', cells23'] at g0 g1 g2 g3 g4 g5 g6
    obtain ⟨a0, rfl⟩ := int_cell g0
    obtain ⟨a1, rfl⟩ := int_cell g1
    obtain ⟨a2, rfl⟩ := int_cell g2
    obtain ⟨a3, rfl⟩ := int_cell g3
    obtain ⟨a4, rfl⟩ := int_cell g4
    obtain ⟨G, hG⟩ := slg_of hs.1 g5
    obtain ⟨M, hM⟩ := slm_of hs.2 g6
    exact ⟨a0, a1, a2, a3, a4, c5, c6, G, M, rfl, hG, hM⟩

end Go.Proofs.YtkmcboincjohlaaGreat
