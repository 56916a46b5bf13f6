/- A slice of notes that came in, opened, with the ranges of its numbers. -/
import Derived.Test.YtcgmmfcphfkdhaaGreatGrNA
import Derived.Test.YtcgmmfcphfkdhaaGreatGrO2
import Derived.OpenShut
import Derived.SizedLaws
import Derived.Deep.Slices
import Derived.Deep.MidRow
namespace Go.Proofs.YtcgmmfcphfkdhaaGreat
open Go Go.RowKit Go.Proofs Go.WideShapes Go.ChangeShapes Go.Deep Go.Torn

section
variable {H : Type} {enc : TypeId × Value → H} {W : World} {n : Nat} {held : Bool}

theorem cellsN3 : Tryz.prog.cellsOf 3 = 1 := by kernel_rfl
theorem cellsN32 : Tryz.prog.cellsOf 32 = 1 := by kernel_rfl
theorem cellsN4 : Tryz.prog.cellsOf 4 = 1 := by kernel_rfl
theorem cellsN29 : Tryz.prog.cellsOf 29 = 2 := by kernel_rfl
theorem cellsN31 : Tryz.prog.cellsOf 31 = 2 := by kernel_rfl
theorem cellsN33 : Tryz.prog.cellsOf 33 = 1 := by kernel_rfl
theorem cellsN35 : Tryz.prog.cellsOf 35 = 2 := by kernel_rfl
theorem cellsN36 : Tryz.prog.cellsOf 36 = 1 := by kernel_rfl
theorem cellsN38 : Tryz.prog.cellsOf 38 = 12 := by kernel_rfl
theorem cellsN40 : Tryz.prog.cellsOf 40 = 29 := by kernel_rfl
theorem cellsN102 : Tryz.prog.cellsOf 102 = 5 := by kernel_rfl
theorem cellsN103 : Tryz.prog.cellsOf 103 = 1 := by kernel_rfl
theorem cellsN104 : Tryz.prog.cellsOf 104 = 1 := by kernel_rfl
theorem cellsN106 : Tryz.prog.cellsOf 106 = 7 := by kernel_rfl
theorem cellsN194 : Tryz.prog.cellsOf 194 = 8 := by kernel_rfl
theorem cellsN198 : Tryz.prog.cellsOf 198 = 3 := by kernel_rfl

theorem wf_i64 {n : Int} (h : (Lit.int .i64 n).wf = true) : I64 n := by
 have h' : (decide (IntKind.i64.min ≤ n) && decide (n ≤ IntKind.i64.max)) = true := h
 have e1 : IntKind.i64.min = -9223372036854775808 := rfl
 have e2 : IntKind.i64.max = 9223372036854775807 := rfl
 rw [e1, e2] at h'
 simp only [Bool.and_eq_true, decide_eq_true_eq] at h'
 exact h'

theorem nint_cell {v : Value} {y : DataW H × List MemPlace} (h : DataW.trod enc Tryz.prog W 0 (fun _ => true) held n 3 [v] = some y) : ∃ a, v = .int .i64 a ∧ I64 a := by
 obtain ⟨a, ea, -, hw⟩ := DataW.trod_int Tryz.underlying3 h
 simp only [List.cons.injEq, and_true] at ea
 exact ⟨a, ea, wf_i64 hw⟩

theorem nbool_cell {v : Value} {y : DataW H × List MemPlace} (h : DataW.trod enc Tryz.prog W 0 (fun _ => true) held n 4 [v] = some y) : ∃ a, v = .bool a := by
 obtain ⟨a, ea, -⟩ := DataW.trod_bool Tryz.underlying4 h
 simp only [List.cons.injEq, and_true] at ea
 exact ⟨a, ea⟩

theorem nints_cell {c : Value} {y : DataW H × List MemPlace} (h : DataW.trod enc Tryz.prog W 0 (fun _ => true) held n 32 [c] = some y) : ∃ L, SlI W c L ∧ ∀ k, k < L.length → I64 (iz L k) := by
 rcases open_ints Tryz.underlying32 Tryz.underlying3 cellsN3 h with ⟨hcs, -⟩ | ⟨a, len, cap, zs, hcs, -, hl, hm, hz, hy, hcell, hw⟩
 ·simp only [List.cons.injEq, and_true] at hcs
  subst hcs
  exact ⟨[], sli_nil _, fun k hk => by simp at hk⟩
 ·simp only [List.cons.injEq, and_true] at hcs
  subst hcs
  simp only [if_true] at hz
  have hlen : (zs.take len).length = len := by rw [List.length_take]; omega
  refine ⟨zs.take len, ⟨a, cap, by rw [hlen], by rw [hlen]; unfold maxLen at hm; omega, fun k hk => ?_⟩, fun k hk => wf_i64 (hw _ (by
   have e : iz (zs.take len) k = (zs.take len)[k] := iz_get _ _ hk
   rw [e]
   exact List.mem_of_mem_take (List.getElem_mem hk)))⟩
  rw [hlen] at hk
  obtain ⟨b, off, s⟩ := a
  have hc := hcell k (by omega)
  have hs : s = none := by simpa [Addr.add] using World.cell?_spot (hcell 0 (by omega))
  subst hs
  refine ⟨b, off, rfl, ?_⟩
  rw [Addr.add_mid] at hc
  rw [hc]
  unfold iz
  rw [List.getD_eq_getElem?_getD, List.getD_eq_getElem?_getD, List.getElem?_take_of_lt hk]

set_option maxRecDepth 100000 in
set_option maxHeartbeats 4000000 in
theorem nspan_cells {cs : List Value} {y : DataW H × List MemPlace} (h : DataW.trod enc Tryz.prog W 0 (fun _ => true) held n 35 cs = some y) : ∃ a b, cs = [.int .i64 a, .int .i64 b] ∧ I64 a ∧ I64 b := by
 obtain ⟨xs, k, _, _, hcl, hxl, hf⟩ := DataW.trod_struct Tryz.underlying35 h
 rw [cellsN35] at hcl
 match cs, hcl, xs, hxl with
 | [v0, v1], _, [y0, y1], _ =>
  have g0 := hf 0 _ rfl
  simp [cellsN3] at g0
  have g1 := hf 1 _ rfl
  simp [cellsN3] at g1
  obtain ⟨a0, rfl, r0⟩ := nint_cell g0
  obtain ⟨a1, rfl, r1⟩ := nint_cell g1
  exact ⟨a0, a1, rfl, r0, r1⟩

set_option maxRecDepth 100000 in
set_option maxHeartbeats 4000000 in
theorem nref_cells {cs : List Value} {y : DataW H × List MemPlace} (h : DataW.trod enc Tryz.prog W 0 (fun _ => true) held n 31 cs = some y) : ∃ a b, cs = [.int .i64 a, .int .i64 b] ∧ I64 a ∧ I64 b := by
 obtain ⟨xs, k, _, _, hcl, hxl, hf⟩ := DataW.trod_struct Tryz.underlying31 h
 rw [cellsN31] at hcl
 match cs, hcl, xs, hxl with
 | [v0, v1], _, [y0, y1], _ =>
  have g0 := hf 0 _ rfl
  simp [cellsN3] at g0
  have g1 := hf 1 _ rfl
  simp [cellsN3] at g1
  obtain ⟨a0, rfl, r0⟩ := nint_cell g0
  obtain ⟨a1, rfl, r1⟩ := nint_cell g1
  exact ⟨a0, a1, rfl, r0, r1⟩

set_option maxRecDepth 100000 in
set_option maxHeartbeats 4000000 in
theorem nset_cells {cs : List Value} {y : DataW H × List MemPlace} (h : DataW.trod enc Tryz.prog W 0 (fun _ => true) held n 29 cs = some y) : ∃ a b, cs = [.int .i64 a, .bool b] ∧ I64 a := by
 obtain ⟨xs, k, _, _, hcl, hxl, hf⟩ := DataW.trod_struct Tryz.underlying29 h
 rw [cellsN29] at hcl
 match cs, hcl, xs, hxl with
 | [v0, v1], _, [y0, y1], _ =>
  have g0 := hf 0 _ rfl
  simp [cellsN3] at g0
  have g1 := hf 1 _ rfl
  simp [cellsN4] at g1
  obtain ⟨a0, rfl, r0⟩ := nint_cell g0
  obtain ⟨a1, rfl⟩ := nbool_cell g1
  exact ⟨a0, a1, rfl, r0⟩

set_option maxRecDepth 100000 in
set_option maxHeartbeats 4000000 in
theorem ngauge_cells {cs : List Value} {y : DataW H × List MemPlace} (h : DataW.trod enc Tryz.prog W 0 (fun _ => true) held n 102 cs = some y) : ∃ g : G5, cs = [.int .i64 g.a, .int .i64 g.b, .int .i64 g.c, .int .i64 g.d, .int .i64 g.e] ∧ g.rg := by
 obtain ⟨xs, k, _, _, hcl, hxl, hf⟩ := DataW.trod_struct Tryz.underlying102 h
 rw [cellsN102] at hcl
 match cs, hcl, xs, hxl with
 | [v0, v1, v2, v3, v4], _, [y0, y1, y2], _ =>
  have g0 := hf 0 _ rfl
  simp [cellsN35] at g0
  have g1 := hf 1 _ rfl
  simp [cellsN35] at g1
  have g2 := hf 2 _ rfl
  simp [cellsN3] at g2
  obtain ⟨a0, a1, e0, r0, r1⟩ := nspan_cells g0
  simp only [List.cons.injEq, and_true] at e0
  obtain ⟨rfl, rfl⟩ := e0
  obtain ⟨a2, a3, e1, r2, r3⟩ := nspan_cells g1
  simp only [List.cons.injEq, and_true] at e1
  obtain ⟨rfl, rfl⟩ := e1
  obtain ⟨a4, rfl, r4⟩ := nint_cell g2
  exact ⟨⟨a0, a1, a2, a3, a4⟩, rfl, r0, r1, r2, r3, r4⟩

set_option maxRecDepth 100000 in
set_option maxHeartbeats 4000000 in
theorem nmark_cells {cs : List Value} {y : DataW H × List MemPlace} (h : DataW.trod enc Tryz.prog W 0 (fun _ => true) held n 198 cs = some y) : ∃ g : M3, cs = [.int .i64 g.x, .int .i64 g.y, .int .i64 g.z] ∧ g.rg := by
 obtain ⟨xs, k, _, _, hcl, hxl, hf⟩ := DataW.trod_struct Tryz.underlying198 h
 rw [cellsN198] at hcl
 match cs, hcl, xs, hxl with
 | [v0, v1, v2], _, [y0, y1, y2], _ =>
  have g0 := hf 0 _ rfl
  simp [cellsN3] at g0
  have g1 := hf 1 _ rfl
  simp [cellsN3] at g1
  have g2 := hf 2 _ rfl
  simp [cellsN3] at g2
  obtain ⟨a0, rfl, r0⟩ := nint_cell g0
  obtain ⟨a1, rfl, r1⟩ := nint_cell g1
  obtain ⟨a2, rfl, r2⟩ := nint_cell g2
  exact ⟨⟨a0, a1, a2⟩, rfl, r0, r1, r2⟩

set_option maxRecDepth 100000 in
set_option maxHeartbeats 4000000 in
theorem nsight_cells {cs : List Value} {y : DataW H × List MemPlace} (h : DataW.trod enc Tryz.prog W 0 (fun _ => true) held n 194 cs = some y) : ∃ g : S8, cs = [.int .i64 g.a, .int .i64 g.b, .int .i64 g.c, .int .i64 g.d, .int .i64 g.e, .int .i64 g.f, .int .i64 g.g, .int .i64 g.h] ∧ g.rg := by
 obtain ⟨xs, k, _, _, hcl, hxl, hf⟩ := DataW.trod_struct Tryz.underlying194 h
 rw [cellsN194] at hcl
 match cs, hcl, xs, hxl with
 | [v0, v1, v2, v3, v4, v5, v6, v7], _, [y0, y1, y2, y3, y4], _ =>
  have g0 := hf 0 _ rfl
  simp [cellsN3] at g0
  have g1 := hf 1 _ rfl
  simp [cellsN3] at g1
  have g2 := hf 2 _ rfl
  simp [cellsN35] at g2
  have g3 := hf 3 _ rfl
  simp [cellsN35] at g3
  have g4 := hf 4 _ rfl
  simp [cellsN35] at g4
  obtain ⟨a0, rfl, r0⟩ := nint_cell g0
  obtain ⟨a1, rfl, r1⟩ := nint_cell g1
  obtain ⟨a2, a3, e2, r2, r3⟩ := nspan_cells g2
  simp only [List.cons.injEq, and_true] at e2
  obtain ⟨rfl, rfl⟩ := e2
  obtain ⟨a4, a5, e3, r4, r5⟩ := nspan_cells g3
  simp only [List.cons.injEq, and_true] at e3
  obtain ⟨rfl, rfl⟩ := e3
  obtain ⟨a6, a7, e4, r6, r7⟩ := nspan_cells g4
  simp only [List.cons.injEq, and_true] at e4
  obtain ⟨rfl, rfl⟩ := e4
  exact ⟨⟨a0, a1, a2, a3, a4, a5, a6, a7⟩, rfl, r0, r1, r2, r3, r4, r5, r6, r7⟩

theorem nrow_of {t e : TypeId} {v : Value} {y : DataW H × List MemPlace} {α : Type} (z : α) (Q : List Value → α → Prop) (N : Nat) (ht : Tryz.prog.underlying t = some (.slice e)) (hc : Tryz.prog.cellsOf e = N) (hN : 0 < N)
  (hQ : ∀ n cs y, DataW.trod enc Tryz.prog W 0 (fun _ => true) held n e cs = some y → ∃ a, Q cs a)
  (h : DataW.trod enc Tryz.prog W 0 (fun _ => true) held n t [v] = some y) : ∃ (L : List α) (a : Option Addr) (cap : Nat), v = .slice a L.length cap ∧ L.length ≤ 9223372036854775807 ∧
   ∀ k, k < L.length → ∃ b off, a = some ⟨b, off, none⟩ ∧ ∃ cs, Q cs (L.getD k z) ∧ cs.length = N ∧ ∀ j u, cs[j]? = some u → W.cell? ⟨b, off + k * N + j, none⟩ = some u := by
 rcases open_slice ht h with ⟨hcs, -⟩ | ⟨a, len, cap, m, k, D, Pl, hcs, -, hl, hcap, hmm, -, hall⟩
 ·simp only [List.cons.injEq, and_true] at hcs
  subst hcs
  exact ⟨[], none, 0, rfl, by simp, fun k hk => absurd hk (Nat.not_lt_zero _)⟩
 ·simp only [List.cons.injEq, and_true] at hcs
  subst hcs
  simp only [if_true] at hmm
  subst hmm
  have each : ∀ i, ∃ x : α, i < len → ∃ b off, a = ⟨b, off, none⟩ ∧ ∃ cs, Q cs x ∧ cs.length = N ∧ ∀ j u, cs[j]? = some u → W.cell? ⟨b, off + i * N + j, none⟩ = some u := by
   intro i
   by_cases hi : i < len
   ·obtain ⟨cs, h1, h2⟩ := hall i (by omega)
    rw [hc] at h1
    obtain ⟨-, hlen, hcell⟩ := World.cells?_some h1
    obtain ⟨x, hx⟩ := hQ _ _ _ h2
    obtain ⟨b, off, s⟩ := a
    have hs : s = none := by
     obtain ⟨cs0, h3, -⟩ := hall 0 (by omega)
     rw [hc] at h3
     obtain ⟨-, hlen0, hcell0⟩ := World.cells?_some h3
     have c0 := hcell0 0 (by omega)
     rw [List.getElem?_eq_getElem (by omega)] at c0
     simpa [Addr.add] using World.cell?_spot c0
    subst hs
    refine ⟨x, fun _ => ⟨b, off, rfl, cs, hx, hlen, fun j u hu => ?_⟩⟩
    have hj : j < N := by
     have := (List.getElem?_eq_some_iff.1 hu).1
     omega
    have := hcell j hj
    rw [Addr.add_mid, Addr.add_mid] at this
    rw [this, hu]
   ·exact ⟨z, fun h => absurd h hi⟩
  let f := fun i => Classical.choose (each i)
  have hf : ∀ i, i < len → _ := fun i => Classical.choose_spec (each i)
  have hlen : ((List.range len).map f).length = len := by simp
  refine ⟨(List.range len).map f, some a, _, by rw [hlen], by rw [hlen]; unfold maxLen at hcap; omega, fun k hk => ?_⟩
  rw [hlen] at hk
  have hz : ((List.range len).map f).getD k z = f k := by rw [List.getD_eq_getElem?_getD, List.getElem?_map, List.getElem?_range hk]; rfl
  rw [hz]
  obtain ⟨b, off, e, r⟩ := hf k hk
  exact ⟨b, off, by rw [e], r⟩

theorem ngauges_cell {c : Value} {y : DataW H × List MemPlace} (h : DataW.trod enc Tryz.prog W 0 (fun _ => true) held n 103 [c] = some y) : ∃ G, SlG W c G ∧ ∀ k, k < G.length → (gz G k).rg := by
 obtain ⟨G, a, cap, rfl, hl, hk⟩ := nrow_of (⟨0, 0, 0, 0, 0⟩ : G5) (fun cs g => cs = [.int .i64 g.a, .int .i64 g.b, .int .i64 g.c, .int .i64 g.d, .int .i64 g.e] ∧ g.rg) 5 Tryz.underlying103 cellsN102 (by decide) (fun n cs y h => ngauge_cells h) h
 refine ⟨G, ⟨a, cap, rfl, hl, fun k hk' => ?_⟩, fun k hk' => ?_⟩
 case refine_2 =>
  obtain ⟨b, off, -, cs, ⟨-, hr⟩, -⟩ := hk k hk'
  exact hr
 obtain ⟨b, off, rfl, cs, ⟨rfl, -⟩, -, hc⟩ := hk k hk'
 exact ⟨b, off, rfl, hc 0 _ rfl, hc 1 _ rfl, hc 2 _ rfl, hc 3 _ rfl, hc 4 _ rfl⟩

theorem nmarks_cell {c : Value} {y : DataW H × List MemPlace} (h : DataW.trod enc Tryz.prog W 0 (fun _ => true) held n 104 [c] = some y) : ∃ M, SlM W c M ∧ ∀ k, k < M.length → (mq M k).rg := by
 obtain ⟨G, a, cap, rfl, hl, hk⟩ := nrow_of (⟨0, 0, 0⟩ : M3) (fun cs g => cs = [.int .i64 g.x, .int .i64 g.y, .int .i64 g.z] ∧ g.rg) 3 Tryz.underlying104 cellsN198 (by decide) (fun n cs y h => nmark_cells h) h
 refine ⟨G, ⟨a, cap, rfl, hl, fun k hk' => ?_⟩, fun k hk' => ?_⟩
 case refine_2 =>
  obtain ⟨b, off, -, cs, ⟨-, hr⟩, -⟩ := hk k hk'
  exact hr
 obtain ⟨b, off, rfl, cs, ⟨rfl, -⟩, -, hc⟩ := hk k hk'
 exact ⟨b, off, rfl, hc 0 _ rfl, hc 1 _ rfl, hc 2 _ rfl⟩

theorem nsights_cell {c : Value} {y : DataW H × List MemPlace} (h : DataW.trod enc Tryz.prog W 0 (fun _ => true) held n 36 [c] = some y) : ∃ S, SlS W c S ∧ ∀ k, k < S.length → (sz S k).rg := by
 obtain ⟨G, a, cap, rfl, hl, hk⟩ := nrow_of (⟨0, 0, 0, 0, 0, 0, 0, 0⟩ : S8) (fun cs g => cs = [.int .i64 g.a, .int .i64 g.b, .int .i64 g.c, .int .i64 g.d, .int .i64 g.e, .int .i64 g.f, .int .i64 g.g, .int .i64 g.h] ∧ g.rg) 8 Tryz.underlying36 cellsN194 (by decide) (fun n cs y h => nsight_cells h) h
 refine ⟨G, ⟨a, cap, rfl, hl, fun k hk' => ?_⟩, fun k hk' => ?_⟩
 case refine_2 =>
  obtain ⟨b, off, -, cs, ⟨-, hr⟩, -⟩ := hk k hk'
  exact hr
 obtain ⟨b, off, rfl, cs, ⟨rfl, -⟩, -, hc⟩ := hk k hk'
 exact ⟨b, off, rfl, hc 0 _ rfl, hc 1 _ rfl, hc 2 _ rfl, hc 3 _ rfl, hc 4 _ rfl, hc 5 _ rfl, hc 6 _ rfl, hc 7 _ rfl⟩

set_option maxRecDepth 100000 in
set_option maxHeartbeats 4000000 in
theorem npiece_cells {cs : List Value} {y : DataW H × List MemPlace} (h : DataW.trod enc Tryz.prog W 0 (fun _ => true) held n 106 cs = some y) : ∃ p : Pc, ∃ vg vm, SlG W vg p.G ∧ SlM W vm p.M ∧ cs = [.int .i64 p.id, .int .i64 p.c, .int .i64 p.r, .int .i64 p.m, .int .i64 p.s, vg, vm] ∧ p.rg := by
 obtain ⟨xs, k, _, _, hcl, hxl, hf⟩ := DataW.trod_struct Tryz.underlying106 h
 rw [cellsN106] at hcl
 match cs, hcl, xs, hxl with
 | [v0, v1, v2, v3, v4, v5, v6], _, [y0, y1, y2, y3, y4, y5, y6], _ =>
  have g0 := hf 0 _ rfl
  simp [cellsN3] at g0
  have g1 := hf 1 _ rfl
  simp [cellsN3] at g1
  have g2 := hf 2 _ rfl
  simp [cellsN3] at g2
  have g3 := hf 3 _ rfl
  simp [cellsN3] at g3
  have g4 := hf 4 _ rfl
  simp [cellsN3] at g4
  have g5 := hf 5 _ rfl
  simp [cellsN103] at g5
  have g6 := hf 6 _ rfl
  simp [cellsN104] at g6
  obtain ⟨a0, rfl, r0⟩ := nint_cell g0
  obtain ⟨a1, rfl, r1⟩ := nint_cell g1
  obtain ⟨a2, rfl, r2⟩ := nint_cell g2
  obtain ⟨a3, rfl, r3⟩ := nint_cell g3
  obtain ⟨a4, rfl, r4⟩ := nint_cell g4
  obtain ⟨L5, s5, q5⟩ := ngauges_cell g5
  obtain ⟨L6, s6, q6⟩ := nmarks_cell g6
  exact ⟨⟨a0, a1, a2, a3, a4, L5, L6⟩, _, _, s5, s6, rfl, r0, r1, r2, r3, r4, q5, q6⟩

theorem npieces_cell {c : Value} {y : DataW H × List MemPlace} (h : DataW.trod enc Tryz.prog W 0 (fun _ => true) held n 33 [c] = some y) : ∃ D, SlP W c D ∧ ∀ k, k < D.length → (pz D k).rg := by
 obtain ⟨G, a, cap, rfl, hl, hk⟩ := nrow_of (⟨0, 0, 0, 0, 0, [], []⟩ : Pc) (fun cs p => ∃ vg vm, SlG W vg p.G ∧ SlM W vm p.M ∧ cs = [.int .i64 p.id, .int .i64 p.c, .int .i64 p.r, .int .i64 p.m, .int .i64 p.s, vg, vm] ∧ p.rg) 7 Tryz.underlying33 cellsN106 (by decide) (fun n cs y h => npiece_cells h) h
 refine ⟨G, ⟨a, cap, rfl, hl, fun k hk' => ?_⟩, fun k hk' => ?_⟩
 case refine_2 =>
  obtain ⟨b, off, -, cs, ⟨-, -, -, -, -, hr⟩, -⟩ := hk k hk'
  exact hr
 obtain ⟨b, off, rfl, cs, ⟨vg, vm, hg, hm, rfl, -⟩, -, hc⟩ := hk k hk'
 exact ⟨b, off, rfl, vg, vm, hg, hm, hc 0 _ rfl, hc 1 _ rfl, hc 2 _ rfl, hc 3 _ rfl, hc 4 _ rfl, hc 5 _ rfl, hc 6 _ rfl⟩

set_option maxRecDepth 100000 in
set_option maxHeartbeats 4000000 in
theorem nitem_cells {cs : List Value} {y : DataW H × List MemPlace} (h : DataW.trod enc Tryz.prog W 0 (fun _ => true) held n 38 cs = some y) : ∃ x : Nv, cs = x.itm.toList ∧ IV W x ∧ x.N.X.rg := by
 obtain ⟨xs, k, _, _, hcl, hxl, hf⟩ := DataW.trod_struct Tryz.underlying38 h
 rw [cellsN38] at hcl
 match cs, hcl, xs, hxl with
 | [v0, v1, v2, v3, v4, v5, v6, v7, v8, v9, v10, v11], _, [y0, y1, y2, y3, y4, y5, y6, y7, y8, y9, y10], _ =>
  have g0 := hf 0 _ rfl
  simp [cellsN3] at g0
  have g1 := hf 1 _ rfl
  simp [cellsN3] at g1
  have g2 := hf 2 _ rfl
  simp [cellsN3] at g2
  have g3 := hf 3 _ rfl
  simp [cellsN3] at g3
  have g4 := hf 4 _ rfl
  simp [cellsN3] at g4
  have g5 := hf 5 _ rfl
  simp [cellsN3] at g5
  have g6 := hf 6 _ rfl
  simp [cellsN3] at g6
  have g7 := hf 7 _ rfl
  simp [cellsN32] at g7
  have g8 := hf 8 _ rfl
  simp [cellsN32] at g8
  have g9 := hf 9 _ rfl
  simp [cellsN35] at g9
  have g10 := hf 10 _ rfl
  simp [cellsN36] at g10
  obtain ⟨a0, rfl, r0⟩ := nint_cell g0
  obtain ⟨a1, rfl, r1⟩ := nint_cell g1
  obtain ⟨a2, rfl, r2⟩ := nint_cell g2
  obtain ⟨a3, rfl, r3⟩ := nint_cell g3
  obtain ⟨a4, rfl, r4⟩ := nint_cell g4
  obtain ⟨a5, rfl, r5⟩ := nint_cell g5
  obtain ⟨a6, rfl, r6⟩ := nint_cell g6
  obtain ⟨L7, s7, q7⟩ := nints_cell g7
  obtain ⟨L8, s8, q8⟩ := nints_cell g8
  obtain ⟨a9, a10, e9, r9, r10⟩ := nspan_cells g9
  simp only [List.cons.injEq, and_true] at e9
  obtain ⟨rfl, rfl⟩ := e9
  obtain ⟨L11, s11, q11⟩ := nsights_cell g10
  exact ⟨⟨⟨0, 0, 0, 0, 0, 0, 0, 0, 0, 0, 0, false, 0, 0, [], [], [], ⟨a0, a1, a2, a3, a4, a5, a6, L7, L8, a9, a10, L11⟩⟩, nilS, nilS, nilS, v7, v8, v11⟩, rfl, ⟨s7, s8, s11⟩, r0, r1, r2, r3, r4, r5, r6, q7, q8, r9, r10, q11⟩

set_option maxRecDepth 100000 in
set_option maxHeartbeats 4000000 in
theorem nnote_cells {cs : List Value} {y : DataW H × List MemPlace} (h : DataW.trod enc Tryz.prog W 0 (fun _ => true) held n 40 cs = some y) : ∃ x : Nv, cs = x.arr.toList ∧ NV W x ∧ x.N.rg := by
 obtain ⟨xs, k, _, _, hcl, hxl, hf⟩ := DataW.trod_struct Tryz.underlying40 h
 rw [cellsN40] at hcl
 match cs, hcl, xs, hxl with
 | [v0, v1, v2, v3, v4, v5, v6, v7, v8, v9, v10, v11, v12, v13, v14, v15, v16, v17, v18, v19, v20, v21, v22, v23, v24, v25, v26, v27, v28], _, [y0, y1, y2, y3, y4, y5, y6, y7, y8, y9, y10, y11, y12, y13, y14, y15], _ =>
  have g0 := hf 0 _ rfl
  simp [cellsN3] at g0
  have g1 := hf 1 _ rfl
  simp [cellsN3] at g1
  have g2 := hf 2 _ rfl
  simp [cellsN3] at g2
  have g3 := hf 3 _ rfl
  simp [cellsN3] at g3
  have g4 := hf 4 _ rfl
  simp [cellsN3] at g4
  have g5 := hf 5 _ rfl
  simp [cellsN3] at g5
  have g6 := hf 6 _ rfl
  simp [cellsN3] at g6
  have g7 := hf 7 _ rfl
  simp [cellsN3] at g7
  have g8 := hf 8 _ rfl
  simp [cellsN3] at g8
  have g9 := hf 9 _ rfl
  simp [cellsN3] at g9
  have g10 := hf 10 _ rfl
  simp [cellsN29] at g10
  have g11 := hf 11 _ rfl
  simp [cellsN31] at g11
  have g12 := hf 12 _ rfl
  simp [cellsN32] at g12
  have g13 := hf 13 _ rfl
  simp [cellsN32] at g13
  have g14 := hf 14 _ rfl
  simp [cellsN33] at g14
  have g15 := hf 15 _ rfl
  simp [cellsN38] at g15
  obtain ⟨a0, rfl, r0⟩ := nint_cell g0
  obtain ⟨a1, rfl, r1⟩ := nint_cell g1
  obtain ⟨a2, rfl, r2⟩ := nint_cell g2
  obtain ⟨a3, rfl, r3⟩ := nint_cell g3
  obtain ⟨a4, rfl, r4⟩ := nint_cell g4
  obtain ⟨a5, rfl, r5⟩ := nint_cell g5
  obtain ⟨a6, rfl, r6⟩ := nint_cell g6
  obtain ⟨a7, rfl, r7⟩ := nint_cell g7
  obtain ⟨a8, rfl, r8⟩ := nint_cell g8
  obtain ⟨a9, rfl, r9⟩ := nint_cell g9
  obtain ⟨a10, a11, e10, r10⟩ := nset_cells g10
  simp only [List.cons.injEq, and_true] at e10
  obtain ⟨rfl, rfl⟩ := e10
  obtain ⟨a12, a13, e11, r12, r13⟩ := nref_cells g11
  simp only [List.cons.injEq, and_true] at e11
  obtain ⟨rfl, rfl⟩ := e11
  obtain ⟨L14, s14, q14⟩ := nints_cell g12
  obtain ⟨L15, s15, q15⟩ := nints_cell g13
  obtain ⟨L16, s16, q16⟩ := npieces_cell g14
  obtain ⟨xi, ei, hi, ri⟩ := nitem_cells g15
  simp only [Nv.itm, List.cons.injEq, and_true] at ei
  obtain ⟨rfl, rfl, rfl, rfl, rfl, rfl, rfl, rfl, rfl, rfl, rfl, rfl⟩ := ei
  exact ⟨⟨⟨a0, a1, a2, a3, a4, a5, a6, a7, a8, a9, a10, a11, a12, a13, L14, L15, L16, xi.N.X⟩, v14, v15, v16, xi.iP, xi.iC, xi.iS⟩, rfl, ⟨s14, s15, s16, ⟨hi.P, hi.C, hi.S⟩⟩, ⟨fun q hq => (by
   match q, hq with
   | 0, _ => exact r0
   | 1, _ => exact r1
   | 2, _ => exact r2
   | 3, _ => exact r3
   | 4, _ => exact r4
   | 5, _ => exact r5
   | 6, _ => exact r6
   | 7, _ => exact r7
   | 8, _ => exact r8
   | 9, _ => exact r9), r10, r12, r13, q14, q15, q16, ri⟩⟩

set_option maxRecDepth 100000 in
theorem notes_of {base : Nat} {v : Value} {d : DataW H} {p : List MemPlace} (hok : Value.okWide Tryz.prog W .any base 22 v) (h : DataW.Trod enc Tryz.prog W 0 (fun _ => true) held 22 v d p) : ∃ L, SlN W v L ∧ ∀ n ∈ L, n.rg := by
 obtain ⟨a, len, cap, rfl⟩ := okWide_slice Tryz.underlying22 hok
 obtain ⟨m, hm⟩ := h
 have hm' : DataW.trod enc Tryz.prog W 0 (fun _ => true) held m 22 [.slice a len cap] = some (d, p) := by simpa [Value.cells] using hm
 obtain ⟨G, a', cap', e, hl, hk⟩ := nrow_of z0 (fun cs x => cs = x.arr.toList ∧ NV W x ∧ x.N.rg) 29 Tryz.underlying22 cellsN40 (by decide) (fun n cs y h => nnote_cells h) hm'
 rw [e]
 refine ⟨G.map Nv.N, ⟨a', cap', by rw [List.length_map], by rw [List.length_map]; exact hl, fun k hk' => ?_⟩, fun n hn => ?_⟩
 case refine_2 =>
  obtain ⟨y, hy, rfl⟩ := List.mem_map.1 hn
  obtain ⟨i, hi, rfl⟩ := List.getElem_of_mem hy
  obtain ⟨b, off, -, cs, ⟨-, -, hr⟩, -⟩ := hk i hi
  have e : G.getD i z0 = G[i] := by simp [List.getD, hi]
  rw [e] at hr
  exact hr
 rw [List.length_map] at hk'
 obtain ⟨b, off, rfl, cs, ⟨rfl, hn, -⟩, -, hc⟩ := hk k hk'
 refine ⟨b, off, rfl, G.getD k z0, ?_, hn, fun j u hu => hc j u (by rw [Array.getElem?_toList]; exact hu)⟩
 unfold nz
 rw [List.getD_eq_getElem?_getD, List.getD_eq_getElem?_getD, List.getElem?_map, List.getElem?_eq_getElem hk']
 rfl
end

end Go.Proofs.YtcgmmfcphfkdhaaGreat
