/- Slices of places and of what panes hold that came in, opened. -/
import Derived.Test.YtdnljbdngbphnaaGreatF7
import Derived.OpenShut
import Derived.Deep.Slices
import Derived.Deep.MidRow
namespace Go.Proofs.YtdnljbdngbphnaaGreat
open Go Go.RowKit Go.Proofs Go.WideShapes Go.ChangeShapes Go.Deep Go.Reads

section
variable {H : Type} {enc : TypeId × Value → H} {W : World} {n : Nat} {held : Bool}

theorem drop_one {cs : List Value} {o : Nat} (h : o < cs.length) : (cs.drop o).take 1 = [cs[o]] := by
  rw [List.drop_eq_getElem_cons h]
  rfl

theorem drop_two {cs : List Value} {o : Nat} (h : o + 1 < cs.length) : (cs.drop o).take 2 = [cs[o], cs[o + 1]] := by
  rw [List.drop_eq_getElem_cons (by omega), List.drop_eq_getElem_cons h]
  rfl

theorem cells3 : Tryz.prog.cellsOf 3 = 1 := by kernel_rfl
theorem cells4 : Tryz.prog.cellsOf 4 = 1 := by kernel_rfl
theorem cells32 : Tryz.prog.cellsOf 32 = 2 := by kernel_rfl
theorem cells34 : Tryz.prog.cellsOf 34 = 2 := by kernel_rfl
theorem cells36 : Tryz.prog.cellsOf 36 = 7 := by kernel_rfl
theorem cells64 : Tryz.prog.cellsOf 64 = 5 := by kernel_rfl

set_option maxRecDepth 100000 in
theorem setting_cells {u v : Value} {y : DataW H × List MemPlace} (h : DataW.trod enc Tryz.prog W 0 (fun _ => true) held n 32 [u, v] = some y) : ∃ a b, u = .int .i64 a ∧ v = .bool b := by
  obtain ⟨xs, k, hk, hy, hcl, hxl, hg⟩ := DataW.trod_struct Tryz.underlying32 h
  have hx : xs.length = 2 := hxl
  have g0 : DataW.trod enc Tryz.prog W 0 (fun _ => true) held k 3 (([u, v].drop 0).take (Tryz.prog.cellsOf 3)) = xs[0]? := hg 0 _ rfl
  rw [cells3, drop_one (by simp), List.getElem?_eq_getElem (by omega)] at g0
  have g1 : DataW.trod enc Tryz.prog W 0 (fun _ => true) held k 4 (([u, v].drop 1).take (Tryz.prog.cellsOf 4)) = xs[1]? := hg 1 _ rfl
  rw [cells4, drop_one (by simp), List.getElem?_eq_getElem (by omega)] at g1
  obtain ⟨a0, e0, -, -⟩ := DataW.trod_int Tryz.underlying3 g0
  obtain ⟨a1, e1, -⟩ := DataW.trod_bool Tryz.underlying4 g1
  simp at e0 e1
  exact ⟨a0, a1, e0, e1⟩

set_option maxRecDepth 100000 in
theorem tray_cells {u v : Value} {y : DataW H × List MemPlace} (h : DataW.trod enc Tryz.prog W 0 (fun _ => true) held n 34 [u, v] = some y) : ∃ a b, u = .int .i64 a ∧ v = .int .i64 b := by
  obtain ⟨xs, k, hk, hy, hcl, hxl, hg⟩ := DataW.trod_struct Tryz.underlying34 h
  have hx : xs.length = 2 := hxl
  have g0 : DataW.trod enc Tryz.prog W 0 (fun _ => true) held k 3 (([u, v].drop 0).take (Tryz.prog.cellsOf 3)) = xs[0]? := hg 0 _ rfl
  rw [cells3, drop_one (by simp), List.getElem?_eq_getElem (by omega)] at g0
  have g1 : DataW.trod enc Tryz.prog W 0 (fun _ => true) held k 3 (([u, v].drop 1).take (Tryz.prog.cellsOf 3)) = xs[1]? := hg 1 _ rfl
  rw [cells3, drop_one (by simp), List.getElem?_eq_getElem (by omega)] at g1
  obtain ⟨a0, e0, -, -⟩ := DataW.trod_int Tryz.underlying3 g0
  obtain ⟨a1, e1, -, -⟩ := DataW.trod_int Tryz.underlying3 g1
  simp at e0 e1
  exact ⟨a0, a1, e0, e1⟩

set_option maxRecDepth 100000 in
theorem where_cells {cs : List Value} {y : DataW H × List MemPlace} (h : DataW.trod enc Tryz.prog W 0 (fun _ => true) held n 36 cs = some y) :
    ∃ A : W7, cs[0]? = some (.int .i64 A.p) ∧ cs[1]? = some (.int .i64 A.k) ∧ cs[2]? = some (.int .i64 A.a) ∧ cs[3]? = some (.int .i64 A.sh) ∧ cs[4]? = some (.bool A.bk) ∧ cs[5]? = some (.int .i64 A.tb) ∧ cs[6]? = some (.int .i64 A.tn) ∧ Wfi A.a := by
  obtain ⟨xs, k, hk, hy, hcl, hxl, hg⟩ := DataW.trod_struct Tryz.underlying36 h
  rw [cells36] at hcl
  have hx : xs.length = 5 := hxl
  have g0 : DataW.trod enc Tryz.prog W 0 (fun _ => true) held k 3 ((cs.drop 0).take (Tryz.prog.cellsOf 3)) = xs[0]? := hg 0 _ rfl
  rw [cells3, drop_one (by omega), List.getElem?_eq_getElem (by omega)] at g0
  have g1 : DataW.trod enc Tryz.prog W 0 (fun _ => true) held k 3 ((cs.drop 1).take (Tryz.prog.cellsOf 3)) = xs[1]? := hg 1 _ rfl
  rw [cells3, drop_one (by omega), List.getElem?_eq_getElem (by omega)] at g1
  have g2 : DataW.trod enc Tryz.prog W 0 (fun _ => true) held k 3 ((cs.drop 2).take (Tryz.prog.cellsOf 3)) = xs[2]? := hg 2 _ rfl
  rw [cells3, drop_one (by omega), List.getElem?_eq_getElem (by omega)] at g2
  have g3 : DataW.trod enc Tryz.prog W 0 (fun _ => true) held k 32 ((cs.drop 3).take (Tryz.prog.cellsOf 32)) = xs[3]? := hg 3 _ rfl
  rw [cells32, drop_two (by omega), List.getElem?_eq_getElem (by omega)] at g3
  have g4 : DataW.trod enc Tryz.prog W 0 (fun _ => true) held k 34 ((cs.drop 5).take (Tryz.prog.cellsOf 34)) = xs[4]? := hg 4 _ rfl
  rw [cells34, drop_two (by omega), List.getElem?_eq_getElem (by omega)] at g4
  obtain ⟨a0, e0, -, -⟩ := DataW.trod_int Tryz.underlying3 g0
  obtain ⟨a1, e1, -, -⟩ := DataW.trod_int Tryz.underlying3 g1
  obtain ⟨a2, e2, -, w2⟩ := DataW.trod_int Tryz.underlying3 g2
  obtain ⟨a3, a4, e3, e4⟩ := setting_cells g3
  obtain ⟨a5, a6, e5, e6⟩ := tray_cells g4
  simp only [List.cons.injEq, and_true] at e0 e1 e2
  refine ⟨⟨a0, a1, a2, a3, a4, a5, a6⟩, ?_, ?_, ?_, ?_, ?_, ?_, ?_, w2⟩
  · rw [List.getElem?_eq_getElem (by omega), e0]
  · rw [List.getElem?_eq_getElem (by omega), e1]
  · rw [List.getElem?_eq_getElem (by omega), e2]
  · rw [List.getElem?_eq_getElem (by omega), e3]
  · rw [List.getElem?_eq_getElem (by omega), e4]
  · rw [List.getElem?_eq_getElem (by omega), e5]
  · rw [List.getElem?_eq_getElem (by omega), e6]

set_option maxRecDepth 100000 in
theorem held_cells {cs : List Value} {y : DataW H × List MemPlace} (h : DataW.trod enc Tryz.prog W 0 (fun _ => true) held n 64 cs = some y) :
    ∃ A : H5, cs[0]? = some (.int .i64 A.n) ∧ cs[1]? = some (.int .i64 A.p) ∧ cs[2]? = some (.int .i64 A.c) ∧ cs[3]? = some (.int .i64 A.sh) ∧ cs[4]? = some (.bool A.bk) ∧ Wfi A.n := by
  obtain ⟨xs, k, hk, hy, hcl, hxl, hg⟩ := DataW.trod_struct Tryz.underlying64 h
  rw [cells64] at hcl
  have hx : xs.length = 4 := hxl
  have g0 : DataW.trod enc Tryz.prog W 0 (fun _ => true) held k 3 ((cs.drop 0).take (Tryz.prog.cellsOf 3)) = xs[0]? := hg 0 _ rfl
  rw [cells3, drop_one (by omega), List.getElem?_eq_getElem (by omega)] at g0
  have g1 : DataW.trod enc Tryz.prog W 0 (fun _ => true) held k 3 ((cs.drop 1).take (Tryz.prog.cellsOf 3)) = xs[1]? := hg 1 _ rfl
  rw [cells3, drop_one (by omega), List.getElem?_eq_getElem (by omega)] at g1
  have g2 : DataW.trod enc Tryz.prog W 0 (fun _ => true) held k 3 ((cs.drop 2).take (Tryz.prog.cellsOf 3)) = xs[2]? := hg 2 _ rfl
  rw [cells3, drop_one (by omega), List.getElem?_eq_getElem (by omega)] at g2
  have g3 : DataW.trod enc Tryz.prog W 0 (fun _ => true) held k 32 ((cs.drop 3).take (Tryz.prog.cellsOf 32)) = xs[3]? := hg 3 _ rfl
  rw [cells32, drop_two (by omega), List.getElem?_eq_getElem (by omega)] at g3
  obtain ⟨a0, e0, -, w0⟩ := DataW.trod_int Tryz.underlying3 g0
  obtain ⟨a1, e1, -, -⟩ := DataW.trod_int Tryz.underlying3 g1
  obtain ⟨a2, e2, -, -⟩ := DataW.trod_int Tryz.underlying3 g2
  obtain ⟨a3, a4, e3, e4⟩ := setting_cells g3
  simp only [List.cons.injEq, and_true] at e0 e1 e2
  refine ⟨⟨a0, a1, a2, a3, a4⟩, ?_, ?_, ?_, ?_, ?_, w0⟩
  · rw [List.getElem?_eq_getElem (by omega), e0]
  · rw [List.getElem?_eq_getElem (by omega), e1]
  · rw [List.getElem?_eq_getElem (by omega), e2]
  · rw [List.getElem?_eq_getElem (by omega), e3]
  · rw [List.getElem?_eq_getElem (by omega), e4]

set_option maxRecDepth 100000 in
theorem wheres_of {base : Nat} {v : Value} {d : DataW H} {p : List MemPlace} (hok : Value.okWide Tryz.prog W .any base 22 v) (h : DataW.Trod enc Tryz.prog W 0 (fun _ => true) held 22 v d p) :
    ∃ L, SlW W v L ∧ ∀ x ∈ L, Wfi x.a := by
  obtain ⟨a, len, cap, rfl⟩ := okWide_slice Tryz.underlying22 hok
  obtain ⟨m, hm⟩ := h
  have hm' : DataW.trod enc Tryz.prog W 0 (fun _ => true) held m 22 [.slice a len cap] = some (d, p) := by simpa [Value.cells] using hm
  rcases open_slice Tryz.underlying22 hm' with ⟨hcs, -⟩ | ⟨a', len', cap', m', k, D, Pl, hcs, -, hl, hcap, hmm, hx, hall⟩
  · simp only [List.cons.injEq, and_true, Value.slice.injEq] at hcs
    obtain ⟨rfl, rfl, rfl⟩ := hcs
    exact ⟨[], ⟨none, 0, rfl, fun h => absurd h (Nat.lt_irrefl 0)⟩, fun A hA => by simp at hA⟩
  · simp only [List.cons.injEq, and_true, Value.slice.injEq] at hcs
    obtain ⟨rfl, rfl, rfl⟩ := hcs
    simp only [if_true] at hmm
    subst hmm
    have sp : 0 < len → a'.spot = none := fun hp => by
      obtain ⟨cs, h1, h2⟩ := hall 0 (by omega)
      rw [cells36] at h1
      obtain ⟨-, hlen, hcell⟩ := World.cells?_some h1
      have c0 := hcell 0 (by omega)
      rw [List.getElem?_eq_getElem (by omega)] at c0
      simpa [Addr.add] using World.cell?_spot c0
    have each : ∀ i, ∃ A : W7, i < len → WAt W a'.block (a'.off + i * 7) A ∧ Wfi A.a := by
      intro i
      by_cases hi : i < len
      · obtain ⟨cs, h1, h2⟩ := hall i (by omega)
        rw [cells36] at h1
        obtain ⟨-, hlen, hcell⟩ := World.cells?_some h1
        obtain ⟨A, q0, q1, q2, q3, q4, q5, q6, hy⟩ := where_cells h2
        have hs := sp (by omega)
        obtain ⟨b, off, s⟩ := a'
        simp only at hs
        subst hs
        have cc : ∀ j, j < 7 → W.cell? ⟨b, off + i * 7 + j, none⟩ = cs[j]? := fun j hj => by
          have := hcell j hj
          rwa [Addr.add_mid, Addr.add_mid] at this
        exact ⟨A, fun _ => ⟨⟨(cc 0 (by omega)).trans q0, (cc 1 (by omega)).trans q1, (cc 2 (by omega)).trans q2, (cc 3 (by omega)).trans q3, (cc 4 (by omega)).trans q4, (cc 5 (by omega)).trans q5, (cc 6 (by omega)).trans q6⟩, hy⟩⟩
      · exact ⟨w0, fun h => absurd h hi⟩
    let f := fun i => Classical.choose (each i)
    have hf : ∀ i, i < len → WAt W a'.block (a'.off + i * 7) (f i) ∧ Wfi (f i).a := fun i => Classical.choose_spec (each i)
    refine ⟨(List.range len).map f, ⟨some a', m', by rw [List.length_map, List.length_range], fun hp => ?_⟩, fun A hA => ?_⟩
    · have hp : 0 < len := by simpa using hp
      have hs := sp hp
      obtain ⟨b, off, s⟩ := a'
      simp only at hs
      subst hs
      refine ⟨b, off, rfl, fun i hi => ?_⟩
      have hi : i < len := by simpa using hi
      have e : wq ((List.range len).map f) i = f i := by unfold wq; rw [List.getD_eq_getElem?_getD, List.getElem?_map, List.getElem?_range hi]; rfl
      rw [e]
      exact (hf i hi).1
    · rw [List.mem_map] at hA
      obtain ⟨i, hi, rfl⟩ := hA
      exact (hf i (List.mem_range.1 hi)).2

set_option maxRecDepth 100000 in
theorem helds_of {base : Nat} {v : Value} {d : DataW H} {p : List MemPlace} (hok : Value.okWide Tryz.prog W .any base 23 v) (h : DataW.Trod enc Tryz.prog W 0 (fun _ => true) held 23 v d p) :
    ∃ L, SlH W v L ∧ ∀ x ∈ L, Wfi x.n := by
  obtain ⟨a, len, cap, rfl⟩ := okWide_slice Tryz.underlying23 hok
  obtain ⟨m, hm⟩ := h
  have hm' : DataW.trod enc Tryz.prog W 0 (fun _ => true) held m 23 [.slice a len cap] = some (d, p) := by simpa [Value.cells] using hm
  rcases open_slice Tryz.underlying23 hm' with ⟨hcs, -⟩ | ⟨a', len', cap', m', k, D, Pl, hcs, -, hl, hcap, hmm, hx, hall⟩
  · simp only [List.cons.injEq, and_true, Value.slice.injEq] at hcs
    obtain ⟨rfl, rfl, rfl⟩ := hcs
    exact ⟨[], ⟨none, 0, rfl, ⟨fun _ => rfl, Nat.le_refl 0⟩, fun h => absurd h (Nat.lt_irrefl 0)⟩, fun A hA => by simp at hA⟩
  · simp only [List.cons.injEq, and_true, Value.slice.injEq] at hcs
    obtain ⟨rfl, rfl, rfl⟩ := hcs
    simp only [if_true] at hmm
    subst hmm
    have sp : 0 < len → a'.spot = none := fun hp => by
      obtain ⟨cs, h1, h2⟩ := hall 0 (by omega)
      rw [cells64] at h1
      obtain ⟨-, hlen, hcell⟩ := World.cells?_some h1
      have c0 := hcell 0 (by omega)
      rw [List.getElem?_eq_getElem (by omega)] at c0
      simpa [Addr.add] using World.cell?_spot c0
    have each : ∀ i, ∃ A : H5, i < len → HAt W a'.block (a'.off + i * 5) A ∧ Wfi A.n := by
      intro i
      by_cases hi : i < len
      · obtain ⟨cs, h1, h2⟩ := hall i (by omega)
        rw [cells64] at h1
        obtain ⟨-, hlen, hcell⟩ := World.cells?_some h1
        obtain ⟨A, q0, q1, q2, q3, q4, hy⟩ := held_cells h2
        have hs := sp (by omega)
        obtain ⟨b, off, s⟩ := a'
        simp only at hs
        subst hs
        have cc : ∀ j, j < 5 → W.cell? ⟨b, off + i * 5 + j, none⟩ = cs[j]? := fun j hj => by
          have := hcell j hj
          rwa [Addr.add_mid, Addr.add_mid] at this
        exact ⟨A, fun _ => ⟨⟨(cc 0 (by omega)).trans q0, (cc 1 (by omega)).trans q1, (cc 2 (by omega)).trans q2, (cc 3 (by omega)).trans q3, (cc 4 (by omega)).trans q4⟩, hy⟩⟩
      · exact ⟨h0, fun h => absurd h hi⟩
    let f := fun i => Classical.choose (each i)
    have hf : ∀ i, i < len → HAt W a'.block (a'.off + i * 5) (f i) ∧ Wfi (f i).n := fun i => Classical.choose_spec (each i)
    refine ⟨(List.range len).map f, ⟨some a', m', by rw [List.length_map, List.length_range], ⟨fun e => absurd e (by simp), by rw [List.length_map, List.length_range]; exact hl⟩, fun hp => ?_⟩, fun A hA => ?_⟩
    · have hp : 0 < len := by simpa using hp
      have hs := sp hp
      obtain ⟨b, off, s⟩ := a'
      simp only at hs
      subst hs
      refine ⟨b, off, rfl, fun i hi => ?_⟩
      have hi : i < len := by simpa using hi
      have e : hq ((List.range len).map f) i = f i := by unfold hq; rw [List.getD_eq_getElem?_getD, List.getElem?_map, List.getElem?_range hi]; rfl
      rw [e]
      exact (hf i hi).1
    · rw [List.mem_map] at hA
      obtain ⟨i, hi, rfl⟩ := hA
      exact (hf i (List.mem_range.1 hi)).2

end
end Go.Proofs.YtdnljbdngbphnaaGreat
