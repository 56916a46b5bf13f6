/- A slice of acts that came in, opened. -/
import Derived.Test.YtcgmmfcphfkdhaaGreatD7
import Derived.Test.YtcgmmfcphfkdhaaGreatV1
import Derived.SizedLaws
import Derived.Deep.Slices
import Derived.Deep.MidRow
namespace Go.Proofs.YtcgmmfcphfkdhaaGreat
open Go Go.RowKit Go.Proofs Go.WideShapes Go.ChangeShapes Go.Deep Go.Torn

section
variable {H : Type} {enc : TypeId × Value → H} {W : World} {n : Nat} {held : Bool}

theorem drop_one {cs : List Value} {o : Nat} (h : o < cs.length) : (cs.drop o).take 1 = [cs[o]] := by
  rw [List.drop_eq_getElem_cons h]
  rfl

theorem slice_cell {t e : TypeId} {c : Value} {y : DataW H × List MemPlace} (ht : Tryz.prog.underlying t = some (.slice e)) (h : DataW.trod enc Tryz.prog W 0 (fun _ => true) held n t [c] = some y) : ∃ a l k, c = .slice a l k := by
  rcases open_slice ht h with ⟨hcs, -⟩ | ⟨a, len, cap, m, k, D, Pl, hcs, -⟩
  · simp only [List.cons.injEq, and_true] at hcs
    exact ⟨_, _, _, hcs⟩
  · simp only [List.cons.injEq, and_true] at hcs
    exact ⟨_, _, _, hcs⟩

theorem lits_len (k : IntKind) (l : List Int) : (lits k l : List (DataW H)).length = l.length := by simp [lits]

theorem bytes5 : Tryz.prog.bytesOf 5 = 1 := by kernel_rfl
theorem cells3 : Tryz.prog.cellsOf 3 = 1 := by kernel_rfl
theorem cells5 : Tryz.prog.cellsOf 5 = 1 := by kernel_rfl
theorem cells46 : Tryz.prog.cellsOf 46 = 1 := by kernel_rfl
theorem cells22 : Tryz.prog.cellsOf 22 = 1 := by kernel_rfl
theorem cells32 : Tryz.prog.cellsOf 32 = 1 := by kernel_rfl
theorem cells66 : Tryz.prog.cellsOf 66 = 35 := by kernel_rfl

theorem bytes_cell {c : Value} {y : DataW H × List MemPlace} (h : DataW.trod enc Tryz.prog W 0 (fun _ => true) held n 46 [c] = some y) :
    ∃ L, SlB W c L ∧ By L ∧ ((∀ m ∈ DataW.weights Tryz.prog 46 y.1, m ≤ reachBytes) → L.length ≤ 9000000000000000000) := by
  rcases open_ints Tryz.underlying46 Tryz.underlying5 cells5 h with ⟨hcs, -⟩ | ⟨a, len, cap, zs, hcs, -, hl, hm, hz, hy, hcell, hw⟩
  · simp only [List.cons.injEq, and_true] at hcs
    subst hcs
    exact ⟨[], ⟨none, 0, rfl, ⟨by simp, fun _ => rfl⟩, fun hp => absurd hp (Nat.lt_irrefl 0)⟩, fun v hv => by simp at hv, fun _ => by simp⟩
  · simp only [List.cons.injEq, and_true] at hcs
    subst hcs
    simp only [if_true] at hz
    have hlen := row_list (z := zs) hz hl
    have hw' : ∀ n ∈ zs, 0 ≤ n ∧ n < 256 := fun n hn => wf_u8 (hw n hn)
    refine ⟨(zs.take len).map Int.toNat, ⟨some a, cap, by rw [hlen], ⟨by rw [hlen]; unfold maxLen at hm; omega, fun e => by cases e⟩, fun hp => ?_⟩, row_by hw', fun hb => ?_⟩
    · rw [hlen] at hp
      obtain ⟨b, off, s⟩ := a
      have hs : s = none := by simpa [Addr.add] using World.cell?_spot (hcell 0 (by omega))
      subst hs
      refine ⟨b, off, rfl, fun j hj => ?_⟩
      rw [hlen] at hj
      have := hcell j (by omega)
      rw [add_plain] at this
      rw [this, row_getD hj (by omega) hw']
    · rw [hlen]
      have := hb ((lits .u8 (zs.take len) : List (DataW H)).length * 1 + (lits .u8 (zs.drop len) : List (DataW H)).length * 1) (by
        rw [hy]
        simp only [DataW.weights, Tryz.underlying46, bytes5]
        rw [List.mem_cons]
        left
        omega)
      rw [lits_len, lits_len, List.length_take, List.length_drop, hz] at this
      have h2 : reachBytes < 2 ^ 47 := reachBytes_lt
      have h3 : len ≤ reachBytes := by omega
      omega

set_option maxRecDepth 100000 in
theorem act_cells {cs : List Value} {y : DataW H × List MemPlace} (h : DataW.trod enc Tryz.prog W 0 (fun _ => true) held n 66 cs = some y) :
    ∃ A : Ac, cs[0]? = some (.int .i64 A.k) ∧ cs[1]? = some (.int .i64 A.e) ∧ cs[2]? = some (.int .i64 A.f) ∧ (∃ u, cs[3]? = some u ∧ SlB W u A.d) ∧ (∃ a l c, cs[33]? = some (.slice a l c)) ∧ (∃ a l c, cs[34]? = some (.slice a l c)) ∧
      By A.d ∧ ((∀ m ∈ DataW.weights Tryz.prog 66 y.1, m ≤ reachBytes) → A.d.length ≤ 9000000000000000000) := by
  obtain ⟨xs, k, hk, hy, hcl, hxl, hg⟩ := DataW.trod_struct Tryz.underlying66 h
  rw [cells66] at hcl
  have hx : xs.length = 7 := hxl
  have g0 : DataW.trod enc Tryz.prog W 0 (fun _ => true) held k 3 ((cs.drop 0).take (Tryz.prog.cellsOf 3)) = xs[0]? := hg 0 _ rfl
  rw [cells3, drop_one (by omega), List.getElem?_eq_getElem (by omega)] at g0
  have g1 : DataW.trod enc Tryz.prog W 0 (fun _ => true) held k 3 ((cs.drop 1).take (Tryz.prog.cellsOf 3)) = xs[1]? := hg 1 _ rfl
  rw [cells3, drop_one (by omega), List.getElem?_eq_getElem (by omega)] at g1
  have g2 : DataW.trod enc Tryz.prog W 0 (fun _ => true) held k 3 ((cs.drop 2).take (Tryz.prog.cellsOf 3)) = xs[2]? := hg 2 _ rfl
  rw [cells3, drop_one (by omega), List.getElem?_eq_getElem (by omega)] at g2
  have g3 : DataW.trod enc Tryz.prog W 0 (fun _ => true) held k 46 ((cs.drop 3).take (Tryz.prog.cellsOf 46)) = xs[3]? := hg 3 _ rfl
  rw [cells46, drop_one (by omega), List.getElem?_eq_getElem (by omega)] at g3
  have g5 : DataW.trod enc Tryz.prog W 0 (fun _ => true) held k 22 ((cs.drop 33).take (Tryz.prog.cellsOf 22)) = xs[5]? := hg 5 _ rfl
  rw [cells22, drop_one (by omega), List.getElem?_eq_getElem (by omega)] at g5
  have g6 : DataW.trod enc Tryz.prog W 0 (fun _ => true) held k 32 ((cs.drop 34).take (Tryz.prog.cellsOf 32)) = xs[6]? := hg 6 _ rfl
  rw [cells32, drop_one (by omega), List.getElem?_eq_getElem (by omega)] at g6
  obtain ⟨a0, e0, -, -⟩ := DataW.trod_int Tryz.underlying3 g0
  obtain ⟨a1, e1, -, -⟩ := DataW.trod_int Tryz.underlying3 g1
  obtain ⟨a2, e2, -, -⟩ := DataW.trod_int Tryz.underlying3 g2
  obtain ⟨L, s3, b3, w3⟩ := bytes_cell g3
  obtain ⟨p5, l5, c5, e5⟩ := slice_cell Tryz.underlying22 g5
  obtain ⟨p6, l6, c6, e6⟩ := slice_cell Tryz.underlying32 g6
  simp only [List.cons.injEq, and_true] at e0 e1 e2
  refine ⟨⟨a0, a1, a2, L⟩, ?_, ?_, ?_, ⟨_, List.getElem?_eq_getElem (by omega), s3⟩, ⟨p5, l5, c5, ?_⟩, ⟨p6, l6, c6, ?_⟩, b3, fun hw => w3 fun m hm => ?_⟩
  · rw [List.getElem?_eq_getElem (by omega), e0]
  · rw [List.getElem?_eq_getElem (by omega), e1]
  · rw [List.getElem?_eq_getElem (by omega), e2]
  · rw [List.getElem?_eq_getElem (by omega), e5]
  · rw [List.getElem?_eq_getElem (by omega), e6]
  · refine hw m ?_
    rw [hy]
    simp only [DataW.weights, Tryz.underlying66]
    refine DataW.weights_mem_each (j := 3) (t := 46) rfl ?_ m hm
    rw [List.getElem?_map, List.getElem?_eq_getElem (by omega)]
    rfl

theorem mem_weightsAll {P : Program} {e : TypeId} {d : DataW H} {m : Nat} : ∀ {l : List (DataW H)}, d ∈ l → m ∈ DataW.weights P e d → m ∈ DataW.weightsAll P e l
  | [], h, _ => by simp at h
  | x :: l, h, hm => by
    unfold DataW.weightsAll
    rw [List.mem_append]
    rcases List.mem_cons.1 h with rfl | h
    · exact .inl hm
    · exact .inr (mem_weightsAll h hm)

set_option maxRecDepth 100000 in
theorem acts_of {base : Nat} {v : Value} {d : DataW H} {p : List MemPlace} (hok : Value.okWide Tryz.prog W .any base 59 v) (h : DataW.Trod enc Tryz.prog W 0 (fun _ => true) held 59 v d p)
    (hw : ∀ m ∈ DataW.weights Tryz.prog 59 d, m ≤ reachBytes) : ∃ As, RowA W v As ∧ (∀ A ∈ As, By A.d) ∧ ∀ A ∈ As, A.d.length ≤ 9000000000000000000 := by
  obtain ⟨a, len, cap, rfl⟩ := okWide_slice Tryz.underlying59 hok
  obtain ⟨m, hm⟩ := h
  have hm' : DataW.trod enc Tryz.prog W 0 (fun _ => true) held m 59 [.slice a len cap] = some (d, p) := by simpa [Value.cells] using hm
  rcases open_slice Tryz.underlying59 hm' with ⟨hcs, -⟩ | ⟨a', len', cap', m', k, D, Pl, hcs, -, hl, hcap, hmm, hx, hall⟩
  · simp only [List.cons.injEq, and_true, Value.slice.injEq] at hcs
    obtain ⟨rfl, rfl, rfl⟩ := hcs
    exact ⟨[], ⟨none, 0, rfl, fun h => absurd h (Nat.lt_irrefl 0)⟩, fun A hA => by simp at hA, fun A hA => by simp at hA⟩
  · simp only [List.cons.injEq, and_true, Value.slice.injEq] at hcs
    obtain ⟨rfl, rfl, rfl⟩ := hcs
    simp only [if_true] at hmm
    subst hmm
    simp only [Prod.mk.injEq] at hx
    have sp : 0 < len → a'.spot = none := fun hp => by
      obtain ⟨cs, h1, h2⟩ := hall 0 (by omega)
      rw [cells66] at h1
      obtain ⟨-, hlen, hcell⟩ := World.cells?_some h1
      have c0 := hcell 0 (by omega)
      rw [List.getElem?_eq_getElem (by omega)] at c0
      simpa [Addr.add] using World.cell?_spot c0
    have each : ∀ i, ∃ A : Ac, i < len → AcAt W a'.block (a'.off + i * 35) A ∧ By A.d ∧ A.d.length ≤ 9000000000000000000 := by
      intro i
      by_cases hi : i < len
      · obtain ⟨cs, h1, h2⟩ := hall i (by omega)
        rw [cells66] at h1
        obtain ⟨-, hlen, hcell⟩ := World.cells?_some h1
        obtain ⟨A, q0, q1, q2, ⟨u, q3, s3⟩, ⟨x5, y5, z5, q5⟩, ⟨x6, y6, z6, q6⟩, hy, hwt⟩ := act_cells h2
        have hs := sp (by omega)
        obtain ⟨b, off, s⟩ := a'
        simp only at hs
        subst hs
        have cc : ∀ j, j < 35 → W.cell? ⟨b, off + i * 35 + j, none⟩ = cs[j]? := fun j hj => by
          have := hcell j hj
          rwa [Addr.add_mid, Addr.add_mid] at this
        refine ⟨A, fun _ => ⟨⟨?_, ?_, ?_, ⟨u, ?_, s3⟩, ⟨x5, y5, z5, ?_⟩, ⟨x6, y6, z6, ?_⟩⟩, hy, hwt fun m hm => hw m ?_⟩⟩
        · have := cc 0 (by omega); rw [q0] at this; exact this
        · have := cc 1 (by omega); rw [q1] at this; exact this
        · have := cc 2 (by omega); rw [q2] at this; exact this
        · have := cc 3 (by omega); rw [q3] at this; exact this
        · have := cc 33 (by omega); rw [q5] at this; exact this
        · have := cc 34 (by omega); rw [q6] at this; exact this
        · rw [hx.1]
          simp only [DataW.weights, Tryz.underlying59]
          rw [List.mem_cons, List.mem_append]
          refine .inr (.inl (mem_weightsAll (d := D i) ?_ hm))
          rw [List.mem_map]
          exact ⟨i, List.mem_range.2 hi, rfl⟩
      · exact ⟨⟨0, 0, 0, []⟩, fun h => absurd h hi⟩
    let f := fun i => Classical.choose (each i)
    have hf : ∀ i, i < len → AcAt W a'.block (a'.off + i * 35) (f i) ∧ By (f i).d ∧ (f i).d.length ≤ 9000000000000000000 := fun i => Classical.choose_spec (each i)
    refine ⟨(List.range len).map f, ⟨some a', _, by rw [List.length_map, List.length_range], fun hp => ?_⟩, fun A hA => ?_, fun A hA => ?_⟩
    · have hp : 0 < len := by simpa using hp
      have hs := sp hp
      obtain ⟨b, off, s⟩ := a'
      simp only at hs
      subst hs
      refine ⟨b, off, rfl, fun i hi => ?_⟩
      have hi : i < len := by simpa using hi
      have e : acq ((List.range len).map f) i = f i := by unfold acq; rw [List.getD_eq_getElem?_getD, List.getElem?_map, List.getElem?_range hi]; rfl
      rw [e]
      exact (hf i hi).1
    · rw [List.mem_map] at hA
      obtain ⟨i, hi, rfl⟩ := hA
      exact (hf i (List.mem_range.1 hi)).2.1
    · rw [List.mem_map] at hA
      obtain ⟨i, hi, rfl⟩ := hA
      exact (hf i (List.mem_range.1 hi)).2.2

end
end Go.Proofs.YtcgmmfcphfkdhaaGreat
