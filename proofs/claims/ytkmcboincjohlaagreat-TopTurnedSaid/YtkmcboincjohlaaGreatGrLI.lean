/- The abstract machine, part GrLI. -/
import Derived.Test.YtkmcboincjohlaaGreatGrLA
import Derived.OpenShut
import Derived.ChangeSlices
import Derived.Lib.SmallJoins
import Derived.Test.YtkmcboincjohlaaGreatGrLB
import Derived.Test.YtkmcboincjohlaaGreatGrLC
import Derived.Deep.Slices
import Derived.Test.YtkmcboincjohlaaGreatGrLH
import Derived.Deep.SlicePairs
import Derived.Test.YtkmcboincjohlaaGreatGrLG
import Derived.RangeFuncBox
import Derived.Test.YtkmcboincjohlaaGreatGrLE
import Derived.OwnWalkIn
import Derived.Laws.OwnMore
/- A slice of numbers that came in, opened; a film. -/
namespace Go.Proofs.YtkmcboincjohlaaGreat
open Go Go.RowKit Go.Proofs Go.WideShapes Go.ChangeShapes Go.Deep Go.Joins

end Go.Proofs.YtkmcboincjohlaaGreat

/- Pieces that came in, opened: lists of gauges and of marks. -/
namespace Go.Proofs.YtkmcboincjohlaaGreat
open Go Go.RowKit Go.Proofs Go.WideShapes Go.ChangeShapes Go.Deep Go.Joins

theorem cells3' : Tryz.prog.cellsOf 3 = 1 := by kernel_rfl
theorem cells42' : Tryz.prog.cellsOf 79 = 2 := by kernel_rfl
theorem cells67' : Tryz.prog.cellsOf 82 = 5 := by kernel_rfl
theorem cells61' : Tryz.prog.cellsOf 59 = 3 := by kernel_rfl

section
variable {H : Type} {enc : TypeId × Value → H} {W : World} {base n : Nat} {sp : Nat → Bool} {held : Bool}

theorem int_cell {v : Value} {y : DataW H × List MemPlace} (h : DataW.trod enc Tryz.prog W base sp held n 3 [v] = some y) : ∃ a, v = .int .i64 a := by
  obtain ⟨a, ea, -, -⟩ := DataW.trod_int Tryz.underlying3 h
  simp only [List.cons.injEq, and_true] at ea
  exact ⟨a, ea⟩

set_option maxRecDepth 100000 in
theorem span_cells {v0 v1 : Value} {y : DataW H × List MemPlace} (h : DataW.trod enc Tryz.prog W base sp held n 79 [v0, v1] = some y) : ∃ a b, v0 = .int .i64 a ∧ v1 = .int .i64 b := by
  obtain ⟨xs, k, _, _, _, hxl, hf⟩ := DataW.trod_struct Tryz.underlying79 h
  match xs, hxl with
  | [y0, y1], _ =>
    have g0 := hf 0 _ rfl
    have g1 := hf 1 _ rfl
    simp [cells3'] at g0 g1
    obtain ⟨a, rfl⟩ := int_cell g0
    obtain ⟨b, rfl⟩ := int_cell g1
    exact ⟨a, b, rfl, rfl⟩

set_option maxRecDepth 100000 in
theorem gauge_cells {v0 v1 v2 v3 v4 : Value} {y : DataW H × List MemPlace} (h : DataW.trod enc Tryz.prog W base sp held n 82 [v0, v1, v2, v3, v4] = some y) : ∃ a b c d e, v0 = .int .i64 a ∧ v1 = .int .i64 b ∧ v2 = .int .i64 c ∧ v3 = .int .i64 d ∧ v4 = .int .i64 e := by
  obtain ⟨xs, k, _, _, _, hxl, hf⟩ := DataW.trod_struct Tryz.underlying82 h
  match xs, hxl with
  | [y0, y1, y2], _ =>
    have g0 := hf 0 _ rfl
    have g1 := hf 1 _ rfl
    have g2 := hf 2 _ rfl
    simp [cells3', cells42'] at g0 g1 g2
    obtain ⟨a, b, rfl, rfl⟩ := span_cells g0
    obtain ⟨c, d, rfl, rfl⟩ := span_cells g1
    obtain ⟨e, rfl⟩ := int_cell g2
    exact ⟨a, b, c, d, e, rfl, rfl, rfl, rfl, rfl⟩

set_option maxRecDepth 100000 in
theorem mark_cells {v0 v1 v2 : Value} {y : DataW H × List MemPlace} (h : DataW.trod enc Tryz.prog W base sp held n 59 [v0, v1, v2] = some y) : ∃ a b c, v0 = .int .i64 a ∧ v1 = .int .i64 b ∧ v2 = .int .i64 c := by
  obtain ⟨xs, k, _, _, _, hxl, hf⟩ := DataW.trod_struct Tryz.underlying59 h
  match xs, hxl with
  | [y0, y1, y2], _ =>
    have g0 := hf 0 _ rfl
    have g1 := hf 1 _ rfl
    have g2 := hf 2 _ rfl
    simp [cells3'] at g0 g1 g2
    obtain ⟨a, rfl⟩ := int_cell g0
    obtain ⟨b, rfl⟩ := int_cell g1
    obtain ⟨c, rfl⟩ := int_cell g2
    exact ⟨a, b, c, rfl, rfl, rfl⟩

set_option maxRecDepth 100000 in
theorem spot22 {a : Addr} {len cap : Nat} (hok : Cell.okWide Tryz.prog W .any base 31 (.slice (some a) len cap)) : a.spot = none := by
  simp only [Tryz.underlying31, Cell.okWide, Cell.ok] at hok
  exact hok.2.2.2.1

set_option maxRecDepth 100000 in
theorem spot23 {a : Addr} {len cap : Nat} (hok : Cell.okWide Tryz.prog W .any base 38 (.slice (some a) len cap)) : a.spot = none := by
  simp only [Tryz.underlying38, Cell.okWide, Cell.ok] at hok
  exact hok.2.2.2.1

set_option maxRecDepth 100000 in
theorem slg_of {base0 : Nat} {v : Value} {x : DataW H × List MemPlace} (hok : Cell.okWide Tryz.prog W .any base0 31 v)
    (h : DataW.trod enc Tryz.prog W base sp held n 31 [v] = some x) : ∃ G, SlG W v G := by
  rcases open_slice Tryz.underlying31 h with ⟨hcs, -⟩ | ⟨a, len, cap, m, k, D, Pl, hcs, -, hl, hcap, hmm, -, hall⟩
  · simp only [List.cons.injEq, and_true] at hcs
    subst hcs
    exact ⟨[], none, 0, rfl, by simp, fun k hk => absurd hk (Nat.not_lt_zero _)⟩
  · simp only [List.cons.injEq, and_true] at hcs
    subst hcs
    have hsp := spot22 hok
    obtain ⟨b, off, s⟩ := a
    simp only at hsp
    subst hsp
    have hlm : len ≤ m := by rw [hmm]; split <;> omega
    have each : ∀ i, i < len → ∃ g : G5, W.cell? ⟨b, off + i * 5, none⟩ = some (.int .i64 g.a) ∧ W.cell? ⟨b, off + i * 5 + 1, none⟩ = some (.int .i64 g.b) ∧ W.cell? ⟨b, off + i * 5 + 2, none⟩ = some (.int .i64 g.c) ∧ W.cell? ⟨b, off + i * 5 + 3, none⟩ = some (.int .i64 g.d) ∧ W.cell? ⟨b, off + i * 5 + 4, none⟩ = some (.int .i64 g.e) := by
      intro i hi
      obtain ⟨cs', h1, h2⟩ := hall i (by omega)
      rw [cells67'] at h1
      obtain ⟨_, hlen, hcell⟩ := World.cells?_some h1
      match cs', hlen with
      | [v0, v1, v2, v3, v4], _ =>
        obtain ⟨a0, a1, a2, a3, a4, rfl, rfl, rfl, rfl, rfl⟩ := gauge_cells h2
        have e0 := hcell 0 (by omega)
        have e1 := hcell 1 (by omega)
        have e2 := hcell 2 (by omega)
        have e3 := hcell 3 (by omega)
        have e4 := hcell 4 (by omega)
        rw [Addr.add_mid, Addr.add_mid] at e0 e1 e2 e3 e4
        exact ⟨⟨a0, a1, a2, a3, a4⟩, by simpa using e0, by simpa using e1, by simpa using e2, by simpa using e3, by simpa using e4⟩
    have each' : ∀ i, ∃ g : G5, i < len → (W.cell? ⟨b, off + i * 5, none⟩ = some (.int .i64 g.a) ∧ W.cell? ⟨b, off + i * 5 + 1, none⟩ = some (.int .i64 g.b) ∧ W.cell? ⟨b, off + i * 5 + 2, none⟩ = some (.int .i64 g.c) ∧ W.cell? ⟨b, off + i * 5 + 3, none⟩ = some (.int .i64 g.d) ∧ W.cell? ⟨b, off + i * 5 + 4, none⟩ = some (.int .i64 g.e)) := by
      intro i
      by_cases hi : i < len
      · obtain ⟨g, hg⟩ := each i hi
        exact ⟨g, fun _ => hg⟩
      · exact ⟨⟨0, 0, 0, 0, 0⟩, fun h => absurd h hi⟩
    let f := fun i => Classical.choose (each' i)
    have hf : ∀ i, i < len → _ := fun i => Classical.choose_spec (each' i)
    have hlen : ((List.range len).map f).length = len := by simp
    refine ⟨(List.range len).map f, some ⟨b, off, none⟩, cap, by rw [hlen], by rw [hlen]; unfold maxLen at hcap; omega, fun k hk => ⟨b, off, rfl, ?_⟩⟩
    rw [hlen] at hk
    have hz : gz ((List.range len).map f) k = f k := by unfold gz; rw [List.getD_eq_getElem?_getD, List.getElem?_map, List.getElem?_range hk]; rfl
    rw [hz]
    exact hf k hk
end

end Go.Proofs.YtkmcboincjohlaaGreat

/- A slice of points, nil or not; one that came in, opened. -/
namespace Go.Proofs.YtkmcboincjohlaaGreat
open Go Go.RowKit Go.Proofs Go.WideShapes Go.ChangeShapes Go.Deep

/-- The value is a slice, nil or not, that holds the points of L. -/
def SlV (w : World) (v : Value) (L : List (Int × Int)) : Prop := ∃ a cap, v = .slice a L.length cap ∧ L.length ≤ 9223372036854775807 ∧ ((∃ b off, a = some ⟨b, off, none⟩ ∧ PtsAt w b off L) ∨ (a = none ∧ cap = 0 ∧ L = []))

theorem SlV.keep {w w' : World} {v : Value} {L : List (Int × Int)} (h : SlV w v L) (hb : Below w.heap.size w w') : SlV w' v L := by
  obtain ⟨a, cap, rfl, hl, h⟩ := h
  refine ⟨a, cap, rfl, hl, h.imp ?_ id⟩
  rintro ⟨b, off, rfl, hp⟩
  exact ⟨b, off, rfl, hp.keep hb⟩

theorem vOut_sl {w : World} {v : Value} {L : List (Int × Int)} (h : SlV w v L) : Calls Tryz.prog 19 #[v] w fun e w' => e = .returned (.bool (vOut L)) ∧ Below w.heap.size w w' := by
  obtain ⟨a, cap, rfl, hl, ⟨b, off, rfl, hp⟩ | ⟨rfl, rfl, rfl⟩⟩ := h
  · exact validOutline_any b off cap L hl w hp
  · exact validOutline_nil w

theorem vOut_nil : vOut [] = false := rfl

theorem vOut_n {L : List (Int × Int)} (h : vOut L = true) : 3 ≤ L.length ∧ L.length ≤ 24 ∧ vPts L = true := by
  unfold vOut at h
  simp only [Bool.and_eq_true, decide_eq_true_eq] at h
  exact ⟨h.1, h.2.1, h.2.2.1⟩

theorem vOut_pts {w : World} {v : Value} {L : List (Int × Int)} (h : SlV w v L) (hv : vOut L = true) : ∃ b off cap, v = .slice (some ⟨b, off, none⟩) L.length cap ∧ PtsAt w b off L := by
  obtain ⟨a, cap, rfl, hl, ⟨b, off, rfl, hp⟩ | ⟨rfl, rfl, rfl⟩⟩ := h
  · exact ⟨b, off, cap, rfl, hp⟩
  · cases hv

set_option maxRecDepth 100000 in
theorem slice_spot {W : World} {base : Nat} {a : Addr} {len cap : Nat} (hok : Value.okWide Tryz.prog W .any base 34 (.slice (some a) len cap)) : a.spot = none := by
  simp only [Value.okWide, Tryz.underlying34, Cell.okWide, Cell.ok] at hok
  exact hok.2.2.2.1

set_option maxRecDepth 100000 in
theorem slv_of {H : Type} {enc : TypeId × Value → H} {W : World} {base : Nat} {sp : Nat → Bool} {held : Bool} {v : Value} {d : DataW H} {p : List MemPlace} (hok : Value.okWide Tryz.prog W .any base 34 v)
    (h : DataW.Trod enc Tryz.prog W 0 sp held 34 v d p) : ∃ L, SlV W v L := by
  obtain ⟨a, len, cap, rfl⟩ := okWide_slice Tryz.underlying34 hok
  obtain ⟨m, hm⟩ := h
  rcases open_slice_pairs Tryz.underlying34 Tryz.underlying96 (by kernel_rfl) rfl rfl (by kernel_rfl) (by kernel_rfl) hm with ⟨hcs, -⟩ | ⟨a', len', cap', m', n', V0, V1, D0, D1, P0, P1, hcs, -, hl, hcap, hmm, -, hall⟩
  · have e : Value.slice a len cap = .slice none 0 0 := by simpa [Value.cells] using hcs
    simp only [Value.slice.injEq] at e
    obtain ⟨rfl, rfl, rfl⟩ := e
    exact ⟨[], none, 0, rfl, by simp, .inr ⟨rfl, rfl, rfl⟩⟩
  · have e : Value.slice a len cap = .slice (some a') len' cap' := by simpa [Value.cells] using hcs
    simp only [Value.slice.injEq] at e
    obtain ⟨rfl, rfl, rfl⟩ := e
    have hsp := slice_spot hok
    obtain ⟨b, off, s⟩ := a'
    simp only at hsp
    subst hsp
    have hlm : len ≤ m' := by rw [hmm]; split <;> omega
    have hlen : ((List.range len).map fun i => (intOf (V0 i), intOf (V1 i))).length = len := by simp
    refine ⟨(List.range len).map fun i => (intOf (V0 i), intOf (V1 i)), some ⟨b, off, none⟩, cap, by rw [hlen], by rw [hlen]; unfold maxLen at hcap; omega, .inl ⟨b, off, rfl, fun k hk => ?_⟩⟩
    rw [hlen] at hk
    obtain ⟨c0, c1, t0, t1⟩ := hall k (by omega)
    obtain ⟨x, ex, -, -⟩ := DataW.trod_int Tryz.underlying3 t0
    obtain ⟨y, ey, -, -⟩ := DataW.trod_int Tryz.underlying3 t1
    simp only [List.cons.injEq, and_true] at ex ey
    have hx : px ((List.range len).map fun i => (intOf (V0 i), intOf (V1 i))) k = x := by simp [px, hk, ex, intOf]
    have hy : py ((List.range len).map fun i => (intOf (V0 i), intOf (V1 i))) k = y := by simp [py, hk, ey, intOf]
    rw [hx, hy]
    rw [ex] at c0
    rw [ey] at c1
    rw [add_plain] at c0 c1
    exact ⟨c0, by simpa [Nat.add_assoc] using c1⟩

end Go.Proofs.YtkmcboincjohlaaGreat

/- Walks: bends. -/
namespace Go.Proofs.YtkmcboincjohlaaGreat
open Go Go.RowKit Go.Proofs Go.Shelf

/-- Which way a corner bends. -/
def bendS (xs ys : Nat → Int) (n x : Nat) : Int := if 0 < cross (xs ((x + n - 1) % n)) (ys ((x + n - 1) % n)) (xs x) (ys x) (xs ((x + 1) % n)) (ys ((x + 1) % n)) then 1 else -1

def bendL (xs ys : Nat → Int) (n : Nat) (pre : List Nat) : List Value := pre.map fun x => .int .i64 (bendS xs ys n x)

theorem KeepC.of_below_box {n B : Nat} {W W' : World} {t : TypeId} {v : Value} (h : Below n W W') (hn : n ≤ B) (h1 : Boxed W B t v) (h2 : Boxed W' B t v) : KeepC n B W W' := by
  refine ⟨h.size, fun k hk => ?_⟩
  rcases hk with hk | rfl
  · exact h.block k hk
  · exact (show W'.heap[k]? = _ from h2).trans (show W.heap[k]? = _ from h1).symm

theorem bendL_snoc (xs ys : Nat → Int) (n : Nat) (pre : List Nat) (x : Nat) : bendL xs ys n (pre ++ [x]) = bendL xs ys n pre ++ [.int .i64 (bendS xs ys n x)] := by simp [bendL]

attribute [local go_sem] Oper.semAt_some

set_option maxRecDepth 100000 in
set_option maxHeartbeats 4000000 in
theorem bends_any (b off len cap : Nat) (xs ys : Nat → Int) (hlen : len ≤ 1000000) (hsm : ∀ k, Small (xs k) ∧ Small (ys k)) (w : World)
    (hc : ∀ k, k < len → w.cell? ⟨b, off + k * 2, none⟩ = some (.int .i64 (xs k)) ∧ w.cell? ⟨b, off + k * 2 + 1, none⟩ = some (.int .i64 (ys k))) (hb : b < w.heap.size) :
    Calls Tryz.prog 61 #[.slice (some ⟨b, off, none⟩) len cap] w fun e w' => ∃ v, e = .returned v ∧ w'.ownsRow w.heap.size 3 1 v len (bendL xs ys len (List.range len)) ∧ Below w.heap.size w w' := by
  obtain ⟨i0, hi, hz0, hz1, hz2⟩ := info_parts info3
  refine (callsIn_wide (n := 6)).1 ?_
  have h1 : 1 ≤ 6 := by omega
  refine callsIn_of_wp_marks Tryz.func61 rfl trivial ?_ rfl
  simp only [Tryz.ntmps61, List.size_toArray, List.length_cons, List.length_nil, Nat.reduceAdd, Nat.reduceSub, Array.replicate_succ, Array.replicate_zero, List.push_toArray, List.append_toArray, List.nil_append, List.cons_append]
  gi_wp2_with (refine ⟨trivial, ?_⟩; gi_at_call 88; refine (corners_in Fence.wide 5 trivial rfl _ _ _ _).mono ?_; rintro e w' ⟨rfl, rfl⟩)
  obtain ⟨W0, hW0⟩ : ∃ W0, (w.alloc (.cells #[.slice none 0 0] 122)).alloc (.cells #[.slice (some ⟨b, off, none⟩) len cap] 34) = W0 := ⟨_, rfl⟩
  have hsz : W0.heap.size = w.heap.size + 2 := by rw [← hW0]; simp
  have bS : Boxed W0 w.heap.size 122 (.slice none 0 0) := by rw [← hW0]; exact (Boxed.new w 122 _).alloc _
  have bC : Boxed W0 (w.heap.size + 1) 34 (.slice (some ⟨b, off, none⟩) len cap) := by
    rw [← hW0]; have := Boxed.new (w.alloc (.cells #[.slice none 0 0] 122)) 34 (.slice (some ⟨b, off, none⟩) len cap); rwa [World.size_alloc] at this
  have hB0 : Below w.heap.size w W0 := by rw [← hW0]; exact ((Below.refl _ w).alloc (Nat.le_refl _) _).alloc (by simp) _
  rw [hW0]
  clear hW0
  refine wpIn_rangeFunc_ownH rfl h1 (gf := 131) (lb := #[.pointer (some ⟨w.heap.size + 1, 0, none⟩)]) rfl trivial (enters_of Tryz.func131 (by kernel_rfl) rfl)
    (corners_stops Fence.wide 5 trivial rfl (by omega) (w.heap.size + 1) w.heap.size b off len cap xs ys hlen hb W0 (by omega) (by omega) bC.cell (fun k hk => ⟨keep_cell hB0 (hc k hk).1, keep_cell hB0 (hc k hk).2⟩))
    KeepC.trans (fun W l o o' hl h _ _ => keepC_put (by omega) (by omega)) (Below.refl _ _) (fun _ => rfl)
    (fun pre W => (∃ v, Boxed W w.heap.size 122 v ∧ W.ownsRow w.heap.size 3 1 v pre.length (bendL xs ys len pre) ∧ True) ∧ Boxed W (w.heap.size + 1) 34 (.slice (some ⟨b, off, none⟩) len cap) ∧ Below w.heap.size w W ∧ w.heap.size + 2 ≤ W.heap.size)
    (fun _ _ _ => False)
    (OwnFrom.and (Own.from (holdsRow_own w.heap.size w.heap.size 122 3 1 List.length (bendL xs ys len) (fun _ _ => True)) _) (OwnFrom.and (Own.from (boxed_own _ _ _) _) (OwnFrom.and (ownFrom_below (Nat.le_refl _) (by omega)) (ownFrom_size _ _))))
    (fun _ _ _ _ _ hs _ _ => hs)
    ⟨⟨_, bS, World.ownsRow_nil _ _ _ _, trivial⟩, bC, hB0, by omega⟩
    (fun x a' W => ∃ Bx, w.heap.size + 1 < Bx ∧ Box6 W Bx (cnrV xs ys ((x + len - 1) % len) x ((x + 1) % len)) ∧ a' = { tmps := #[.slice (some ⟨b, off, none⟩) len cap, undef, .slice none 0 0, .pointer (some ⟨w.heap.size, 0, none⟩), undef, .pointer (some ⟨Bx, 0, none⟩), .slice (some ⟨b, off, none⟩) len cap, .func (.func 131) #[] #[.pointer (some ⟨w.heap.size + 1, 0, none⟩)], .int .i64 x, cnrV xs ys ((x + len - 1) % len) x ((x + 1) % len), undef, undef, undef, undef, undef, undef, undef, undef, undef, undef, undef, undef, undef, undef, undef], defers := [] })
    (fun x a' _ X Y row hs hg hr => by obtain ⟨Bx, h1, h2, h3⟩ := hs; exact ⟨Bx, h1, h2.own hg hr, h3⟩)
    ?assign ?body ?done ?stop
  case assign =>
    rintro l pre x W K ⟨⟨v, bS1, hr1, -⟩, bC1, hB1, hs1⟩ hK
    gi_wp2
    exact hK _ _ ((KeepsOthers.alloc _ _).from _) (KeepC.below ((Below.refl _ W).alloc (Nat.le_refl _) _) (by omega) (by omega)) ⟨⟨v, bS1.alloc _, hr1.alloc _, trivial⟩, bC1.alloc _, hB1.alloc (by omega) _, by simp; omega⟩ ⟨W.heap.size, by omega, Box6.new W _, rfl⟩
  case body =>
    rintro l pre x a' W hl _ ⟨⟨v, bS1, hr1, -⟩, bC1, hB1, hs1⟩ ⟨Bx, hBx, bX, rfl⟩ hlt
    have x0 := bX.cell (o := 0) rfl
    have x1 := bX.cell (o := 1) rfl
    have x2 := bX.cell (o := 2) rfl
    have x3 := bX.cell (o := 3) rfl
    have x4 := bX.cell (o := 4) rfl
    have x5 := bX.cell (o := 5) rfl
    have C := fun w => cross_any (xs ((x + len - 1) % len)) (ys ((x + len - 1) % len)) (xs x) (ys x) (xs ((x + 1) % len)) (ys ((x + 1) % len)) w (hsm _).1 (hsm _).2 (hsm _).1 (hsm _).2 (hsm _).1 (hsm _).2
    obtain ⟨cv, hcv⟩ : ∃ cv, cross (xs ((x + len - 1) % len)) (ys ((x + len - 1) % len)) (xs x) (ys x) (xs ((x + 1) % len)) (ys ((x + 1) % len)) = cv := ⟨_, rfl⟩
    rw [hcv] at C
    have KD : Hid (bendS xs ys len x = if 0 < cv then 1 else -1) := Lib.hid (by rw [← hcv]; rfl)
    clear hcv
    gi_wp2_with fail
    refine ⟨trivial, ?_⟩
    refine (CallsIn.inRound l (callsIn_wide.2 (C _))).mono ?_
    rintro e w' ⟨rfl, hbw⟩
    change Below W.heap.size W w' at hbw
    have bS2 := below_box hbw bS1
    have bC2 := below_box hbw bC1
    have hB2 := hB1.trans (hbw.mono hB1.size)
    have hkf := keepsFrom_below W0.heap.size hbw
    have hkc : KeepC w.heap.size (w.heap.size + 1) W w' := KeepC.below hbw (by omega) (by omega)
    have hs2 := Nat.le_trans hs1 hbw.size
    have hr2 := own_keep hr1 hbw
    have cS := bS2.cell
    have fS := bS2.frozen
    clear x0 x1 x2 x3 x4 x5 C
    by_cases hpos : 0 < cv
    · rw [if_pos hpos] at KD
      gi_wp2_with (gi_at_builtin; refine wpListIn_append_own _ rfl _ _ 122 rfl w.heap.size 3 i0 (.int .i64 0) 1 8 Tryz.underlying122 hi hz0 hz1 hz2 rfl (by decide) _ _ _ rfl (hr2.alloc _) ⟨w'.heap.size, 0, none⟩ 1 1 [.int .i64 (1)] rfl rfl (cell_one_new _ _ _) (by simp [Value.oneCell']) (by unfold maxLen; omega) (by omega) (by simp; omega) ?_; intro v' w3 hown' hg3 hnil3
                   obtain ⟨bx3, -, -, -, -⟩ := Boxed.appended bS2 (by decide) hr2 (by omega) (Nat.le_refl _) hown' hg3
                   obtain ⟨g', cap', hv'⟩ := ownsRow_succ hown'
                   subst hv'
                   have cS3 := bx3.cell
                   have fS3 := bx3.frozen)
      replace hg3 : (w'.alloc (.cells #[.int .i64 (1)] 3)).grownBy w3 v.ownBlock := hg3
      obtain ⟨-, k2, k3, k4, k5⟩ := Boxed.appended bS2 (by decide) hr2 (by omega) (Nat.le_refl _) hown' hg3
      have bC3 := ((bC2.alloc (.cells #[.int .i64 (1)] 3)).kept hg3 (bC2.not_row (by decide) hr2)).kept (grownBy_setCell' w3 w.heap.size (.slice (some ⟨g', 0, none⟩) (pre.length + 1) cap')) (by simp; done)
      refine ⟨hkf.trans (k4.from _), hkc.trans (KeepC.of_below_box k5 (by omega) bC2 bC3), ⟨⟨_, k2, ?_, trivial⟩, bC3, hB2.trans k5, Nat.le_trans hs2 k4.size⟩⟩
      rw [bendL_snoc, KD.out]
      simpa using k3
    · rw [if_neg hpos] at KD
      gi_wp2_with (gi_at_builtin; refine wpListIn_append_own _ rfl _ _ 122 rfl w.heap.size 3 i0 (.int .i64 0) 1 8 Tryz.underlying122 hi hz0 hz1 hz2 rfl (by decide) _ _ _ rfl (hr2.alloc _) ⟨w'.heap.size, 0, none⟩ 1 1 [.int .i64 (-1)] rfl rfl (cell_one_new _ _ _) (by simp [Value.oneCell']) (by unfold maxLen; omega) (by omega) (by simp; omega) ?_; intro v' w3 hown' hg3 hnil3
                   obtain ⟨bx3, -, -, -, -⟩ := Boxed.appended bS2 (by decide) hr2 (by omega) (Nat.le_refl _) hown' hg3
                   obtain ⟨g', cap', hv'⟩ := ownsRow_succ hown'
                   subst hv'
                   have cS3 := bx3.cell
                   have fS3 := bx3.frozen)
      replace hg3 : (w'.alloc (.cells #[.int .i64 (-1)] 3)).grownBy w3 v.ownBlock := hg3
      obtain ⟨-, k2, k3, k4, k5⟩ := Boxed.appended bS2 (by decide) hr2 (by omega) (Nat.le_refl _) hown' hg3
      have bC3 := ((bC2.alloc (.cells #[.int .i64 (-1)] 3)).kept hg3 (bC2.not_row (by decide) hr2)).kept (grownBy_setCell' w3 w.heap.size (.slice (some ⟨g', 0, none⟩) (pre.length + 1) cap')) (by simp; done)
      refine ⟨hkf.trans (k4.from _), hkc.trans (KeepC.of_below_box k5 (by omega) bC2 bC3), ⟨⟨_, k2, ?_, trivial⟩, bC3, hB2.trans k5, Nat.le_trans hs2 k4.size⟩⟩
      rw [bendL_snoc, KD.out]
      simpa using k3
  case done =>
    rintro D ks W hD rfl ⟨⟨v, bS1, hr1, -⟩, bC1, hB1, hs1⟩ hK
    have cS := bS1.cell
    gi_wp2
    refine ⟨by simp, .inl ⟨_, _, rfl, run_takeDeferred hK, ?_⟩⟩
    exact ⟨_, results_tmp rfl _ _ _, v, rfl, by simpa using ownsRow_putObj hr1 _ hK rfl, hB1.trans (belowK_b (w := w) (Nat.le_refl _) W D _ _ (by omega) hK rfl rfl)⟩
  case stop =>
    rintro D c pre W _ _ h _
    exact h.elim

end Go.Proofs.YtkmcboincjohlaaGreat

/- A region that draws its order, in a fence or in a round: what leads up to its end reads, or calls what only makes memory; the end comes last in every order. -/
namespace Go.Abs
open Go Go.RowKit

/-- An operation that waits for nothing and defers nothing. -/
def growOp (o : Oper) : Bool :=
  match o.op with
  | .select .. | .defer _ => false
  | _ => true

def growB (ops : Array Oper) (m : Nat) : Bool :=
  let A := ancs ops.toList []
  decide (m ≤ ops.size) &&
  ((List.range ops.size).all fun i => match ops[i]? with
    | none => true
    | some o => o.after.toList.all fun e => !Region.binds .any e || decide (e.on < i)) &&
  ((List.range m).all fun i => match ops[i]? with
    | none => true
    | some o => o.guard.isNone && growOp o && o.dst.isSome && ((List.range m).all fun j => match dstOf ops j with
        | none => true
        | some t => (i == j || !(o.dst == some t)) && (!(reads ops o).contains t || ancA A i j))) &&
  ((List.range ops.size).all fun k => decide (k < m) || ((List.range m).all fun j => ancA A k j))

/-- What an operation of the lead does in a world: it yields what the frame holds in its slot, or it calls what yields it and only makes memory. -/
def GrowsAt (F : Fence) (n : Nat) (P : Program) (a1 : Act) (W : World) (o : Oper) (d : Nat) : Prop :=
  (execOp a1.eval o).run P W = .ok (.value (a1.eval (.tmp d))) W ∨
  ∃ f args, (execOp a1.eval o).run P W = .ok (.enter f args) W ∧ CallsIn F (n - 1) P f args W fun e W' => e = .returned (a1.eval (.tmp d)) ∧ Below W.heap.size W W'

variable {F : Fence} {n m : Nat} {P : Program} {ops : Array Oper} {Q : Exit → Act → World → Prop} {a a1 : Act} {w : World}

theorem grow_sound (hfn : ∀ f, F.fn f) (hn : 1 ≤ n) (hB : growB ops m = true) (hsz : a1.tmps.size = a.tmps.size) (hdf : a1.defers = a.defers)
    (hkeep : ∀ t, (∀ j, j < m → dstOf ops j ≠ some t) → a1.tmps[t]? = a.tmps[t]?)
    (hy : ∀ i o d, i < m → ops[i]? = some o → o.dst = some d → d < a1.tmps.size ∧ ∀ W, Below w.heap.size w W → GrowsAt F n P a1 W o d)
    (hQ : ∀ listed : Array Bool, listed.size = ops.size → (∀ i, i < m → isIn listed i = true) → (∀ i, m ≤ i → isIn listed i = false) → ∀ W, Below w.heap.size w W → wpAnyIn F n P .any ops Q (ops.size - m) listed a1 W) :
    ∀ (k : Nat) (listed : Array Bool) (a' : Act) (W : World), Below w.heap.size w W → Lead ops m a a1 a' listed → left m listed = k → wpAnyIn F n P .any ops Q (ops.size - m + k) listed a' W := by
  unfold growB at hB
  simp only [Bool.and_eq_true, List.all_eq_true, List.mem_range, decide_eq_true_eq, Bool.or_eq_true] at hB
  obtain ⟨⟨⟨hm, hback⟩, hpre⟩, htail⟩ := hB
  intro k
  induction k with
  | zero =>
    intro listed a' W hW hi hl
    have hall := left_zero hl
    have : a' = a1 := by
      have ht : a'.tmps = a1.tmps := by
        apply Array.ext_getElem?
        intro t
        by_cases h : ∃ j, j < m ∧ dstOf ops j = some t
        · obtain ⟨j, h1, h2⟩ := h
          exact hi.done t j h1 (hall j h1) h2
        · rw [hkeep t (fun j hj e => h ⟨j, hj, e⟩), hi.rest t (fun j hj _ e => h ⟨j, hj, e⟩)]
      obtain ⟨t1, d1⟩ := a'
      obtain ⟨t2, d2⟩ := a1
      simp only at ht
      have hd : d1 = d2 := hi.defers.trans hdf.symm
      rw [ht, hd]
    subst this
    exact hQ listed hi.size hall hi.tail W hW
  | succ k ih =>
    intro listed a' W hW hi hl
    have hsz' := hi.size
    refine ⟨fun hnil => ?_, fun i hir => ?_⟩
    · exfalso
      have hall : ∀ i, i < m → isIn listed i = true := by
        intro i
        induction i using Nat.strongRecOn with
        | _ i ih2 =>
          intro him
          cases hli : isIn listed i with
          | true => rfl
          | false =>
            exfalso
            have hin : i < ops.size := by omega
            obtain ⟨o, ho⟩ : ∃ o, ops[i]? = some o := ⟨ops[i], by simp [hin]⟩
            have : i ∈ Region.ready .any ops listed := by
              rw [mem_ready]
              refine ⟨getD_in (by omega) hli, o, ho, fun e he hb => ?_⟩
              have h1 := hback i hin
              rw [ho] at h1
              simp only [List.all_eq_true] at h1
              have h2 := h1 e (by simpa using he)
              simp only [hb, Bool.not_true, Bool.false_or, decide_eq_true_eq] at h2
              exact ih2 e.on h2 (by omega)
            rw [hnil] at this
            cases this
      have : left m listed = 0 := by
        unfold left
        rw [List.length_eq_zero_iff, List.filter_eq_nil_iff]
        intro i hi2
        simp [hall i (List.mem_range.1 hi2)]
      omega
    · obtain ⟨hun, o, ho, hdeps⟩ := mem_ready.1 hir
      have hin := (Array.getElem?_eq_some_iff.1 ho).1
      have hli : isIn listed i = false := getD_both hun
      have up : ∀ j, anc ops i j = true → isIn listed j = true := fun j hj => anc_listed hi.closed i j hj (fun o' ho' e he hb => by
        rw [ho] at ho'; cases ho'; exact hdeps e he hb)
      have him : i < m := by
        rcases Nat.lt_or_ge i m with h | h
        · exact h
        · exfalso
          have hall : ∀ j, j < m → isIn listed j = true := by
            intro j hj
            rcases htail i hin with h1 | h1
            · omega
            · exact up j (h1 j hj)
          have : left m listed = 0 := by
            unfold left
            rw [List.length_eq_zero_iff, List.filter_eq_nil_iff]
            intro j hj
            simp [hall j (List.mem_range.1 hj)]
          omega
      have hp := hpre i him
      rw [ho] at hp
      simp only [Bool.and_eq_true, List.all_eq_true, List.mem_range, Option.isNone_iff_eq_none] at hp
      obtain ⟨⟨⟨hg, hpl⟩, hds⟩, hj⟩ := hp
      obtain ⟨d, hd⟩ := Option.isSome_iff_exists.1 hds
      have hdi : dstOf ops i = some d := by unfold dstOf; rw [ho]; exact hd
      have agree : ∀ t, t ∈ reads ops o → a'.tmps[t]? = a1.tmps[t]? := by
        intro t ht
        by_cases h : ∃ j, j < m ∧ dstOf ops j = some t
        · obtain ⟨j, h1, h2⟩ := h
          have h3 := hj j h1
          rw [h2] at h3
          simp only [Bool.and_eq_true, Bool.or_eq_true, Bool.not_eq_true', List.contains_eq_mem, decide_eq_false_iff_not] at h3
          rcases h3.2 with h4 | h4
          · exact absurd ht h4
          · exact hi.done t j h1 (up j h4) h2
        · rw [hkeep t (fun j hj e => h ⟨j, hj, e⟩), hi.rest t (fun j hj _ e => h ⟨j, hj, e⟩)]
      have hev : ∀ x ∈ o.op.operands, a'.eval x = a1.eval x := by
        intro x hx
        cases x with
        | tmp t =>
          have := agree t (by unfold reads; exact List.mem_append_left _ (List.mem_filterMap.2 ⟨.tmp t, by simpa using hx, rfl⟩))
          show a'.tmps.getD t undef = a1.tmps.getD t undef
          simp only [Array.getD_eq_getD_getElem?, this]
        | _ => rfl
      have hex : execOp a'.eval o = execOp a1.eval o := execOp_congr o (fun cs b he => by unfold growOp at hpl; rw [he] at hpl; cases hpl) hev
      have hsem : o.semAt F.round a'.eval = execOp a1.eval o := (Oper.semAt_plain F _ o (fun c he => by unfold growOp at hpl; rw [he] at hpl; cases hpl)).trans hex
      obtain ⟨hdl, hrun⟩ := hy i o d him ho hd
      have hw : Region.wanted o (yielded ops a'.tmps) = true := by unfold Region.wanted; rw [hg]
      have hnew : isIn (listed.setIfInBounds i true) i = true := by rw [isIn_set (by omega)]; simp
      have hother : ∀ j, j ≠ i → isIn (listed.setIfInBounds i true) j = isIn listed j := fun j hj => by
        rw [isIn_set (by omega)]
        have : (j == i) = false := by simpa using hj
        rw [this, Bool.or_false]
      have hd2 : d < a'.tmps.size := by rw [hi.len, ← hsz]; exact hdl
      have next : ∀ W', Below w.heap.size w W' → wpAnyIn F n P .any ops Q (ops.size - m + k) (listed.setIfInBounds i true) (a'.put o.dst (a1.eval (.tmp d))) W' := by
        intro W' hW'
        refine ih _ _ _ hW' ⟨by simpa using hsz', ?_, ?_, ?_, ?_, ?_, ?_⟩ ?_
        · intro j oj hoj hlj e he hb
          change isIn _ _ = true at hlj
          change isIn _ _ = true
          by_cases hji : j = i
          · subst hji
            rw [ho] at hoj; cases hoj
            have := hdeps e he hb
            by_cases hee : e.on = j
            · rw [hee]; exact hnew
            · rw [hother _ hee]; exact this
          · rw [hother j hji] at hlj
            have := hi.closed j oj hoj hlj e he hb
            by_cases hee : e.on = i
            · rw [hee]; exact hnew
            · rw [hother _ hee]; exact this
        · intro j hj
          rw [hother j (by omega)]
          exact hi.tail j hj
        · rw [hd]; exact hi.defers
        · rw [hd]; simp [Act.put, hi.len]
        · intro t j hjm hlj hdj
          rw [hd]
          show (a'.tmps.setIfInBounds d _)[t]? = _
          by_cases htd : t = d
          · subst htd
            rw [Array.getElem?_setIfInBounds_self_of_lt hd2]
            show some (a1.tmps.getD t undef) = _
            rw [Array.getD_eq_getD_getElem?, Array.getElem?_eq_getElem hdl]
            rfl
          · rw [Array.getElem?_setIfInBounds_ne (Ne.symm htd)]
            have hji : j ≠ i := fun e => by subst e; rw [hdi] at hdj; cases hdj; exact htd rfl
            rw [hother j hji] at hlj
            exact hi.done t j hjm hlj hdj
        · intro t hno
          rw [hd]
          show (a'.tmps.setIfInBounds d _)[t]? = _
          have htd : t ≠ d := fun e => hno i him hnew (by rw [hdi, e])
          rw [Array.getElem?_setIfInBounds_ne (Ne.symm htd)]
          exact hi.rest t fun j hjm hlj => by
            by_cases hji : j = i
            · subst hji; rw [hli] at hlj; cases hlj
            · exact hno j hjm (by rw [hother j hji]; exact hlj)
        · have := left_set (n := m) (listed := listed) (i := i)
          have h2 : left m (listed.setIfInBounds i true) + 1 = left m listed := by
            unfold left
            refine (filter_insert (i := i) m him (by simp [hli]) ?_ fun j hj => ?_).symm
            · simp [hnew]
            · rw [hother j hj]
          omega
      unfold wpOpIn
      simp only [ho, hw, if_true, Oper.wpIn, hsem]
      refine ⟨fun f _ => hfn f, ?_⟩
      rcases hrun W hW with h1 | ⟨f, args, h1, h2⟩
      · rw [h1]
        exact next W hW
      · rw [h1]
        refine ⟨fun _ => hn, h2.mono ?_⟩
        rintro e W' ⟨rfl, hb⟩
        exact next W' (hW.trans (hb.mono hW.size))

/-- THE LAW. -/
theorem wpIn_region_grow {id : Nat} (hm : P.follows .mixedOrders = true) (hfn : ∀ f, F.fn f) (hn : 1 ≤ n) (hB : growB ops m = true) (hsz : a1.tmps.size = a.tmps.size) (hdf : a1.defers = a.defers)
    (hkeep : ∀ t, (∀ j, j < m → dstOf ops j ≠ some t) → a1.tmps[t]? = a.tmps[t]?)
    (hy : ∀ i o d, i < m → ops[i]? = some o → o.dst = some d → d < a1.tmps.size ∧ ∀ W, Below w.heap.size w W → GrowsAt F n P a1 W o d)
    (hQ : ∀ listed : Array Bool, listed.size = ops.size → (∀ i, i < m → isIn listed i = true) → (∀ i, m ≤ i → isIn listed i = false) → ∀ W, Below w.heap.size w W → wpAnyIn F n P .any ops Q (ops.size - m) listed a1 W) :
    (Code.region id ops true).wpIn F n P Q a w := by
  have hmm : m ≤ ops.size := by
    unfold growB at hB
    simp only [Bool.and_eq_true, decide_eq_true_eq] at hB
    exact hB.1.1.1
  refine wpIn_region_any hm ?_
  have hno : ∀ i, isIn (Array.replicate ops.size false) i = false := fun i => getD_replicate_false _ _
  have hd : Below w.heap.size w w.drew := (Below.refl _ w).drew
  have := grow_sound (F := F) (n := n) (P := P) (Q := Q) (w := w) hfn hn hB hsz hdf hkeep hy hQ m (Array.replicate ops.size false) a w.drew hd
    ⟨by simp, fun j oj _ hl => (by rw [getD_replicate_false] at hl; cases hl), fun i _ => hno i, rfl, rfl, fun t j _ hl => (by rw [hno] at hl; cases hl), fun t _ => rfl⟩
    (by unfold left; rw [List.filter_eq_self.2 (fun i _ => by simp [hno])]; simp)
  have e : ops.size - m + m = ops.size := by omega
  rw [e] at this
  exact this

/-- Each operation yields what the frame holds in its slot, or calls what does. -/
def RunsG (F : Fence) (n : Nat) (P : Program) (a1 : Act) (W : World) : List Oper → Prop
  | [] => True
  | o :: l => (∀ d, o.dst = some d → GrowsAt F n P a1 W o d) ∧ RunsG F n P a1 W l

theorem RunsG.get {W : World} : ∀ {l : List Oper}, RunsG F n P a1 W l → ∀ (i : Nat) (o : Oper), l[i]? = some o → ∀ d, o.dst = some d → GrowsAt F n P a1 W o d
  | [], _, i, o, h => by simp at h
  | o' :: l, hr, 0, o, h => by simp at h; subst h; exact hr.1
  | o' :: l, hr, i + 1, o, h => hr.2.get i o (by simpa using h)

/-- The slots lie in the frame. -/
def slotsB (size : Nat) (l : List Oper) : Bool := l.all fun o => match o.dst with | none => true | some d => decide (d < size)

theorem wpIn_region_grown {id : Nat} {l : List Oper} (vals : List (Nat × Value)) (hm : P.follows .mixedOrders = true) (hfn : ∀ f, F.fn f) (hn : 1 ≤ n) (hB : growB l.toArray m = true)
    (hv : vals.map (fun p => some p.1) = (l.take m).map (·.dst)) (hs : slotsB a.tmps.size (l.take m) = true)
    (hy : ∀ W, Below w.heap.size w W → RunsG F n P { a with tmps := putsL a.tmps vals } W (l.take m))
    (hQ : ∀ W, Below w.heap.size w W → wpAnyIn F n P .any l.toArray Q (l.length - m) (ledList l.length m) { a with tmps := putsL a.tmps vals } W) :
    (Code.region id l.toArray true).wpIn F n P Q a w := by
  have hmm : m ≤ l.length := by
    unfold growB at hB
    simp only [Bool.and_eq_true, decide_eq_true_eq] at hB
    simpa using hB.1.1.1
  refine wpIn_region_grow (a1 := { a with tmps := putsL a.tmps vals }) hm hfn hn hB (putsL_size _ _) rfl ?_ ?_ ?_
  · intro t h
    refine putsL_other vals t _ fun p hp e => ?_
    have h1 : some p.1 ∈ vals.map (fun p => some p.1) := List.mem_map.2 ⟨p, hp, rfl⟩
    rw [hv] at h1
    obtain ⟨o, ho, hd⟩ := List.mem_map.1 h1
    obtain ⟨j, hj⟩ := List.mem_iff_getElem?.1 ho
    have hjm : j < m := by
      have := (List.getElem?_eq_some_iff.1 hj).1
      simp at this; omega
    refine h j hjm ?_
    rw [List.getElem?_take, if_pos hjm] at hj
    unfold dstOf
    simp [hj, hd, e]
  · intro i o d hi ho hd
    have ho' : (l.take m)[i]? = some o := by
      rw [List.getElem?_take, if_pos hi]
      simpa using ho
    refine ⟨?_, fun W hW => (hy W hW).get i o ho' d hd⟩
    unfold slotsB at hs
    rw [List.all_eq_true] at hs
    have := hs o (List.mem_of_getElem? ho')
    rw [hd] at this
    simpa [putsL_size] using this
  · intro listed hs h1 h2 W hW
    have := listed_eq (n := l.length) hmm (by simpa using hs) h1 h2
    subst this
    simpa using hQ W hW

end Go.Abs

/- Walks: Bends, and the iterator over the measures. -/
namespace Go.Proofs.YtkmcboincjohlaaGreat
open Go Go.RowKit Go.Proofs Go.Abs

set_option maxRecDepth 100000 in
set_option maxHeartbeats 2000000 in
/-- Bends of an outline. -/
theorem bends_good {w : World} {b off cap : Nat} {L : List (Int × Int)} (hp : PtsAt w b off L) (hv : vOut L = true) :
    Calls Tryz.prog 51 #[.slice (some ⟨b, off, none⟩) L.length cap] w fun e w' => ∃ r, e = .returned (.tuple #[r, .int .i64 0]) ∧ w'.ownsRow w.heap.size 3 1 r L.length (bendL (px L) (py L) L.length (List.range L.length)) ∧ Below w.heap.size w w' := by
  obtain ⟨h3, h24, hvp⟩ := vOut_n hv
  have C1 := validOutline_any b off cap L (by omega) w hp
  rw [hv] at C1
  have hsm := vPts_small hvp
  have C2 := fun w' (hb : Below w.heap.size w w') => bends_any b off L.length cap (px L) (py L) (by omega) hsm w' (hp.keep hb) ((hp.keep hb).lt (by omega))
  clear hp hsm hvp hv
  go_enter Tryz.func51, Tryz.ntmps51
  go_wp2_with fail
  refine C1.mono ?_
  rintro e w1 ⟨rfl, hb⟩
  go_wp2_with fail
  refine (C2 w1 hb).mono ?_
  rintro e w2 ⟨r, rfl, o2, hb2⟩
  have b2 := keep_below hb hb2
  have HO := Lib.hid (own_base o2 hb.size)
  clear o2
  go_wp2
  go_ret2
  exact ⟨_, rfl, HO.out, b2⟩

end Go.Proofs.YtkmcboincjohlaaGreat

/- The iterator over the measures of an outline: its contract. -/
namespace Go.Proofs.YtkmcboincjohlaaGreat
open Go Go.RowKit Go.Proofs Go.Abs

attribute [local go_sem] Oper.semAt_some

/-- What a round must keep: what lay below n, the block B, and every row of numbers. -/
structure KeepN (n B : Nat) (W W' : World) : Prop where
  size : W.heap.size ≤ W'.heap.size
  same : ∀ k, k < n ∨ k = B → W'.heap[k]? = W.heap[k]?
  row : ∀ (k : Nat) (c : Array Value) (x : Nat × Nat), W.heap[k]? = some (.cells c 3 x) → W'.heap[k]? = some (.cells c 3 x)

theorem KeepN.refl (n B : Nat) (W : World) : KeepN n B W W := ⟨Nat.le_refl _, fun _ _ => rfl, fun _ _ _ h => h⟩
theorem KeepN.trans {n B : Nat} {X Y Z : World} (h : KeepN n B X Y) (k : KeepN n B Y Z) : KeepN n B X Z :=
  ⟨Nat.le_trans h.size k.size, fun i hi => (k.same i hi).trans (h.same i hi), fun i c x hc => k.row i c x (h.row i c x hc)⟩
theorem KeepN.cell {n B : Nat} {W W' : World} (h : KeepN n B W W') {b o : Nat} {v : Value} (hb : b < n ∨ b = B) (hc : W.cell? ⟨b, o, none⟩ = some v) : W'.cell? ⟨b, o, none⟩ = some v := by
  rw [World.cell?_of_block (h.same b hb)]; exact hc
theorem KeepN.below {n B : Nat} {W W' : World} (h : Below W.heap.size W W') (hn : n ≤ W.heap.size) (hB : B < W.heap.size) : KeepN n B W W' :=
  ⟨h.size, fun k hk => h.block k (by omega), fun k _ _ hc => (h.block k (Array.getElem?_eq_some_iff.1 hc).1).trans hc⟩
theorem KeepN.put {n B l : Nat} {W : World} {o o' : Obj} (h1 : n ≤ l) (h2 : B < l) (ho : W.heap[l]? = some o) (hc : o.isCells = false) : KeepN n B W (W.putObj l o') :=
  ⟨(grownBy_putObj' W l o').size, fun k hk => World.putObj_heap_other (by omega), fun k c x hk => by
    have : k ≠ l := fun e => by subst e; rw [hk] at ho; cases ho; cases hc
    exact (World.putObj_heap_other this).trans hk⟩

/-- The three measures of an edge. -/
abbrev ms (a b c : Int) : Value := .agg #[.int .i64 a, .int .i64 b, .int .i64 c]
def sqK (L : List (Int × Int)) (i j : Nat) : Int := square (px L i) (py L i) (px L j) (py L j)
def m1 (L : List (Int × Int)) (x : Nat) : Int := sqK L x ((x + 1) % L.length)
def m2 (L : List (Int × Int)) (x : Nat) : Int := sqK L x ((x + 2) % L.length)
def m3 (L : List (Int × Int)) (x : Nat) : Int := bendS (px L) (py L) L.length ((x + 1) % L.length)
theorem square_ok {L : List (Int × Int)} (hv : vOut L = true) {i j : Nat} (hi : i < L.length) (hj : j < L.length) (w : World) :
    Calls Tryz.prog 52 #[pt (px L i) (py L i), pt (px L j) (py L j)] w fun e w' => e = .returned (.tuple #[.int .i64 (sqK L i j), .int .i64 0]) ∧ Below w.heap.size w w' := by
  have hp := (vOut_n hv).2.2
  unfold vPts allValid at hp
  rw [List.all_eq_true] at hp
  have h1 := hp i (List.mem_range.2 hi)
  have h2 := hp j (List.mem_range.2 hj)
  have := squareP_any (px L i) (py L i) (px L j) (py L j) w
  rw [h1, h2] at this
  exact this

theorem bendL_get {xs ys : Nat → Int} {n k : Nat} (h : k < n) : (bendL xs ys n (List.range n))[k]? = some (.int .i64 (bendS xs ys n k)) := by
  unfold bendL
  rw [List.getElem?_map, List.getElem?_range h]
  rfl

set_option maxRecDepth 100000 in
set_option maxHeartbeats 8000000 in
theorem measured2_in (n : Nat) (hn : 2 ≤ n) (l Bs n₁ b off cap : Nat) (L : List (Int × Int)) (hv : vOut L = true) (hb : b < n₁) (J Jx : List Nat → World → Prop)
    (hY : ∀ pre x W, J pre W → pre.length < L.length → x < L.length → YieldAt Fence.wide (n - 1) Tryz.prog l #[.int .i64 (x : Nat), ms (m1 L x) (m2 L x) (m3 L x)] W fun e W' =>
      (e = .returned (.bool true) ∧ J (pre ++ [x]) W' ∧ KeepN n₁ Bs W W') ∨ (e = .returned (.bool false) ∧ Jx (pre ++ [x]) W'))
    (W : World) (hn1 : n₁ ≤ W.heap.size) (hBs : W.cell? ⟨Bs, 0, none⟩ = some (.slice (some ⟨b, off, none⟩) L.length cap)) (hJ : ∀ s W W', J s W → W.grownBy W' none → J s W')
    (hp : PtsAt W b off L) (h0 : J [] W) :
    CallsIn Fence.wide n Tryz.prog 50 #[.func (.yield l) #[] #[], .pointer (some ⟨Bs, 0, none⟩)] W fun e W' => (∃ v, e = .returned v) ∧
      ((∃ ks, ks = List.range L.length ∧ J ks W') ∨ (∃ pre, (∃ k, k ≤ L.length ∧ pre = List.range k) ∧ Jx pre W')) := by
  have hBlt := lt_of_cell hBs
  have CB := bends_good (cap := cap) hp hv
  obtain ⟨h3, h24, -⟩ := vOut_n hv
  have SQ := fun (i j : Nat) (hi : i < L.length) (hj : j < L.length) (w : World) => square_ok hv hi hj w
  have HM1 := Lib.hid (show ∀ x, m1 L x = sqK L x ((x + 1) % L.length) from fun _ => rfl)
  have HM2 := Lib.hid (show ∀ x, m2 L x = sqK L x ((x + 2) % L.length) from fun _ => rfl)
  have HM3 := Lib.hid (show ∀ x, m3 L x = bendS (px L) (py L) L.length ((x + 1) % L.length) from fun _ => rfl)
  have HY := Lib.hid hY
  have HP := Lib.hid (show ∀ k, k < L.length → _ from hp)
  clear hY hp hv
  generalize m1 L = f1, m2 L = f2, m3 L = f3 at HM1 HM2 HM3 HY
  generalize hlen : L.length = len at *
  refine callsIn_of_wp Tryz.func50 rfl trivial ?_ rfl
  simp only [Tryz.ntmps50, List.size_toArray, List.length_cons, List.length_nil, Nat.reduceAdd, Nat.reduceSub, Array.replicate_succ, Array.replicate_zero, List.push_toArray, List.append_toArray, List.nil_append, List.cons_append]
  gi_wp2_with fail
  refine ⟨trivial, fun _ => by omega, ?_⟩
  refine (callsIn_wide.2 CB).mono ?_
  rintro e W1 ⟨r, rfl, o1, hb1⟩
  clear CB
  obtain ⟨g, cap', hr⟩ : ∃ g cap', r = .slice (some ⟨g, 0, none⟩) len cap' := by
    rcases o1.2 with ⟨-, h⟩ | ⟨g, cap', cur, h, -⟩
    · omega
    · exact ⟨g, cap', h⟩
  subst hr
  obtain ⟨cur, hg, hcur⟩ : ∃ cur, W1.heap[g]? = some (.cells cur 3 (0, 0)) ∧ ∀ k, k < len → cur[k]? = some (.int .i64 (bendS (px L) (py L) len k)) := by
    have hc := fun k (hk : k < len) => (o1.cellAt k (by omega)).trans (bendL_get hk)
    rcases o1.2 with ⟨h, -⟩ | ⟨g', cap2, cur, h, -, h2, -⟩
    · cases h
    · simp only [Value.slice.injEq, Option.some.injEq, Addr.mk.injEq] at h
      obtain ⟨⟨rfl, -⟩, -, -⟩ := h
      refine ⟨cur, h2, fun k hk => ?_⟩
      have := hc k hk
      simpa [World.cell?, h2] using this
  clear o1
  have HC := Lib.hid hcur
  have hJ1 : J [] W1 := hJ _ _ _ h0 (grown_below hb1)
  have hK1 : KeepN n₁ Bs W W1 := KeepN.below hb1 hn1 hBlt
  have hBs1 := keep_cell hb1 hBs
  clear hcur h0
  gi_wp2_with fail
  gi_loopw [22] (fun i wr => ∃ k : Nat, k ≤ len ∧ i = .int .i64 k ∧ J (List.range k) wr ∧ KeepN n₁ Bs W wr ∧ wr.heap[g]? = some (.cells cur 3 (0, 0))) (fun i _ => len - (intOf i).toNat)
  case atStart => exact ⟨0, Nat.zero_le _, rfl, hJ1, hK1, hg⟩
  case round =>
    clear hJ1 hK1 hg hb1 hBs1 W1
    obtain ⟨k, hk, rfl, hJs, hkp, hgr⟩ := hrel
    have hBs' := hkp.cell (.inr rfl) hBs
    by_cases hlt : k < len
    · have e0 := (HP.out k hlt).1
      have e1 := (HP.out k hlt).2
      replace e0 := hkp.cell (.inl hb) e0
      replace e1 := hkp.cell (.inl hb) e1
      have i1 : (k : Int) < (len : Int) := by omega
      obtain ⟨q, hq⟩ : ∃ q, (k + 1) % len = q := ⟨_, rfl⟩
      obtain ⟨r, hr⟩ : ∃ r, (k + 2) % len = r := ⟨_, rfl⟩
      have hql : q < len := by rw [← hq]; exact Nat.mod_lt _ (by omega)
      have hrl : r < len := by rw [← hr]; exact Nat.mod_lt _ (by omega)
      have q0 := hkp.cell (.inl hb) (HP.out q hql).1
      have q1 := hkp.cell (.inl hb) (HP.out q hql).2
      have r0 := hkp.cell (.inl hb) (HP.out r hrl).1
      have r1 := hkp.cell (.inl hb) (HP.out r hrl).2
      have iq : (q : Int) < (len : Int) := by omega
      have ir : (r : Int) < (len : Int) := by omega
      have F1 := HM1.out k
      have F2 := HM2.out k
      have F3 := HM3.out k
      rw [hq] at F1 F3
      rw [hr] at F2
      have S1 := fun w => SQ k q hlt hql w
      have S2 := fun w => SQ k r hlt hrl w
      rw [← F1] at S1
      rw [← F2] at S2
      have hcq := HC.out q hql
      rw [← F3] at hcq
      have U1 : IntKind.i64.wrap ((k : Int) + 1) = (k : Int) + 1 := wi64 _ (by omega)
      have U2 : IntKind.i64.wrap ((k : Int) + 2) = (k : Int) + 2 := wi64 _ (by omega)
      have T1 : ((k : Int) + 1).tmod len = (q : Int) := by rw [Int.tmod_eq_emod_of_nonneg (by omega), ← hq, Int.natCast_emod]; congr 1
      have T2 : ((k : Int) + 2).tmod len = (r : Int) := by rw [Int.tmod_eq_emod_of_nonneg (by omega), ← hr, Int.natCast_emod]; congr 1
      have l0 : ¬ len = 0 := by omega
      have HY1 := Lib.hid (fun W h => HY.out (List.range k) k W h (by simpa using hlt) hlt)
      generalize f1 k = a1 at S1 HY1
      generalize f2 k = a2 at S2 HY1
      generalize f3 k = a3 at hcq HY1
      generalize px L k = xk, py L k = yk at e0 e1 S1 S2
      generalize px L q = xq, py L q = yq at q0 q1 S1
      generalize px L r = xr, py L r = yr at r0 r1 S2
      clear SQ HY HM1 HM2 HM3 HP HC F1 F2 F3 hq hr
      gi_wp2_with fail
      have hBs2 := pt_old wr (ptObj xk yk) hBs'
      have q02 := pt_old wr (ptObj xk yk) q0
      have q12 := pt_old wr (ptObj xk yk) q1
      have r02 := pt_old wr (ptObj xk yk) r0
      have r12 := pt_old wr (ptObj xk yk) r1
      have B0 := pt_new wr xk yk
      have kb2 : KeepN n₁ Bs W (wr.alloc (ptObj xk yk)) := hkp.trans (KeepN.below ((Below.refl _ _).alloc (Nat.le_refl _) _) (Nat.le_trans hn1 hkp.size) (lt_of_cell hBs'))
      have g2 : (wr.alloc (ptObj xk yk)).heap[g]? = some (.cells cur 3 (0, 0)) := (KeepN.below (n := 0) (B := 0) ((Below.refl _ _).alloc (Nat.le_refl _) _) (by omega) (by have := lt_of_cell hBs'; omega)).row _ _ _ hgr
      have J2 : J (List.range k) (wr.alloc (ptObj xk yk)) := hJ _ _ _ hJs (grown_below ((Below.refl _ _).alloc (Nat.le_refl _) _))
      have hPB := lt_of_cell B0.1
      change Code.wpIn _ _ _ _ _ _ (wr.alloc (ptObj xk yk))
      obtain ⟨P, hP⟩ : ∃ P, wr.heap.size = P := ⟨_, rfl⟩
      rw [hP] at B0 hPB
      simp only [hP]
      generalize wr.alloc (ptObj xk yk) = X at *
      clear hP e0 e1 q0 q1 r0 r1 hBs' hkp hgr hJs
      refine wpIn_region_grown (m := 11) [(32, pt xk yk), (33, .slice (some ⟨b, off, none⟩) len cap), (34, .int .i64 q), (35, .pointer (some ⟨b, off + q * 2, none⟩)), (36, pt xq yq), (37, .tuple #[.int .i64 a1, .int .i64 0]), (31, .tuple #[.int .i64 a1, .int .i64 0]), (38, .int .i64 a1), (39, .int .i64 0), (9, .int .i64 a1), (10, .int .i64 0)] (by kernel_rfl) (fun _ => trivial) (by omega) (by kernel_rfl) rfl (by kernel_rfl) ?_ ?_
      · intro X' hX'
        have d0 := keep_cell hX' hBs2
        have d1 := keep_cell hX' q02
        have d2 := keep_cell hX' q12
        have d3 := keep_cell hX' B0.1
        have d4 := keep_cell hX' B0.2
        clear hBs2 q02 q12 r02 r12 B0
        simp only [putsL, List.setIfInBounds_toArray, List.set_cons_zero, List.set_cons_succ, List.take_succ_cons, List.take_zero]
        refine ⟨fun d hd => .inl ?_, fun d hd => .inl ?_, fun d hd => .inl ?_, fun d hd => .inl ?_, fun d hd => .inl ?_, fun d hd => .inr ⟨52, #[pt xk yk, pt xq yq], ?_, ?_⟩, fun d hd => .inl ?_, fun d hd => .inl ?_, fun d hd => .inl ?_, fun d hd => .inl ?_, fun d hd => .inl ?_, trivial⟩
        all_goals cases hd
        all_goals first
          | (go_simp; done)
          | (exact callsIn_wide.2 ((S1 X').mono fun e w'' h => ⟨h.1, h.2⟩))
          | trace_state
      · intro X2 hX2
        have kb3 := kb2.trans (KeepN.below hX2 (Nat.le_trans hn1 kb2.size) (lt_of_cell hBs2))
        have g3 := (hX2.block _ (Array.getElem?_eq_some_iff.1 g2).1).trans g2
        have J3 := hJ _ _ _ J2 (grown_below hX2)
        replace hBs2 := keep_cell hX2 hBs2
        replace r02 := keep_cell hX2 r02
        replace r12 := keep_cell hX2 r12
        replace B0 := And.intro (keep_cell hX2 B0.1) (keep_cell hX2 B0.2)
        clear kb2 g2 J2 q02 q12 hX2 hPB X
        simp only [putsL, List.setIfInBounds_toArray, List.set_cons_zero, List.set_cons_succ, List.length_cons, List.length_nil, Nat.reduceAdd, Nat.reduceSub, ledList, List.replicate, List.cons_append, List.nil_append]
        refine wpAnyIn_done (by kernel_rfl) ?_ _
        gi_wp2_with fail
        refine wpIn_region_grown (m := 14) [(41, pt xk yk), (42, .slice (some ⟨b, off, none⟩) len cap), (43, .int .i64 k), (44, .int .i64 ((k : Int) + 2)), (45, .int .i64 len), (46, .int .i64 r), (47, .pointer (some ⟨b, off + r * 2, none⟩)), (48, pt xr yr), (49, .tuple #[.int .i64 a2, .int .i64 0]), (40, .tuple #[.int .i64 a2, .int .i64 0]), (50, .int .i64 a2), (51, .int .i64 0), (11, .int .i64 a2), (12, .int .i64 0)] (by kernel_rfl) (fun _ => trivial) (by omega) (by kernel_rfl) rfl (by kernel_rfl) ?_ ?_
        · intro X' hX'
          have d0 := keep_cell hX' hBs2
          have d1 := keep_cell hX' r02
          have d2 := keep_cell hX' r12
          have d3 := keep_cell hX' B0.1
          have d4 := keep_cell hX' B0.2
          clear hBs2 r02 r12 B0
          simp only [putsL, List.setIfInBounds_toArray, List.set_cons_zero, List.set_cons_succ, List.take_succ_cons, List.take_zero]
          refine ⟨fun d hd => .inl ?_, fun d hd => .inl ?_, fun d hd => .inl ?_, fun d hd => .inl ?_, fun d hd => .inl ?_, fun d hd => .inl ?_, fun d hd => .inl ?_, fun d hd => .inl ?_, fun d hd => .inr ⟨52, #[pt xk yk, pt xr yr], ?_, ?_⟩, fun d hd => .inl ?_, fun d hd => .inl ?_, fun d hd => .inl ?_, fun d hd => .inl ?_, fun d hd => .inl ?_, trivial⟩
          all_goals cases hd
          all_goals first
            | (go_simp; done)
            | (exact callsIn_wide.2 ((S2 X').mono fun e w'' h => ⟨h.1, h.2⟩))
            | trace_state
        · intro X4 hX4
          have kb5 := kb3.trans (KeepN.below hX4 (Nat.le_trans hn1 kb3.size) (lt_of_cell hBs2))
          have g5 := (hX4.block _ (Array.getElem?_eq_some_iff.1 g3).1).trans g3
          have J5 := hJ _ _ _ J3 (grown_below hX4)
          clear kb3 g3 J3 hBs2 r02 r12 B0 hX4 X2
          simp only [putsL, List.setIfInBounds_toArray, List.set_cons_zero, List.set_cons_succ, List.length_cons, List.length_nil, Nat.reduceAdd, Nat.reduceSub, ledList, List.replicate, List.cons_append, List.nil_append]
          refine wpAnyIn_done (by kernel_rfl) ?_ _
          have c5 : X4.cell? ⟨g, q, none⟩ = some (.int .i64 a3) := by simp [World.cell?, g5, hcq]
          obtain ⟨fn, tmps, assign, body, hy, hR⟩ := HY1.out X4 J5
          gi_wp2_with fail
          refine ⟨fun _ => by omega, hR.mono ?_⟩
          rintro e W3 (⟨rfl, hJ3, hk3⟩ | ⟨rfl, hJx3⟩)
          · gi_wp2
            refine ⟨⟨k + 1, by omega, by simp, by rw [List.range_succ]; exact hJ3, kb5.trans hk3, hk3.row _ _ _ g5⟩, by simp [intOf]; omega⟩
          · gi_wp2
            refine bodyPost_ret (results_none rfl _ _ _) rfl ?_
            exact ⟨⟨_, rfl⟩, .inr ⟨_, ⟨k + 1, by omega, List.range_succ.symm⟩, hJx3⟩⟩
    · obtain rfl : k = len := by omega
      gi_wp2
      go_end0
      exact ⟨⟨_, rfl⟩, .inl ⟨_, rfl, hJs⟩⟩

abbrev msE (L : List (Int × Int)) (x : Nat) : Array Value := #[.int .i64 (x : Nat), ms (m1 L x) (m2 L x) (m3 L x)]

theorem measured_stops (n : Nat) (hn : 2 ≤ n) (Bs n₁ b off cap : Nat) (L : List (Int × Int)) (hv : vOut L = true) (hb : b < n₁) (w : World) (hn1 : n₁ ≤ w.heap.size)
    (hcB : w.cell? ⟨Bs, 0, none⟩ = some (.slice (some ⟨b, off, none⟩) L.length cap)) (hp : PtsAt w b off L) :
    SeqStopsK Fence.wide n Tryz.prog 50 #[.pointer (some ⟨Bs, 0, none⟩)] (msE L) (KeepN n₁ Bs) (fun ks => ks = List.range L.length) (fun pre => ∃ k, k ≤ L.length ∧ pre = List.range k) L.length w := fun l J Jx W hW hJ _ hY h0 =>
  measured2_in n hn l Bs n₁ b off cap L hv hb J Jx (fun pre x W h1 h2 _ => hY pre x W h1 h2) W (Nat.le_trans hn1 hW.size) (keep_cell hW hcB) (fun s A B hs hg => hJ s A B none hs hg (fun r e => by cases e)) (hp.keep hW) h0

/-- The same, each edge known to be one. -/
theorem measured_stopsF (n : Nat) (hn : 2 ≤ n) (Bs n₁ b off cap : Nat) (L : List (Int × Int)) (hv : vOut L = true) (hb : b < n₁) (w : World) (hn1 : n₁ ≤ w.heap.size)
    (hcB : w.cell? ⟨Bs, 0, none⟩ = some (.slice (some ⟨b, off, none⟩) L.length cap)) (hp : PtsAt w b off L) :
    SeqStopsK Fence.wide n Tryz.prog 50 #[.pointer (some ⟨Bs, 0, none⟩)] (fun x : Fin L.length => msE L x.1) (KeepN n₁ Bs) (fun ks => ks.map Fin.val = List.range L.length) (fun _ => True) L.length w := fun l J Jx W hW hJ _ hY h0 => by
  refine (measured2_in n hn l Bs n₁ b off cap L hv hb (fun pre W => ∃ p : List (Fin L.length), p.map Fin.val = pre ∧ J p W) (fun pre W => ∃ p : List (Fin L.length), p.map Fin.val = pre ∧ Jx p W) ?_ W (Nat.le_trans hn1 hW.size) (keep_cell hW hcB) (fun s A B hs hg => ?_) (hp.keep hW) ⟨[], rfl, h0⟩).mono ?_
  · rintro pre x W' ⟨p, rfl, hJp⟩ h1 h2
    refine (hY p ⟨x, h2⟩ W' hJp (by simpa using h1)).mono ?_
    rintro e W'' (⟨h3, h4, h5⟩ | ⟨h3, h4⟩)
    · exact .inl ⟨h3, ⟨p ++ [⟨x, h2⟩], by simp, h4⟩, h5⟩
    · exact .inr ⟨h3, ⟨p ++ [⟨x, h2⟩], by simp, h4⟩⟩
  · obtain ⟨p, h1, h2⟩ := hs
    exact ⟨p, h1, hJ p A B none h2 hg (fun r e => by cases e)⟩
  · rintro e W' ⟨h1, ⟨ks, rfl, p, h2, h3⟩ | ⟨pre, -, p, h2, h3⟩⟩
    · exact ⟨h1, .inl ⟨p, h2, h3⟩⟩
    · exact ⟨h1, .inr ⟨p, trivial, h3⟩⟩

set_option maxHeartbeats 1000000 in
theorem measured_in (n : Nat) (a : Option Addr) (len cap : Nat) (w : World) :
    CallsIn Fence.wide n Tryz.prog 20 #[.slice a len cap] w fun e w' => e = .returned (.func (.func 50) #[] #[.pointer (some ⟨w.heap.size, 0, none⟩)]) ∧ w' = w.alloc (.cells #[.slice a len cap] 34) := by
  refine callsIn_of_wp Tryz.func20 rfl trivial ?_ rfl
  simp only [Tryz.ntmps20, List.size_toArray, List.length_cons, List.length_nil, Nat.reduceAdd, Nat.reduceSub, Array.replicate_succ, Array.replicate_zero, List.push_toArray, List.append_toArray, List.nil_append, List.cons_append]
  gi_wp2
  go_ret
  exact ⟨rfl, rfl⟩

end Go.Proofs.YtkmcboincjohlaaGreat
