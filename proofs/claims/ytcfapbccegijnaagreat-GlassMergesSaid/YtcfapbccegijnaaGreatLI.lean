/- The abstract machine, part LI. -/
import Derived.Test.YtcfapbccegijnaaGreatLA
import Derived.OpenShut
import Derived.ChangeSlices
import Derived.Lib.SmallJoins
import Derived.Test.YtcfapbccegijnaaGreatLB
import Derived.Test.YtcfapbccegijnaaGreatLC
import Derived.Deep.Slices
import Derived.Test.YtcfapbccegijnaaGreatLH
import Derived.Deep.SlicePairs
import Derived.Test.YtcfapbccegijnaaGreatLG
import Derived.RangeFuncBox
import Derived.Test.YtcfapbccegijnaaGreatLE
import Derived.OwnWalkIn
import Derived.Laws.OwnMore
/- A slice of numbers that came in, opened; a film. -/
namespace Go.Proofs.YtcfapbccegijnaaGreat
open Go Go.RowKit Go.Proofs Go.WideShapes Go.ChangeShapes Go.Deep Go.Joins

end Go.Proofs.YtcfapbccegijnaaGreat

/- Pieces that came in, opened: lists of gauges and of marks. -/
namespace Go.Proofs.YtcfapbccegijnaaGreat
open Go Go.RowKit Go.Proofs Go.WideShapes Go.ChangeShapes Go.Deep Go.Joins

theorem cells3' : Tryz.prog.cellsOf 3 = 1 := by kernel_rfl
theorem cells42' : Tryz.prog.cellsOf 81 = 2 := by kernel_rfl
theorem cells67' : Tryz.prog.cellsOf 83 = 5 := by kernel_rfl
theorem cells61' : Tryz.prog.cellsOf 78 = 3 := by kernel_rfl

section
variable {H : Type} {enc : TypeId × Value → H} {W : World} {base n : Nat} {sp : Nat → Bool} {held : Bool}

theorem int_cell {v : Value} {y : DataW H × List MemPlace} (h : DataW.trod enc Tryz.prog W base sp held n 3 [v] = some y) : ∃ a, v = .int .i64 a := by
  obtain ⟨a, ea, -, -⟩ := DataW.trod_int Tryz.underlying3 h
  simp only [List.cons.injEq, and_true] at ea
  exact ⟨a, ea⟩

set_option maxRecDepth 100000 in
theorem span_cells {v0 v1 : Value} {y : DataW H × List MemPlace} (h : DataW.trod enc Tryz.prog W base sp held n 81 [v0, v1] = some y) : ∃ a b, v0 = .int .i64 a ∧ v1 = .int .i64 b := by
  obtain ⟨xs, k, _, _, _, hxl, hf⟩ := DataW.trod_struct Tryz.underlying81 h
  match xs, hxl with
  | [y0, y1], _ =>
    have g0 := hf 0 _ rfl
    have g1 := hf 1 _ rfl
    simp [cells3'] at g0 g1
    obtain ⟨a, rfl⟩ := int_cell g0
    obtain ⟨b, rfl⟩ := int_cell g1
    exact ⟨a, b, rfl, rfl⟩

set_option maxRecDepth 100000 in
theorem gauge_cells {v0 v1 v2 v3 v4 : Value} {y : DataW H × List MemPlace} (h : DataW.trod enc Tryz.prog W base sp held n 83 [v0, v1, v2, v3, v4] = some y) : ∃ a b c d e, v0 = .int .i64 a ∧ v1 = .int .i64 b ∧ v2 = .int .i64 c ∧ v3 = .int .i64 d ∧ v4 = .int .i64 e := by
  obtain ⟨xs, k, _, _, _, hxl, hf⟩ := DataW.trod_struct Tryz.underlying83 h
  match xs, hxl with
  | [y0, y1, y2], _ =>
    have g0 := hf 0 _ rfl
    have g1 := hf 1 _ rfl
    have g2 := hf 2 _ rfl
    simp [cells3', cells42'] at g0 g1 g2
    obtain ⟨a, b, rfl, rfl⟩ := span_cells g0
    obtain ⟨c, d, rfl, rfl⟩ := span_cells g1
    obtain ⟨e, rfl⟩ := int_cell g2
    exact ⟨a, b, c, d, e, rfl, rfl, rfl, rfl, rfl⟩

set_option maxRecDepth 100000 in
theorem mark_cells {v0 v1 v2 : Value} {y : DataW H × List MemPlace} (h : DataW.trod enc Tryz.prog W base sp held n 78 [v0, v1, v2] = some y) : ∃ a b c, v0 = .int .i64 a ∧ v1 = .int .i64 b ∧ v2 = .int .i64 c := by
  obtain ⟨xs, k, _, _, _, hxl, hf⟩ := DataW.trod_struct Tryz.underlying78 h
  match xs, hxl with
  | [y0, y1, y2], _ =>
    have g0 := hf 0 _ rfl
    have g1 := hf 1 _ rfl
    have g2 := hf 2 _ rfl
    simp [cells3'] at g0 g1 g2
    obtain ⟨a, rfl⟩ := int_cell g0
    obtain ⟨b, rfl⟩ := int_cell g1
    obtain ⟨c, rfl⟩ := int_cell g2
    exact ⟨a, b, c, rfl, rfl, rfl⟩

set_option maxRecDepth 100000 in
theorem spot22 {a : Addr} {len cap : Nat} (hok : Cell.okWide Tryz.prog W .any base 22 (.slice (some a) len cap)) : a.spot = none := by
  simp only [Tryz.underlying22, Cell.okWide, Cell.ok] at hok
  exact hok.2.2.2.1

set_option maxRecDepth 100000 in
theorem spot23 {a : Addr} {len cap : Nat} (hok : Cell.okWide Tryz.prog W .any base 23 (.slice (some a) len cap)) : a.spot = none := by
  simp only [Tryz.underlying23, Cell.okWide, Cell.ok] at hok
  exact hok.2.2.2.1

set_option maxRecDepth 100000 in
theorem slg_of {base0 : Nat} {v : Value} {x : DataW H × List MemPlace} (hok : Cell.okWide Tryz.prog W .any base0 22 v)
    (h : DataW.trod enc Tryz.prog W base sp held n 22 [v] = some x) : ∃ G, SlG W v G := by
  rcases open_slice Tryz.underlying22 h with ⟨hcs, -⟩ | ⟨a, len, cap, m, k, D, Pl, hcs, -, hl, hcap, hmm, -, hall⟩
  · simp only [List.cons.injEq, and_true] at hcs
    subst hcs
    exact ⟨[], none, 0, rfl, by simp, fun k hk => absurd hk (Nat.not_lt_zero _)⟩
  · simp only [List.cons.injEq, and_true] at hcs
    subst hcs
    have hsp := spot22 hok
    obtain ⟨b, off, s⟩ := a
    simp only at hsp
    subst hsp
    have hlm : len ≤ m := by rw [hmm]; split <;> omega
    have each : ∀ i, i < len → ∃ g : G5, W.cell? ⟨b, off + i * 5, none⟩ = some (.int .i64 g.a) ∧ W.cell? ⟨b, off + i * 5 + 1, none⟩ = some (.int .i64 g.b) ∧ W.cell? ⟨b, off + i * 5 + 2, none⟩ = some (.int .i64 g.c) ∧ W.cell? ⟨b, off + i * 5 + 3, none⟩ = some (.int .i64 g.d) ∧ W.cell? ⟨b, off + i * 5 + 4, none⟩ = some (.int .i64 g.e) := by
      intro i hi
      obtain ⟨cs', h1, h2⟩ := hall i (by omega)
      rw [cells67'] at h1
      obtain ⟨_, hlen, hcell⟩ := World.cells?_some h1
      match cs', hlen with
      | [v0, v1, v2, v3, v4], _ =>
        obtain ⟨a0, a1, a2, a3, a4, rfl, rfl, rfl, rfl, rfl⟩ := gauge_cells h2
        have e0 := hcell 0 (by omega)
        have e1 := hcell 1 (by omega)
        have e2 := hcell 2 (by omega)
        have e3 := hcell 3 (by omega)
        have e4 := hcell 4 (by omega)
        rw [Addr.add_mid, Addr.add_mid] at e0 e1 e2 e3 e4
        exact ⟨⟨a0, a1, a2, a3, a4⟩, by simpa using e0, by simpa using e1, by simpa using e2, by simpa using e3, by simpa using e4⟩
    have each' : ∀ i, ∃ g : G5, i < len → (W.cell? ⟨b, off + i * 5, none⟩ = some (.int .i64 g.a) ∧ W.cell? ⟨b, off + i * 5 + 1, none⟩ = some (.int .i64 g.b) ∧ W.cell? ⟨b, off + i * 5 + 2, none⟩ = some (.int .i64 g.c) ∧ W.cell? ⟨b, off + i * 5 + 3, none⟩ = some (.int .i64 g.d) ∧ W.cell? ⟨b, off + i * 5 + 4, none⟩ = some (.int .i64 g.e)) := by
      intro i
      by_cases hi : i < len
      · obtain ⟨g, hg⟩ := each i hi
        exact ⟨g, fun _ => hg⟩
      · exact ⟨⟨0, 0, 0, 0, 0⟩, fun h => absurd h hi⟩
    let f := fun i => Classical.choose (each' i)
    have hf : ∀ i, i < len → _ := fun i => Classical.choose_spec (each' i)
    have hlen : ((List.range len).map f).length = len := by simp
    refine ⟨(List.range len).map f, some ⟨b, off, none⟩, cap, by rw [hlen], by rw [hlen]; unfold maxLen at hcap; omega, fun k hk => ⟨b, off, rfl, ?_⟩⟩
    rw [hlen] at hk
    have hz : gz ((List.range len).map f) k = f k := by unfold gz; rw [List.getD_eq_getElem?_getD, List.getElem?_map, List.getElem?_range hk]; rfl
    rw [hz]
    exact hf k hk
end

end Go.Proofs.YtcfapbccegijnaaGreat

/- A slice of points, nil or not; one that came in, opened. -/
namespace Go.Proofs.YtcfapbccegijnaaGreat
open Go Go.RowKit Go.Proofs Go.WideShapes Go.ChangeShapes Go.Deep

/-- The value is a slice, nil or not, that holds the points of L. -/
def SlV (w : World) (v : Value) (L : List (Int × Int)) : Prop := ∃ a cap, v = .slice a L.length cap ∧ L.length ≤ 9223372036854775807 ∧ ((∃ b off, a = some ⟨b, off, none⟩ ∧ PtsAt w b off L) ∨ (a = none ∧ cap = 0 ∧ L = []))

theorem SlV.keep {w w' : World} {v : Value} {L : List (Int × Int)} (h : SlV w v L) (hb : Below w.heap.size w w') : SlV w' v L := by
  obtain ⟨a, cap, rfl, hl, h⟩ := h
  refine ⟨a, cap, rfl, hl, h.imp ?_ id⟩
  rintro ⟨b, off, rfl, hp⟩
  exact ⟨b, off, rfl, hp.keep hb⟩

end Go.Proofs.YtcfapbccegijnaaGreat

/- Walks: bends. -/
namespace Go.Proofs.YtcfapbccegijnaaGreat
open Go Go.RowKit Go.Proofs Go.Shelf

/-- Which way a corner bends. -/
def bendS (xs ys : Nat → Int) (n x : Nat) : Int := if 0 < cross (xs ((x + n - 1) % n)) (ys ((x + n - 1) % n)) (xs x) (ys x) (xs ((x + 1) % n)) (ys ((x + 1) % n)) then 1 else -1

attribute [local go_sem] Oper.semAt_some

end Go.Proofs.YtcfapbccegijnaaGreat

/- A region that draws its order, in a fence or in a round: what leads up to its end reads, or calls what only makes memory; the end comes last in every order. -/
namespace Go.Abs
open Go Go.RowKit

/-- What an operation of the lead does in a world: it yields what the frame holds in its slot, or it calls what yields it and only makes memory. -/
def GrowsAt (F : Fence) (n : Nat) (P : Program) (a1 : Act) (W : World) (o : Oper) (d : Nat) : Prop :=
  (execOp a1.eval o).run P W = .ok (.value (a1.eval (.tmp d))) W ∨
  ∃ f args, (execOp a1.eval o).run P W = .ok (.enter f args) W ∧ CallsIn F (n - 1) P f args W fun e W' => e = .returned (a1.eval (.tmp d)) ∧ Below W.heap.size W W'

variable {F : Fence} {n m : Nat} {P : Program} {ops : Array Oper} {Q : Exit → Act → World → Prop} {a a1 : Act} {w : World}

/-- Each operation yields what the frame holds in its slot, or calls what does. -/
def RunsG (F : Fence) (n : Nat) (P : Program) (a1 : Act) (W : World) : List Oper → Prop
  | [] => True
  | o :: l => (∀ d, o.dst = some d → GrowsAt F n P a1 W o d) ∧ RunsG F n P a1 W l

theorem RunsG.get {W : World} : ∀ {l : List Oper}, RunsG F n P a1 W l → ∀ (i : Nat) (o : Oper), l[i]? = some o → ∀ d, o.dst = some d → GrowsAt F n P a1 W o d
  | [], _, i, o, h => by simp at h
  | o' :: l, hr, 0, o, h => by simp at h; subst h; exact hr.1
  | o' :: l, hr, i + 1, o, h => hr.2.get i o (by simpa using h)

end Go.Abs

/- Walks: Bends, and the iterator over the measures. -/
namespace Go.Proofs.YtcfapbccegijnaaGreat
open Go Go.RowKit Go.Proofs Go.Abs

end Go.Proofs.YtcfapbccegijnaaGreat

/- The iterator over the measures of an outline: its contract. -/
namespace Go.Proofs.YtcfapbccegijnaaGreat
open Go Go.RowKit Go.Proofs Go.Abs

attribute [local go_sem] Oper.semAt_some

/-- What a round must keep: what lay below n, the block B, and every row of numbers. -/
structure KeepN (n B : Nat) (W W' : World) : Prop where
  size : W.heap.size ≤ W'.heap.size
  same : ∀ k, k < n ∨ k = B → W'.heap[k]? = W.heap[k]?
  row : ∀ (k : Nat) (c : Array Value) (x : Nat × Nat), W.heap[k]? = some (.cells c 3 x) → W'.heap[k]? = some (.cells c 3 x)

theorem KeepN.refl (n B : Nat) (W : World) : KeepN n B W W := ⟨Nat.le_refl _, fun _ _ => rfl, fun _ _ _ h => h⟩
theorem KeepN.trans {n B : Nat} {X Y Z : World} (h : KeepN n B X Y) (k : KeepN n B Y Z) : KeepN n B X Z :=
  ⟨Nat.le_trans h.size k.size, fun i hi => (k.same i hi).trans (h.same i hi), fun i c x hc => k.row i c x (h.row i c x hc)⟩
theorem KeepN.cell {n B : Nat} {W W' : World} (h : KeepN n B W W') {b o : Nat} {v : Value} (hb : b < n ∨ b = B) (hc : W.cell? ⟨b, o, none⟩ = some v) : W'.cell? ⟨b, o, none⟩ = some v := by
  rw [World.cell?_of_block (h.same b hb)]; exact hc
theorem KeepN.below {n B : Nat} {W W' : World} (h : Below W.heap.size W W') (hn : n ≤ W.heap.size) (hB : B < W.heap.size) : KeepN n B W W' :=
  ⟨h.size, fun k hk => h.block k (by omega), fun k _ _ hc => (h.block k (Array.getElem?_eq_some_iff.1 hc).1).trans hc⟩
theorem KeepN.put {n B l : Nat} {W : World} {o o' : Obj} (h1 : n ≤ l) (h2 : B < l) (ho : W.heap[l]? = some o) (hc : o.isCells = false) : KeepN n B W (W.putObj l o') :=
  ⟨(grownBy_putObj' W l o').size, fun k hk => World.putObj_heap_other (by omega), fun k c x hk => by
    have : k ≠ l := fun e => by subst e; rw [hk] at ho; cases ho; cases hc
    exact (World.putObj_heap_other this).trans hk⟩

/-- The three measures of an edge. -/
abbrev ms (a b c : Int) : Value := .agg #[.int .i64 a, .int .i64 b, .int .i64 c]
def sqK (L : List (Int × Int)) (i j : Nat) : Int := square (px L i) (py L i) (px L j) (py L j)
def m1 (L : List (Int × Int)) (x : Nat) : Int := sqK L x ((x + 1) % L.length)
def m2 (L : List (Int × Int)) (x : Nat) : Int := sqK L x ((x + 2) % L.length)
def m3 (L : List (Int × Int)) (x : Nat) : Int := bendS (px L) (py L) L.length ((x + 1) % L.length)
end Go.Proofs.YtcfapbccegijnaaGreat
