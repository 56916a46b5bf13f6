/- The abstract machine, part LO. -/
import Derived.Test.YtcfapbccegijnaaGreatLN
import Derived.Test.YtcfapbccegijnaaGreatLL
import Derived.Test.YtcfapbccegijnaaGreatLD
/- Walks: the test that fitting makes. -/
namespace Go.Proofs.YtcfapbccegijnaaGreat
open Go Go.RowKit Go.Proofs Go.Abs

def TestV (bp _be _bm _N : Nat) (vg : Value) (s x : Int) (b : Bool) (y : G5) (a1 a2 a3 : Int) (r : Bool) : Nat → Value → World → Prop
  | 0, v, _ => v = .pointer (some ⟨bp, 5, none⟩)
  | 1, v, _ => v = vg
  | 2, v, _ => v = st s b
  | 3, v, _ => v = .int .i64 x
  | 4, v, _ => v = gg y.a y.b y.c y.d y.e
  | 5, v, _ => v = ms a1 a2 a3
  | 6, v, _ => v = .bool r
  | 7, v, _ => v = .bool (!r)
  | _, v, _ => v = .bool (!r)

theorem TestV.keep {bp be bm N : Nat} {vg : Value} {s x : Int} {b : Bool} {y : G5} {a1 a2 a3 : Int} {r : Bool} : ∀ i v W W', TestV bp be bm N vg s x b y a1 a2 a3 r i v W → Below W.heap.size W W' → TestV bp be bm N vg s x b y a1 a2 a3 r i v W'
  | 0, _, _, _, h, _ => h
  | 1, _, _, _, h, _ => h
  | 2, _, _, _, h, _ => h
  | 3, _, _, _, h, _ => h
  | 4, _, _, _, h, _ => h
  | 5, _, _, _, h, _ => h
  | 6, _, _, _, h, _ => h
  | 7, _, _, _, h, _ => h
  | _ + 8, _, _, _, h, _ => h

end Go.Proofs.YtcfapbccegijnaaGreat

/- Walks: fitting. -/
namespace Go.Proofs.YtcfapbccegijnaaGreat
open Go Go.RowKit Go.Proofs Go.Abs Go.Shelf

variable {w0 : World} {N g cap : Nat} {D : List (Nat × Bool)} {G : List G5} {L : List (Int × Int)} {pc : Obj} {pv : Value}

/-- The settings that are left when some edges have been looked at. -/
def leftF (G : List G5) (L : List (Int × Int)) (D : List (Nat × Bool)) (pre : List (Fin L.length)) : List (Nat × Bool) :=
  D.filter fun p => pre.all fun x => okM (lay G L.length p.1 p.2 x.1) (m1 L x.1) (m2 L x.1) (m3 L x.1)

/-- What the loop of fitting keeps. -/
structure FitI (w0 : World) (N g cap : Nat) (D : List (Nat × Bool)) (G : List G5) (L : List (Int × Int)) (pc : Obj) (pv : Value) (pre : List (Fin L.length)) (W : World) : Prop where
  box : Boxed W (N + 1) 34 (.slice (some ⟨g, 0, none⟩) (leftF G L D pre).length cap)
  row : RowS W g (leftF G L D pre)
  pcs : W.heap[N]? = some pc
  pts : Boxed W (N + 2) 26 pv
  bel : Below w0.heap.size w0 W
  siz : N + 3 ≤ W.heap.size

theorem below_gr {X Y : World} {row : Option Nat} (h : Below w0.heap.size w0 X) (hg : X.grownBy Y row) (hr : ∀ r, row = some r → w0.heap.size ≤ r) : Below w0.heap.size w0 Y :=
  ⟨hg.os.trans h.os, hg.tape.trans h.tape, hg.output.trans h.output, Nat.le_trans h.size hg.size, fun k hk => (hg.block k (by have := h.size; omega) (fun e => by have := hr k e.symm; omega)).trans (h.block k hk)⟩

theorem FitI.own {M : Nat} (hM : w0.heap.size ≤ M) (hpc : pc.isCells = true) : OwnFrom M (FitI w0 N g cap D G L pc pv) := by
  intro pre X Y row h hg hr
  have same : ∀ (k : Nat) (o : Obj), X.heap[k]? = some o → o.isCells = true → Y.heap[k]? = X.heap[k]? := fun k o ho hc =>
    hg.block k (Array.getElem?_eq_some_iff.1 ho).1 (fun e => by
      obtain ⟨-, o', ho', hc'⟩ := hr k e.symm
      rw [ho] at ho'
      cases ho'
      rw [hc] at hc'
      cases hc')
  refine ⟨(same _ _ h.box rfl).trans h.box, ?_, (same _ _ h.pcs hpc).trans h.pcs, (same _ _ h.pts rfl).trans h.pts, below_gr h.bel hg (fun r e => Nat.le_trans hM (hr r e).1), Nat.le_trans h.siz hg.size⟩
  obtain ⟨cur, h1, h2⟩ := h.row
  exact ⟨cur, (same _ _ h1 rfl).trans h1, h2⟩

theorem FitI.grow {pre : List (Fin L.length)} {W W' : World} (h : FitI w0 N g cap D G L pc pv pre W) (hb : Below W.heap.size W W') : FitI w0 N g cap D G L pc pv pre W' :=
  ⟨below_box hb h.box, h.row.keep hb, (hb.block _ (Array.getElem?_eq_some_iff.1 h.pcs).1).trans h.pcs, below_box hb h.pts, h.bel.trans (hb.mono h.bel.size), Nat.le_trans h.siz hb.size⟩

/-- A round: some are left out, and the box says so. -/
theorem FitI.step {pre : List (Fin L.length)} {x : Fin L.length} {W W' : World} (hgN : g < N) (hg0 : w0.heap.size ≤ g) (h : FitI w0 N g cap D G L pc pv pre W) (hg : W.grownBy W' (some g)) (hr : RowS W' g (leftF G L D (pre ++ [x]))) :
    FitI w0 N g cap D G L pc pv (pre ++ [x]) (W'.setCell ⟨N + 1, 0, none⟩ (.slice (some ⟨g, 0, none⟩) (leftF G L D (pre ++ [x])).length cap)) ∧ KeepN w0.heap.size (N + 2) W (W'.setCell ⟨N + 1, 0, none⟩ (.slice (some ⟨g, 0, none⟩) (leftF G L D (pre ++ [x])).length cap)) ∧
      KeepsFrom (N + 3) W (W'.setCell ⟨N + 1, 0, none⟩ (.slice (some ⟨g, 0, none⟩) (leftF G L D (pre ++ [x])).length cap)) := by
  obtain ⟨v, hv⟩ : ∃ v, Value.slice (some ⟨g, 0, none⟩) (leftF G L D (pre ++ [x])).length cap = v := ⟨_, rfl⟩
  rw [hv]
  have b1 : Boxed W' (N + 1) 34 (.slice (some ⟨g, 0, none⟩) (leftF G L D pre).length cap) := h.box.kept hg (by simp; omega)
  have same : ∀ k, k < W.heap.size → k ≠ g → k ≠ N + 1 → (W'.setCell ⟨N + 1, 0, none⟩ v).heap[k]? = W.heap[k]? := fun k hk h1 h2 =>
    (Below.heap_setCell _ _ _ k h2).trans (hg.block k hk (fun e => h1 (by simpa using e)))
  have hsz : W.heap.size ≤ (W'.setCell ⟨N + 1, 0, none⟩ v).heap.size := by have := hg.size; simpa [World.setCell] using this
  have hN := h.bel.size
  have hs := h.siz
  obtain ⟨cg, hcg, -⟩ := h.row
  refine ⟨⟨?_, ?_, (same N (by omega) (by omega) (by omega)).trans h.pcs, (same (N + 2) (by omega) (by omega) (by omega)).trans h.pts, ?_, Nat.le_trans hs hsz⟩, ⟨hsz, ?_, ?_⟩, ⟨hsz, ?_⟩⟩
  · rw [hv]
    exact b1.set v
  · obtain ⟨cur, h1, h2⟩ := hr
    exact ⟨cur, (Below.heap_setCell _ _ _ g (by show g ≠ N + 1; omega)).trans h1, h2⟩
  · exact (below_gr h.bel hg (fun r e => by cases e; exact hg0)).setCell (by show w0.heap.size ≤ N + 1; omega) _
  · intro k hk
    rcases hk with hk | rfl
    · exact same k (by omega) (by omega) (by omega)
    · exact same _ (by omega) (by omega) (by omega)
  · intro k c z hk
    refine (same k (Array.getElem?_eq_some_iff.1 hk).1 ?_ ?_).trans hk
    · rintro rfl
      rw [hk] at hcg
      cases hcg
    · rintro rfl
      rw [show W.heap[N + 1]? = _ from h.box] at hk
      cases hk
  · intro k o hk ho hoc
    refine (same k (Array.getElem?_eq_some_iff.1 ho).1 (by omega) (by omega)).trans ho

end Go.Proofs.YtcfapbccegijnaaGreat

/- Walks: fitting, whole. -/
namespace Go.Proofs.YtcfapbccegijnaaGreat
open Go Go.RowKit Go.Proofs Go.Abs Go.Shelf

attribute [local go_sem] Oper.semAt_some

end Go.Proofs.YtcfapbccegijnaaGreat

/- Walks: Fits and Settings of the program. -/
namespace Go.Proofs.YtcfapbccegijnaaGreat
open Go Go.RowKit Go.Proofs Go.Abs Go.Shelf

/-- A row of one's own as a block that holds settings. -/
theorem row_of_own {W : World} {B : Nat} {v : Value} {D : List (Nat × Bool)} (h : W.ownsRow B 28 2 v D.length (encS D)) (hD : 0 < D.length) : ∃ g cap, v = .slice (some ⟨g, 0, none⟩) D.length cap ∧ B ≤ g ∧ D.length ≤ cap ∧ RowS W g D := by
  rcases h.2 with ⟨-, h2⟩ | ⟨g, cap, cur, rfl, e2, e3, e4, e5, e6, e7⟩
  · omega
  · refine ⟨g, cap, rfl, e2, e4, cur, e3, fun j hj => ?_⟩
    have : (cur.toList.take (D.length * 2))[j]? = (encS D)[j]? := by rw [e7]
    rw [List.getElem?_take, if_pos hj] at this
    simpa using this

theorem pcs_st (w : World) (id c r m s : Int) (vg vm : Value) (sh : Int) (b : Bool) : ((w.alloc (pcsObj id c r m s vg vm)).alloc (stObj sh b)).heap[w.heap.size]? = some (pcsObj id c r m s vg vm) ∧ ((w.alloc (pcsObj id c r m s vg vm)).alloc (stObj sh b)).heap[w.heap.size + 1]? = some (stObj sh b) := by
  refine ⟨(alloc_heap_old _ _ (by simp)).trans (alloc_heap_new _ _), ?_⟩
  have := alloc_heap_new (w.alloc (pcsObj id c r m s vg vm)) (stObj sh b); rwa [World.size_alloc] at this

end Go.Proofs.YtcfapbccegijnaaGreat
