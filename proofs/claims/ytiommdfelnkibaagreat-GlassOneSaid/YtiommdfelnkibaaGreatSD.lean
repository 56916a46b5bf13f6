/- The abstract machine, part SD. -/
import Derived.Test.YtiommdfelnkibaaGreatSC
import Derived.Test.YtiommdfelnkibaaGreatRK
/- What the merging region of the program keeps and makes. -/
namespace Go.Proofs.YtiommdfelnkibaaGreat
open Go Go.RowKit Go.Proofs Go.Abs

/-- What an operation of the merging region does to the world. -/
def MgR (B : Nat) (sv : Value) (j : Nat) (W W' : World) : Prop :=
  if j = 10 then Below B W W' ∧ ∀ g, g < W.heap.size → sv.ownBlock ≠ some g → W'.heap[g]? = W.heap[g]? else if j = 11 then W' = W else Below W.heap.size W W'

def gOb (g : G5) : Obj := .cells #[.int .i64 g.a, .int .i64 g.b, .int .i64 g.c, .int .i64 g.d, .int .i64 g.e] 83
/-- What is so all the while. -/
def MgG (W4 : World) (T X : Nat) (bx : Obj) (gk : G5) (sv : Value) (F : Nat → G5) (k : Nat) (listed : Array Bool) (W : World) : Prop :=
  Below W4.heap.size W4 W ∧ W.heap[W4.heap.size]? = some bx ∧ (isIn listed 10 = false → W.ownsRow (W4.heap.size + 1) 83 5 sv k (rowG F k)) ∧ X ≤ W.heap.size ∧ W.heap[T]? = some (gOb gk) ∧ W4.heap.size + 1 ≤ W.heap.size

theorem MgG.step {W4 : World} {T X : Nat} {bx : Obj} {gk : G5} {sv : Value} {F : Nat → G5} {k : Nat} {listed : Array Bool} {W W' : World} {j : Nat} (hl : 10 < listed.size) (hT : sv.ownBlock ≠ some T) (h : MgG W4 T X bx gk sv F k listed W) (hR : MgR (W4.heap.size + 1) sv j W W') :
    MgG W4 T X bx gk sv F k (listed.setIfInBounds j true) W' := by
  obtain ⟨h1, h2, h3, h4, h5, h6⟩ := h
  have hTl := (Array.getElem?_eq_some_iff.1 h5).1
  unfold MgR at hR
  by_cases e8 : j = 10
  · subst e8
    rw [if_pos rfl] at hR
    refine ⟨h1.trans (hR.1.mono (by omega)), (hR.1.block _ (by omega)).trans h2, fun hn => ?_, Nat.le_trans h4 hR.1.size, (hR.2 T hTl hT).trans h5, Nat.le_trans h6 hR.1.size⟩
    rw [isIn_set hl] at hn
    simp at hn
  · rw [if_neg e8] at hR
    have hn8 : isIn (listed.setIfInBounds j true) 10 = isIn listed 10 := by
      unfold isIn
      rw [Array.getD_eq_getD_getElem?, Array.getD_eq_getD_getElem?, Array.getElem?_setIfInBounds_ne e8]
    have hb : Below W.heap.size W W' := by
      split at hR
      · subst hR; exact Below.refl _ _
      · exact hR
    exact ⟨keep_below h1 hb, (hb.block _ (by omega)).trans h2, fun hn => own_keep (h3 (by rw [← hn8]; exact hn)) hb, Nat.le_trans h4 hb.size, (hb.block _ hTl).trans h5, Nat.le_trans h6 hb.size⟩

theorem mgR_refl {B : Nat} {sv : Value} {j : Nat} {W : World} (h : j ≠ 10) : MgR B sv j W W := by
  unfold MgR
  rw [if_neg h]
  split
  · rfl
  · exact Below.refl _ _
theorem mgR_below {B : Nat} {sv : Value} {j : Nat} {W W' : World} (h : j ≠ 10) (h9 : j ≠ 11) (hb : Below W.heap.size W W') : MgR B sv j W W' := by
  unfold MgR
  rw [if_neg h, if_neg h9]
  exact hb
theorem mgR_app {B : Nat} {sv : Value} {W W' : World} (hg : W.grownBy W' sv.ownBlock) (hB : B ≤ W.heap.size) (hr : ∀ k, sv.ownBlock = some k → B ≤ k) : MgR B sv 10 W W' := by
  unfold MgR
  rw [if_pos rfl]
  exact ⟨(Below.refl _ _).grown hg hB hr, fun g h1 h2 => hg.block g h1 (fun e => h2 e.symm)⟩

/-- What the operations yield. -/
def MgV (N R8 : Nat) (sv vg8 : Value) (a8 : Addr) (r8 gk : G5) (F : Nat → G5) (k : Nat) : Nat → Value → World → Prop
  | 0, v, _ => v = .pointer (some ⟨N, 5, none⟩)
  | 1, v, _ => v = sv
  | 2, v, _ => v = .pointer (some ⟨R8, 5, none⟩)
  | 3, v, _ => v = vg8
  | 4, v, _ => v = .int .i64 k
  | 5, v, _ => v = .pointer (some a8)
  | 6, v, _ => v = gg r8.a r8.b r8.c r8.d r8.e
  | 7, v, _ => v = gg gk.a gk.b gk.c gk.d gk.e
  | 8, v, _ => v = gg (F k).a (F k).b (F k).c (F k).d (F k).e
  | 9, v, W => ∃ g, v = .slice (some ⟨g, 0, none⟩) 1 1 ∧ g < W.heap.size ∧ sv.ownBlock ≠ some g ∧ W.heap[g]? = some (.cells #[.int .i64 (F k).a, .int .i64 (F k).b, .int .i64 (F k).c, .int .i64 (F k).d, .int .i64 (F k).e] 83 (0, 0))
  | 10, v, W => W.ownsRow (N + 1) 83 5 v (k + 1) (rowG F (k + 1))
  | _, v, _ => v = .pointer (some ⟨N, 5, none⟩)

theorem MgV.step {N R8 : Nat} {sv vg8 : Value} {a8 : Addr} {r8 gk : G5} {F : Nat → G5} {k : Nat} {W W' : World} {i j : Nat} {v : Value} (hij : i = 10 → j = 11) (h : MgV N R8 sv vg8 a8 r8 gk F k i v W) (hR : MgR (N + 1) sv j W W') : MgV N R8 sv vg8 a8 r8 gk F k i v W' := by
  match i, h with
  | 0, h => exact h
  | 1, h => exact h
  | 2, h => exact h
  | 3, h => exact h
  | 4, h => exact h
  | 5, h => exact h
  | 6, h => exact h
  | 7, h => exact h
  | 8, h => exact h
  | 9, ⟨g, h1, h2, h3, h4⟩ =>
    refine ⟨g, h1, ?_, h3, ?_⟩
    · unfold MgR at hR
      split at hR
      · exact Nat.lt_of_lt_of_le h2 hR.1.size
      · split at hR
        · subst hR; exact h2
        · exact Nat.lt_of_lt_of_le h2 hR.size
    · unfold MgR at hR
      split at hR
      · exact (hR.2 g h2 h3).trans h4
      · split at hR
        · subst hR; exact h4
        · exact (hR.block g h2).trans h4
  | 10, h =>
    obtain rfl := hij rfl
    unfold MgR at hR
    rw [if_neg (by omega), if_pos rfl] at hR
    subst hR
    exact h
  | _ + 11, h => exact h

theorem set5_box {W : World} {N : Nat} {a b c d e sv vm v : Value} (h : W.heap[N]? = some (.cells #[a, b, c, d, e, sv, vm] 25 (0, 0))) : (W.setCell ⟨N, 5, none⟩ v).heap[N]? = some (.cells #[a, b, c, d, e, v, vm] 25 (0, 0)) := by
  unfold World.setCell
  simp only [Array.getElem?_modify, if_true, h, Option.map_some]
  rfl
end Go.Proofs.YtiommdfelnkibaaGreat

/- Walks: Merge of the program. -/
namespace Go.Proofs.YtiommdfelnkibaaGreat
open Go Go.RowKit Go.Proofs Go.Abs

theorem pcs3_new (w : World) (P Q : Obj) (sh : Int) (b : Bool) :
    ((((w.alloc P).alloc Q).alloc (stObj sh b)).alloc (.cells #[.int .i64 0, .int .i64 0, .int .i64 0, .int .i64 0, .int .i64 0, .slice none 0 0, .slice none 0 0] 25)).heap[w.heap.size]? = some P ∧ ((((w.alloc P).alloc Q).alloc (stObj sh b)).alloc (.cells #[.int .i64 0, .int .i64 0, .int .i64 0, .int .i64 0, .int .i64 0, .slice none 0 0, .slice none 0 0] 25)).heap[w.heap.size + 1]? = some Q ∧ ((((w.alloc P).alloc Q).alloc (stObj sh b)).alloc (.cells #[.int .i64 0, .int .i64 0, .int .i64 0, .int .i64 0, .int .i64 0, .slice none 0 0, .slice none 0 0] 25)).heap[w.heap.size + 2]? = some (stObj sh b) ∧ ((((w.alloc P).alloc Q).alloc (stObj sh b)).alloc (.cells #[.int .i64 0, .int .i64 0, .int .i64 0, .int .i64 0, .int .i64 0, .slice none 0 0, .slice none 0 0] 25)).heap[w.heap.size + 3]? = some (.cells #[.int .i64 0, .int .i64 0, .int .i64 0, .int .i64 0, .int .i64 0, .slice none 0 0, .slice none 0 0] 25 (0, 0)) ∧ Below w.heap.size w ((((w.alloc P).alloc Q).alloc (stObj sh b)).alloc (.cells #[.int .i64 0, .int .i64 0, .int .i64 0, .int .i64 0, .int .i64 0, .slice none 0 0, .slice none 0 0] 25)) := by
  refine ⟨?_, ?_, ?_, ?_, (((((Below.refl _ _).alloc (Nat.le_refl _) _).alloc (by simp) _).alloc (by simp; omega) _).alloc (by simp; omega) _)⟩
  · exact (alloc_heap_old _ _ (by simp <;> omega)).trans ((alloc_heap_old _ _ (by simp <;> omega)).trans ((alloc_heap_old _ _ (by simp)).trans (alloc_heap_new _ _)))
  · have := alloc_heap_new (w.alloc P) Q
    rw [World.size_alloc] at this
    exact (alloc_heap_old _ _ (by simp <;> omega)).trans ((alloc_heap_old _ _ (by simp)).trans this)
  · have := alloc_heap_new ((w.alloc P).alloc Q) (stObj sh b)
    rw [World.size_alloc, World.size_alloc] at this
    exact (alloc_heap_old _ _ (by simp)).trans this
  · have := alloc_heap_new (((w.alloc P).alloc Q).alloc (stObj sh b)) (.cells #[.int .i64 0, .int .i64 0, .int .i64 0, .int .i64 0, .int .i64 0, .slice none 0 0, .slice none 0 0] 25)
    rw [World.size_alloc, World.size_alloc, World.size_alloc] at this
    exact this

set_option maxRecDepth 100000 in
set_option maxHeartbeats 16000000 in
theorem merge27_b1 (p q : PcD) (sh : Int) (b : Bool) (agp amp agq amq : Option Addr) (gcp mcp gcq mcq : Nat) (w : World)
    (H1 : Hid (∀ W, Below w.heap.size w W → Calls Tryz.prog 39 #[pcs p.id p.c p.r p.m p.s (.slice agp p.G.length gcp) (.slice amp p.M.length mcp)] W fun e w' => e = .returned (.bool false) ∧ Below W.heap.size W w')) :
    Calls Tryz.prog 27 #[pcs p.id p.c p.r p.m p.s (.slice agp p.G.length gcp) (.slice amp p.M.length mcp), pcs q.id q.c q.r q.m q.s (.slice agq q.G.length gcq) (.slice amq q.M.length mcq), st sh b] w fun e w' => ∃ v, e = .returned (.tuple #[v, .int .i64 30]) ∧ PcV w' w.heap.size v zeroD ∧ Below w.heap.size w w' := by
  obtain ⟨hp, hq, hs, hr, b1⟩ := pcs3_new w (pcsObj p.id p.c p.r p.m p.s (.slice agp p.G.length gcp) (.slice amp p.M.length mcp)) (pcsObj q.id q.c q.r q.m q.s (.slice agq q.G.length gcq) (.slice amq q.M.length mcq)) sh b
  obtain ⟨W0, hW0⟩ : ∃ W0, ((((w.alloc (pcsObj p.id p.c p.r p.m p.s (.slice agp p.G.length gcp) (.slice amp p.M.length mcp))).alloc (pcsObj q.id q.c q.r q.m q.s (.slice agq q.G.length gcq) (.slice amq q.M.length mcq))).alloc (stObj sh b)).alloc (.cells #[.int .i64 0, .int .i64 0, .int .i64 0, .int .i64 0, .int .i64 0, .slice none 0 0, .slice none 0 0] 25)) = W0 := ⟨_, rfl⟩
  rw [hW0] at hp hq hs hr b1
  obtain ⟨c0, c1, c2, c3, c4, c5, c6⟩ := And.intro (cell_of hp (k := 0) rfl) (And.intro (cell_of hp (k := 1) rfl) (And.intro (cell_of hp (k := 2) rfl) (And.intro (cell_of hp (k := 3) rfl) (And.intro (cell_of hp (k := 4) rfl) (And.intro (cell_of hp (k := 5) rfl) (cell_of hp (k := 6) rfl))))))
  go_enter Tryz.func27, Tryz.ntmps27
  go_wp2_with fail
  refine (H1.out _ b1).mono ?_
  rintro e w1 ⟨rfl, hb⟩
  clear hW0 c0 c1 c2 c3 c4 c5 c6
  replace b1 := keep_below b1 hb
  replace hp := (hb.block _ (Array.getElem?_eq_some_iff.1 hp).1).trans hp
  replace hq := (hb.block _ (Array.getElem?_eq_some_iff.1 hq).1).trans hq
  replace hs := (hb.block _ (Array.getElem?_eq_some_iff.1 hs).1).trans hs
  replace hr := (hb.block _ (Array.getElem?_eq_some_iff.1 hr).1).trans hr
  clear hb
  obtain ⟨z0, z1, z2, z3, z4, z5, z6⟩ := And.intro (cell_of hr (k := 0) rfl) (And.intro (cell_of hr (k := 1) rfl) (And.intro (cell_of hr (k := 2) rfl) (And.intro (cell_of hr (k := 3) rfl) (And.intro (cell_of hr (k := 4) rfl) (And.intro (cell_of hr (k := 5) rfl) (cell_of hr (k := 6) rfl))))))
  have f0 : w1.frozen? ⟨w.heap.size + 3, 0, none⟩ = false := frozen_of hr
  have f1 : w1.frozen? ⟨w.heap.size + 3, 1, none⟩ = false := frozen_of hr
  have f2 : w1.frozen? ⟨w.heap.size + 3, 2, none⟩ = false := frozen_of hr
  have f3 : w1.frozen? ⟨w.heap.size + 3, 3, none⟩ = false := frozen_of hr
  have f4 : w1.frozen? ⟨w.heap.size + 3, 4, none⟩ = false := frozen_of hr
  have f5 : w1.frozen? ⟨w.heap.size + 3, 5, none⟩ = false := frozen_of hr
  have f6 : w1.frozen? ⟨w.heap.size + 3, 6, none⟩ = false := frozen_of hr
  have hlt := (Array.getElem?_eq_some_iff.1 hr).1
  go_wp2_with fail
  obtain ⟨WF, hWF⟩ : ∃ WF, ((((((w1.setCell ⟨w.heap.size + 3, 0, none⟩ (.int .i64 0)).setCell ⟨w.heap.size + 3, 1, none⟩ (.int .i64 0)).setCell ⟨w.heap.size + 3, 2, none⟩ (.int .i64 0)).setCell ⟨w.heap.size + 3, 3, none⟩ (.int .i64 0)).setCell ⟨w.heap.size + 3, 4, none⟩ (.int .i64 0)).setCell ⟨w.heap.size + 3, 5, none⟩ (.slice none 0 0)).setCell ⟨w.heap.size + 3, 6, none⟩ (.slice none 0 0) = WF := ⟨_, rfl⟩
  rw [hWF]
  have hf : WF.heap[w.heap.size + 3]? = some (.cells #[.int .i64 0, .int .i64 0, .int .i64 0, .int .i64 0, .int .i64 0, .slice none 0 0, .slice none 0 0] 25 (0, 0)) := by
    rw [← hWF]
    exact res7 hr
  have hb4 : Below w.heap.size w WF := by
    rw [← hWF]
    exact ((((((b1.setCell (p := ⟨w.heap.size + 3, 0, none⟩) (by simp) _).setCell (p := ⟨w.heap.size + 3, 1, none⟩) (by simp) _).setCell (p := ⟨w.heap.size + 3, 2, none⟩) (by simp) _).setCell (p := ⟨w.heap.size + 3, 3, none⟩) (by simp) _).setCell (p := ⟨w.heap.size + 3, 4, none⟩) (by simp) _).setCell (p := ⟨w.heap.size + 3, 5, none⟩) (by simp) _).setCell (p := ⟨w.heap.size + 3, 6, none⟩) (by simp) _
  have hl := run_loadVar_mid (P := Tryz.prog) _ (w.heap.size + 3) 0 25 [.int .i64 0, .int .i64 0, .int .i64 0, .int .i64 0, .int .i64 0, .slice none 0 0, .slice none 0 0] _ (range_of hf) Tryz.underlying25 rfl (by kernel_rfl)
  refine bodyPost_ret (results_cell_tmp (fn := Tryz.f27) rfl _ (by rfl) hl) rfl ?_
  exact ⟨_, rfl, PcV.zero _ _, hb4⟩

set_option maxRecDepth 100000 in
set_option maxHeartbeats 16000000 in
theorem merge27_b2 (p q : PcD) (sh : Int) (b : Bool) (agp amp agq amq : Option Addr) (gcp mcp gcq mcq : Nat) (w : World)
    (H1 : Hid (∀ W, Below w.heap.size w W → Calls Tryz.prog 39 #[pcs p.id p.c p.r p.m p.s (.slice agp p.G.length gcp) (.slice amp p.M.length mcp)] W fun e w' => e = .returned (.bool true) ∧ Below W.heap.size W w'))
    (H2 : Hid (∀ W, Below w.heap.size w W → Calls Tryz.prog 39 #[pcs q.id q.c q.r q.m q.s (.slice agq q.G.length gcq) (.slice amq q.M.length mcq)] W fun e w' => e = .returned (.bool false) ∧ Below W.heap.size W w')) :
    Calls Tryz.prog 27 #[pcs p.id p.c p.r p.m p.s (.slice agp p.G.length gcp) (.slice amp p.M.length mcp), pcs q.id q.c q.r q.m q.s (.slice agq q.G.length gcq) (.slice amq q.M.length mcq), st sh b] w fun e w' => ∃ v, e = .returned (.tuple #[v, .int .i64 30]) ∧ PcV w' w.heap.size v zeroD ∧ Below w.heap.size w w' := by
  obtain ⟨hp, hq, hs, hr, b1⟩ := pcs3_new w (pcsObj p.id p.c p.r p.m p.s (.slice agp p.G.length gcp) (.slice amp p.M.length mcp)) (pcsObj q.id q.c q.r q.m q.s (.slice agq q.G.length gcq) (.slice amq q.M.length mcq)) sh b
  obtain ⟨W0, hW0⟩ : ∃ W0, ((((w.alloc (pcsObj p.id p.c p.r p.m p.s (.slice agp p.G.length gcp) (.slice amp p.M.length mcp))).alloc (pcsObj q.id q.c q.r q.m q.s (.slice agq q.G.length gcq) (.slice amq q.M.length mcq))).alloc (stObj sh b)).alloc (.cells #[.int .i64 0, .int .i64 0, .int .i64 0, .int .i64 0, .int .i64 0, .slice none 0 0, .slice none 0 0] 25)) = W0 := ⟨_, rfl⟩
  rw [hW0] at hp hq hs hr b1
  obtain ⟨c0, c1, c2, c3, c4, c5, c6⟩ := And.intro (cell_of hp (k := 0) rfl) (And.intro (cell_of hp (k := 1) rfl) (And.intro (cell_of hp (k := 2) rfl) (And.intro (cell_of hp (k := 3) rfl) (And.intro (cell_of hp (k := 4) rfl) (And.intro (cell_of hp (k := 5) rfl) (cell_of hp (k := 6) rfl))))))
  go_enter Tryz.func27, Tryz.ntmps27
  go_wp2_with fail
  refine (H1.out _ b1).mono ?_
  rintro e w1 ⟨rfl, hb⟩
  clear hW0 c0 c1 c2 c3 c4 c5 c6
  replace b1 := keep_below b1 hb
  replace hp := (hb.block _ (Array.getElem?_eq_some_iff.1 hp).1).trans hp
  replace hq := (hb.block _ (Array.getElem?_eq_some_iff.1 hq).1).trans hq
  replace hs := (hb.block _ (Array.getElem?_eq_some_iff.1 hs).1).trans hs
  replace hr := (hb.block _ (Array.getElem?_eq_some_iff.1 hr).1).trans hr
  clear hb
  obtain ⟨c0, c1, c2, c3, c4, c5, c6⟩ := And.intro (cell_of hq (k := 0) rfl) (And.intro (cell_of hq (k := 1) rfl) (And.intro (cell_of hq (k := 2) rfl) (And.intro (cell_of hq (k := 3) rfl) (And.intro (cell_of hq (k := 4) rfl) (And.intro (cell_of hq (k := 5) rfl) (cell_of hq (k := 6) rfl))))))
  go_wp2_with fail
  refine (H2.out _ b1).mono ?_
  rintro e w2 ⟨rfl, hb⟩
  clear c0 c1 c2 c3 c4 c5 c6
  replace b1 := keep_below b1 hb
  replace hp := (hb.block _ (Array.getElem?_eq_some_iff.1 hp).1).trans hp
  replace hq := (hb.block _ (Array.getElem?_eq_some_iff.1 hq).1).trans hq
  replace hs := (hb.block _ (Array.getElem?_eq_some_iff.1 hs).1).trans hs
  replace hr := (hb.block _ (Array.getElem?_eq_some_iff.1 hr).1).trans hr
  clear hb
  obtain ⟨z0, z1, z2, z3, z4, z5, z6⟩ := And.intro (cell_of hr (k := 0) rfl) (And.intro (cell_of hr (k := 1) rfl) (And.intro (cell_of hr (k := 2) rfl) (And.intro (cell_of hr (k := 3) rfl) (And.intro (cell_of hr (k := 4) rfl) (And.intro (cell_of hr (k := 5) rfl) (cell_of hr (k := 6) rfl))))))
  have f0 : w2.frozen? ⟨w.heap.size + 3, 0, none⟩ = false := frozen_of hr
  have f1 : w2.frozen? ⟨w.heap.size + 3, 1, none⟩ = false := frozen_of hr
  have f2 : w2.frozen? ⟨w.heap.size + 3, 2, none⟩ = false := frozen_of hr
  have f3 : w2.frozen? ⟨w.heap.size + 3, 3, none⟩ = false := frozen_of hr
  have f4 : w2.frozen? ⟨w.heap.size + 3, 4, none⟩ = false := frozen_of hr
  have f5 : w2.frozen? ⟨w.heap.size + 3, 5, none⟩ = false := frozen_of hr
  have f6 : w2.frozen? ⟨w.heap.size + 3, 6, none⟩ = false := frozen_of hr
  have hlt := (Array.getElem?_eq_some_iff.1 hr).1
  go_wp2_with fail
  obtain ⟨WF, hWF⟩ : ∃ WF, ((((((w2.setCell ⟨w.heap.size + 3, 0, none⟩ (.int .i64 0)).setCell ⟨w.heap.size + 3, 1, none⟩ (.int .i64 0)).setCell ⟨w.heap.size + 3, 2, none⟩ (.int .i64 0)).setCell ⟨w.heap.size + 3, 3, none⟩ (.int .i64 0)).setCell ⟨w.heap.size + 3, 4, none⟩ (.int .i64 0)).setCell ⟨w.heap.size + 3, 5, none⟩ (.slice none 0 0)).setCell ⟨w.heap.size + 3, 6, none⟩ (.slice none 0 0) = WF := ⟨_, rfl⟩
  rw [hWF]
  have hf : WF.heap[w.heap.size + 3]? = some (.cells #[.int .i64 0, .int .i64 0, .int .i64 0, .int .i64 0, .int .i64 0, .slice none 0 0, .slice none 0 0] 25 (0, 0)) := by
    rw [← hWF]
    exact res7 hr
  have hb4 : Below w.heap.size w WF := by
    rw [← hWF]
    exact ((((((b1.setCell (p := ⟨w.heap.size + 3, 0, none⟩) (by simp) _).setCell (p := ⟨w.heap.size + 3, 1, none⟩) (by simp) _).setCell (p := ⟨w.heap.size + 3, 2, none⟩) (by simp) _).setCell (p := ⟨w.heap.size + 3, 3, none⟩) (by simp) _).setCell (p := ⟨w.heap.size + 3, 4, none⟩) (by simp) _).setCell (p := ⟨w.heap.size + 3, 5, none⟩) (by simp) _).setCell (p := ⟨w.heap.size + 3, 6, none⟩) (by simp) _
  have hl := run_loadVar_mid (P := Tryz.prog) _ (w.heap.size + 3) 0 25 [.int .i64 0, .int .i64 0, .int .i64 0, .int .i64 0, .int .i64 0, .slice none 0 0, .slice none 0 0] _ (range_of hf) Tryz.underlying25 rfl (by kernel_rfl)
  refine bodyPost_ret (results_cell_tmp (fn := Tryz.f27) rfl _ (by rfl) hl) rfl ?_
  exact ⟨_, rfl, PcV.zero _ _, hb4⟩

set_option maxRecDepth 100000 in
set_option maxHeartbeats 16000000 in
theorem merge27_b3 (p q : PcD) (sh : Int) (b : Bool) (agp amp agq amq : Option Addr) (gcp mcp gcq mcq : Nat) (w : World)
    (H1 : Hid (∀ W, Below w.heap.size w W → Calls Tryz.prog 39 #[pcs p.id p.c p.r p.m p.s (.slice agp p.G.length gcp) (.slice amp p.M.length mcp)] W fun e w' => e = .returned (.bool true) ∧ Below W.heap.size W w'))
    (H2 : Hid (∀ W, Below w.heap.size w W → Calls Tryz.prog 39 #[pcs q.id q.c q.r q.m q.s (.slice agq q.G.length gcq) (.slice amq q.M.length mcq)] W fun e w' => e = .returned (.bool true) ∧ Below W.heap.size W w'))
    (H57 : Hid (∀ W, Calls Tryz.prog 57 #[st sh b, .int .i64 (p.G.length : Nat)] W fun e w' => e = .returned (.bool false) ∧ Below W.heap.size W w')) :
    Calls Tryz.prog 27 #[pcs p.id p.c p.r p.m p.s (.slice agp p.G.length gcp) (.slice amp p.M.length mcp), pcs q.id q.c q.r q.m q.s (.slice agq q.G.length gcq) (.slice amq q.M.length mcq), st sh b] w fun e w' => ∃ v, e = .returned (.tuple #[v, .int .i64 1]) ∧ PcV w' w.heap.size v zeroD ∧ Below w.heap.size w w' := by
  obtain ⟨hp, hq, hs, hr, b1⟩ := pcs3_new w (pcsObj p.id p.c p.r p.m p.s (.slice agp p.G.length gcp) (.slice amp p.M.length mcp)) (pcsObj q.id q.c q.r q.m q.s (.slice agq q.G.length gcq) (.slice amq q.M.length mcq)) sh b
  obtain ⟨W0, hW0⟩ : ∃ W0, ((((w.alloc (pcsObj p.id p.c p.r p.m p.s (.slice agp p.G.length gcp) (.slice amp p.M.length mcp))).alloc (pcsObj q.id q.c q.r q.m q.s (.slice agq q.G.length gcq) (.slice amq q.M.length mcq))).alloc (stObj sh b)).alloc (.cells #[.int .i64 0, .int .i64 0, .int .i64 0, .int .i64 0, .int .i64 0, .slice none 0 0, .slice none 0 0] 25)) = W0 := ⟨_, rfl⟩
  rw [hW0] at hp hq hs hr b1
  obtain ⟨c0, c1, c2, c3, c4, c5, c6⟩ := And.intro (cell_of hp (k := 0) rfl) (And.intro (cell_of hp (k := 1) rfl) (And.intro (cell_of hp (k := 2) rfl) (And.intro (cell_of hp (k := 3) rfl) (And.intro (cell_of hp (k := 4) rfl) (And.intro (cell_of hp (k := 5) rfl) (cell_of hp (k := 6) rfl))))))
  go_enter Tryz.func27, Tryz.ntmps27
  go_wp2_with fail
  refine (H1.out _ b1).mono ?_
  rintro e w1 ⟨rfl, hb⟩
  clear hW0 c0 c1 c2 c3 c4 c5 c6
  replace b1 := keep_below b1 hb
  replace hp := (hb.block _ (Array.getElem?_eq_some_iff.1 hp).1).trans hp
  replace hq := (hb.block _ (Array.getElem?_eq_some_iff.1 hq).1).trans hq
  replace hs := (hb.block _ (Array.getElem?_eq_some_iff.1 hs).1).trans hs
  replace hr := (hb.block _ (Array.getElem?_eq_some_iff.1 hr).1).trans hr
  clear hb
  obtain ⟨c0, c1, c2, c3, c4, c5, c6⟩ := And.intro (cell_of hq (k := 0) rfl) (And.intro (cell_of hq (k := 1) rfl) (And.intro (cell_of hq (k := 2) rfl) (And.intro (cell_of hq (k := 3) rfl) (And.intro (cell_of hq (k := 4) rfl) (And.intro (cell_of hq (k := 5) rfl) (cell_of hq (k := 6) rfl))))))
  go_wp2_with fail
  refine (H2.out _ b1).mono ?_
  rintro e w2 ⟨rfl, hb⟩
  clear c0 c1 c2 c3 c4 c5 c6
  replace b1 := keep_below b1 hb
  replace hp := (hb.block _ (Array.getElem?_eq_some_iff.1 hp).1).trans hp
  replace hq := (hb.block _ (Array.getElem?_eq_some_iff.1 hq).1).trans hq
  replace hs := (hb.block _ (Array.getElem?_eq_some_iff.1 hs).1).trans hs
  replace hr := (hb.block _ (Array.getElem?_eq_some_iff.1 hr).1).trans hr
  clear hb
  obtain ⟨c0, c1, c2, c3, c4, c5, c6⟩ := And.intro (cell_of hp (k := 0) rfl) (And.intro (cell_of hp (k := 1) rfl) (And.intro (cell_of hp (k := 2) rfl) (And.intro (cell_of hp (k := 3) rfl) (And.intro (cell_of hp (k := 4) rfl) (And.intro (cell_of hp (k := 5) rfl) (cell_of hp (k := 6) rfl))))))
  obtain ⟨s0, s1⟩ := And.intro (cell_of hs (k := 0) rfl) (cell_of hs (k := 1) rfl)
  go_wp2_with fail
  refine (H57.out _).mono ?_
  rintro e w3 ⟨rfl, hb⟩
  clear c0 c1 c2 c3 c4 c5 c6 s0 s1
  replace b1 := keep_below b1 hb
  replace hp := (hb.block _ (Array.getElem?_eq_some_iff.1 hp).1).trans hp
  replace hq := (hb.block _ (Array.getElem?_eq_some_iff.1 hq).1).trans hq
  replace hs := (hb.block _ (Array.getElem?_eq_some_iff.1 hs).1).trans hs
  replace hr := (hb.block _ (Array.getElem?_eq_some_iff.1 hr).1).trans hr
  clear hb
  obtain ⟨z0, z1, z2, z3, z4, z5, z6⟩ := And.intro (cell_of hr (k := 0) rfl) (And.intro (cell_of hr (k := 1) rfl) (And.intro (cell_of hr (k := 2) rfl) (And.intro (cell_of hr (k := 3) rfl) (And.intro (cell_of hr (k := 4) rfl) (And.intro (cell_of hr (k := 5) rfl) (cell_of hr (k := 6) rfl))))))
  have f0 : w3.frozen? ⟨w.heap.size + 3, 0, none⟩ = false := frozen_of hr
  have f1 : w3.frozen? ⟨w.heap.size + 3, 1, none⟩ = false := frozen_of hr
  have f2 : w3.frozen? ⟨w.heap.size + 3, 2, none⟩ = false := frozen_of hr
  have f3 : w3.frozen? ⟨w.heap.size + 3, 3, none⟩ = false := frozen_of hr
  have f4 : w3.frozen? ⟨w.heap.size + 3, 4, none⟩ = false := frozen_of hr
  have f5 : w3.frozen? ⟨w.heap.size + 3, 5, none⟩ = false := frozen_of hr
  have f6 : w3.frozen? ⟨w.heap.size + 3, 6, none⟩ = false := frozen_of hr
  have hlt := (Array.getElem?_eq_some_iff.1 hr).1
  go_wp2_with fail
  obtain ⟨WF, hWF⟩ : ∃ WF, ((((((w3.setCell ⟨w.heap.size + 3, 0, none⟩ (.int .i64 0)).setCell ⟨w.heap.size + 3, 1, none⟩ (.int .i64 0)).setCell ⟨w.heap.size + 3, 2, none⟩ (.int .i64 0)).setCell ⟨w.heap.size + 3, 3, none⟩ (.int .i64 0)).setCell ⟨w.heap.size + 3, 4, none⟩ (.int .i64 0)).setCell ⟨w.heap.size + 3, 5, none⟩ (.slice none 0 0)).setCell ⟨w.heap.size + 3, 6, none⟩ (.slice none 0 0) = WF := ⟨_, rfl⟩
  rw [hWF]
  have hf : WF.heap[w.heap.size + 3]? = some (.cells #[.int .i64 0, .int .i64 0, .int .i64 0, .int .i64 0, .int .i64 0, .slice none 0 0, .slice none 0 0] 25 (0, 0)) := by
    rw [← hWF]
    exact res7 hr
  have hb4 : Below w.heap.size w WF := by
    rw [← hWF]
    exact ((((((b1.setCell (p := ⟨w.heap.size + 3, 0, none⟩) (by simp) _).setCell (p := ⟨w.heap.size + 3, 1, none⟩) (by simp) _).setCell (p := ⟨w.heap.size + 3, 2, none⟩) (by simp) _).setCell (p := ⟨w.heap.size + 3, 3, none⟩) (by simp) _).setCell (p := ⟨w.heap.size + 3, 4, none⟩) (by simp) _).setCell (p := ⟨w.heap.size + 3, 5, none⟩) (by simp) _).setCell (p := ⟨w.heap.size + 3, 6, none⟩) (by simp) _
  have hl := run_loadVar_mid (P := Tryz.prog) _ (w.heap.size + 3) 0 25 [.int .i64 0, .int .i64 0, .int .i64 0, .int .i64 0, .int .i64 0, .slice none 0 0, .slice none 0 0] _ (range_of hf) Tryz.underlying25 rfl (by kernel_rfl)
  refine bodyPost_ret (results_cell_tmp (fn := Tryz.f27) rfl _ (by rfl) hl) rfl ?_
  exact ⟨_, rfl, PcV.zero _ _, hb4⟩

set_option maxRecDepth 100000 in
set_option maxHeartbeats 16000000 in
theorem merge27_b4 (p q : PcD) (y : PcD) (sh : Int) (b : Bool) (agp amp agq amq : Option Addr) (gcp mcp gcq mcq : Nat) (w : World)
    (H1 : Hid (∀ W, Below w.heap.size w W → Calls Tryz.prog 39 #[pcs p.id p.c p.r p.m p.s (.slice agp p.G.length gcp) (.slice amp p.M.length mcp)] W fun e w' => e = .returned (.bool true) ∧ Below W.heap.size W w'))
    (H2 : Hid (∀ W, Below w.heap.size w W → Calls Tryz.prog 39 #[pcs q.id q.c q.r q.m q.s (.slice agq q.G.length gcq) (.slice amq q.M.length mcq)] W fun e w' => e = .returned (.bool true) ∧ Below W.heap.size W w'))
    (H57 : Hid (∀ W, Calls Tryz.prog 57 #[st sh b, .int .i64 (p.G.length : Nat)] W fun e w' => e = .returned (.bool true) ∧ Below W.heap.size W w'))
    (H50 : Hid (∀ W, Below w.heap.size w W → Calls Tryz.prog 50 #[pcs p.id p.c p.r p.m p.s (.slice agp p.G.length gcp) (.slice amp p.M.length mcp), st sh b] W fun e w' => ∃ v, e = .returned v ∧ PcV w' W.heap.size v y ∧ Below W.heap.size W w'))
    (H54 : Hid (∀ W v, PcV W 0 v y → Below w.heap.size w W → Calls Tryz.prog 54 #[v, pcs q.id q.c q.r q.m q.s (.slice agq q.G.length gcq) (.slice amq q.M.length mcq)] W fun e w' => e = .returned (.bool false) ∧ Below W.heap.size W w')) :
    Calls Tryz.prog 27 #[pcs p.id p.c p.r p.m p.s (.slice agp p.G.length gcp) (.slice amp p.M.length mcp), pcs q.id q.c q.r q.m q.s (.slice agq q.G.length gcq) (.slice amq q.M.length mcq), st sh b] w fun e w' => ∃ v, e = .returned (.tuple #[v, .int .i64 31]) ∧ PcV w' w.heap.size v zeroD ∧ Below w.heap.size w w' := by
  obtain ⟨hp, hq, hs, hr, b1⟩ := pcs3_new w (pcsObj p.id p.c p.r p.m p.s (.slice agp p.G.length gcp) (.slice amp p.M.length mcp)) (pcsObj q.id q.c q.r q.m q.s (.slice agq q.G.length gcq) (.slice amq q.M.length mcq)) sh b
  obtain ⟨W0, hW0⟩ : ∃ W0, ((((w.alloc (pcsObj p.id p.c p.r p.m p.s (.slice agp p.G.length gcp) (.slice amp p.M.length mcp))).alloc (pcsObj q.id q.c q.r q.m q.s (.slice agq q.G.length gcq) (.slice amq q.M.length mcq))).alloc (stObj sh b)).alloc (.cells #[.int .i64 0, .int .i64 0, .int .i64 0, .int .i64 0, .int .i64 0, .slice none 0 0, .slice none 0 0] 25)) = W0 := ⟨_, rfl⟩
  rw [hW0] at hp hq hs hr b1
  obtain ⟨c0, c1, c2, c3, c4, c5, c6⟩ := And.intro (cell_of hp (k := 0) rfl) (And.intro (cell_of hp (k := 1) rfl) (And.intro (cell_of hp (k := 2) rfl) (And.intro (cell_of hp (k := 3) rfl) (And.intro (cell_of hp (k := 4) rfl) (And.intro (cell_of hp (k := 5) rfl) (cell_of hp (k := 6) rfl))))))
  go_enter Tryz.func27, Tryz.ntmps27
  go_wp2_with fail
  refine (H1.out _ b1).mono ?_
  rintro e w1 ⟨rfl, hb⟩
  clear hW0 c0 c1 c2 c3 c4 c5 c6
  replace b1 := keep_below b1 hb
  replace hp := (hb.block _ (Array.getElem?_eq_some_iff.1 hp).1).trans hp
  replace hq := (hb.block _ (Array.getElem?_eq_some_iff.1 hq).1).trans hq
  replace hs := (hb.block _ (Array.getElem?_eq_some_iff.1 hs).1).trans hs
  replace hr := (hb.block _ (Array.getElem?_eq_some_iff.1 hr).1).trans hr
  clear hb
  obtain ⟨c0, c1, c2, c3, c4, c5, c6⟩ := And.intro (cell_of hq (k := 0) rfl) (And.intro (cell_of hq (k := 1) rfl) (And.intro (cell_of hq (k := 2) rfl) (And.intro (cell_of hq (k := 3) rfl) (And.intro (cell_of hq (k := 4) rfl) (And.intro (cell_of hq (k := 5) rfl) (cell_of hq (k := 6) rfl))))))
  go_wp2_with fail
  refine (H2.out _ b1).mono ?_
  rintro e w2 ⟨rfl, hb⟩
  clear c0 c1 c2 c3 c4 c5 c6
  replace b1 := keep_below b1 hb
  replace hp := (hb.block _ (Array.getElem?_eq_some_iff.1 hp).1).trans hp
  replace hq := (hb.block _ (Array.getElem?_eq_some_iff.1 hq).1).trans hq
  replace hs := (hb.block _ (Array.getElem?_eq_some_iff.1 hs).1).trans hs
  replace hr := (hb.block _ (Array.getElem?_eq_some_iff.1 hr).1).trans hr
  clear hb
  obtain ⟨c0, c1, c2, c3, c4, c5, c6⟩ := And.intro (cell_of hp (k := 0) rfl) (And.intro (cell_of hp (k := 1) rfl) (And.intro (cell_of hp (k := 2) rfl) (And.intro (cell_of hp (k := 3) rfl) (And.intro (cell_of hp (k := 4) rfl) (And.intro (cell_of hp (k := 5) rfl) (cell_of hp (k := 6) rfl))))))
  obtain ⟨s0, s1⟩ := And.intro (cell_of hs (k := 0) rfl) (cell_of hs (k := 1) rfl)
  go_wp2_with fail
  refine (H57.out _).mono ?_
  rintro e w3 ⟨rfl, hb⟩
  clear c0 c1 c2 c3 c4 c5 c6 s0 s1
  replace b1 := keep_below b1 hb
  replace hp := (hb.block _ (Array.getElem?_eq_some_iff.1 hp).1).trans hp
  replace hq := (hb.block _ (Array.getElem?_eq_some_iff.1 hq).1).trans hq
  replace hs := (hb.block _ (Array.getElem?_eq_some_iff.1 hs).1).trans hs
  replace hr := (hb.block _ (Array.getElem?_eq_some_iff.1 hr).1).trans hr
  clear hb
  obtain ⟨c0, c1, c2, c3, c4, c5, c6⟩ := And.intro (cell_of hp (k := 0) rfl) (And.intro (cell_of hp (k := 1) rfl) (And.intro (cell_of hp (k := 2) rfl) (And.intro (cell_of hp (k := 3) rfl) (And.intro (cell_of hp (k := 4) rfl) (And.intro (cell_of hp (k := 5) rfl) (cell_of hp (k := 6) rfl))))))
  obtain ⟨s0, s1⟩ := And.intro (cell_of hs (k := 0) rfl) (cell_of hs (k := 1) rfl)
  go_wp2_with fail
  refine (H50.out _ b1).mono ?_
  rintro e w4 ⟨v4, rfl, hv4, hb⟩
  obtain ⟨ag8, gc8, am8, mc8, rfl, hv4⟩ := hv4.pcs
  clear c0 c1 c2 c3 c4 c5 c6 s0 s1
  replace b1 := keep_below b1 hb
  replace hp := (hb.block _ (Array.getElem?_eq_some_iff.1 hp).1).trans hp
  replace hq := (hb.block _ (Array.getElem?_eq_some_iff.1 hq).1).trans hq
  replace hs := (hb.block _ (Array.getElem?_eq_some_iff.1 hs).1).trans hs
  replace hr := (hb.block _ (Array.getElem?_eq_some_iff.1 hr).1).trans hr
  clear hb
  have hb : Below w4.heap.size w4 (w4.alloc (.cells #[.int .i64 y.id, .int .i64 y.c, .int .i64 y.r, .int .i64 y.m, .int .i64 y.s, .slice ag8 y.G.length gc8, .slice am8 y.M.length mc8] 25)) := (Below.refl _ _).alloc (Nat.le_refl _) _
  have h8 := alloc_heap_new w4 (.cells #[.int .i64 y.id, .int .i64 y.c, .int .i64 y.r, .int .i64 y.m, .int .i64 y.s, .slice ag8 y.G.length gc8, .slice am8 y.M.length mc8] 25)
  have hv8 := (hv4.mono (Nat.zero_le _)).keep hb
  clear hv4
  replace b1 := keep_below b1 hb
  replace hp := (hb.block _ (Array.getElem?_eq_some_iff.1 hp).1).trans hp
  replace hq := (hb.block _ (Array.getElem?_eq_some_iff.1 hq).1).trans hq
  replace hs := (hb.block _ (Array.getElem?_eq_some_iff.1 hs).1).trans hs
  replace hr := (hb.block _ (Array.getElem?_eq_some_iff.1 hr).1).trans hr
  clear hb
  obtain ⟨e0, e1, e2, e3, e4, e5, e6⟩ := And.intro (cell_of h8 (k := 0) rfl) (And.intro (cell_of h8 (k := 1) rfl) (And.intro (cell_of h8 (k := 2) rfl) (And.intro (cell_of h8 (k := 3) rfl) (And.intro (cell_of h8 (k := 4) rfl) (And.intro (cell_of h8 (k := 5) rfl) (cell_of h8 (k := 6) rfl))))))
  obtain ⟨c0, c1, c2, c3, c4, c5, c6⟩ := And.intro (cell_of hq (k := 0) rfl) (And.intro (cell_of hq (k := 1) rfl) (And.intro (cell_of hq (k := 2) rfl) (And.intro (cell_of hq (k := 3) rfl) (And.intro (cell_of hq (k := 4) rfl) (And.intro (cell_of hq (k := 5) rfl) (cell_of hq (k := 6) rfl))))))
  go_wp2_with fail
  obtain ⟨R8, hR8⟩ : ∃ R8, R8 = w4.heap.size := ⟨_, rfl⟩
  refine (H54.out _ _ hv8 b1).mono ?_
  rintro e w5 ⟨rfl, hb⟩
  clear c0 c1 c2 c3 c4 c5 c6 e0 e1 e2 e3 e4 e5 e6
  replace b1 := keep_below b1 hb
  replace hp := (hb.block _ (Array.getElem?_eq_some_iff.1 hp).1).trans hp
  replace hq := (hb.block _ (Array.getElem?_eq_some_iff.1 hq).1).trans hq
  replace hs := (hb.block _ (Array.getElem?_eq_some_iff.1 hs).1).trans hs
  replace hr := (hb.block _ (Array.getElem?_eq_some_iff.1 hr).1).trans hr
  replace h8 := (hb.block _ (Array.getElem?_eq_some_iff.1 h8).1).trans h8
  replace hv8 := hv8.keep hb
  clear hb
  obtain ⟨z0, z1, z2, z3, z4, z5, z6⟩ := And.intro (cell_of hr (k := 0) rfl) (And.intro (cell_of hr (k := 1) rfl) (And.intro (cell_of hr (k := 2) rfl) (And.intro (cell_of hr (k := 3) rfl) (And.intro (cell_of hr (k := 4) rfl) (And.intro (cell_of hr (k := 5) rfl) (cell_of hr (k := 6) rfl))))))
  have f0 : w5.frozen? ⟨w.heap.size + 3, 0, none⟩ = false := frozen_of hr
  have f1 : w5.frozen? ⟨w.heap.size + 3, 1, none⟩ = false := frozen_of hr
  have f2 : w5.frozen? ⟨w.heap.size + 3, 2, none⟩ = false := frozen_of hr
  have f3 : w5.frozen? ⟨w.heap.size + 3, 3, none⟩ = false := frozen_of hr
  have f4 : w5.frozen? ⟨w.heap.size + 3, 4, none⟩ = false := frozen_of hr
  have f5 : w5.frozen? ⟨w.heap.size + 3, 5, none⟩ = false := frozen_of hr
  have f6 : w5.frozen? ⟨w.heap.size + 3, 6, none⟩ = false := frozen_of hr
  have hlt := (Array.getElem?_eq_some_iff.1 hr).1
  go_wp2_with fail
  obtain ⟨WF, hWF⟩ : ∃ WF, ((((((w5.setCell ⟨w.heap.size + 3, 0, none⟩ (.int .i64 0)).setCell ⟨w.heap.size + 3, 1, none⟩ (.int .i64 0)).setCell ⟨w.heap.size + 3, 2, none⟩ (.int .i64 0)).setCell ⟨w.heap.size + 3, 3, none⟩ (.int .i64 0)).setCell ⟨w.heap.size + 3, 4, none⟩ (.int .i64 0)).setCell ⟨w.heap.size + 3, 5, none⟩ (.slice none 0 0)).setCell ⟨w.heap.size + 3, 6, none⟩ (.slice none 0 0) = WF := ⟨_, rfl⟩
  rw [hWF]
  have hf : WF.heap[w.heap.size + 3]? = some (.cells #[.int .i64 0, .int .i64 0, .int .i64 0, .int .i64 0, .int .i64 0, .slice none 0 0, .slice none 0 0] 25 (0, 0)) := by
    rw [← hWF]
    exact res7 hr
  have hb4 : Below w.heap.size w WF := by
    rw [← hWF]
    exact ((((((b1.setCell (p := ⟨w.heap.size + 3, 0, none⟩) (by simp) _).setCell (p := ⟨w.heap.size + 3, 1, none⟩) (by simp) _).setCell (p := ⟨w.heap.size + 3, 2, none⟩) (by simp) _).setCell (p := ⟨w.heap.size + 3, 3, none⟩) (by simp) _).setCell (p := ⟨w.heap.size + 3, 4, none⟩) (by simp) _).setCell (p := ⟨w.heap.size + 3, 5, none⟩) (by simp) _).setCell (p := ⟨w.heap.size + 3, 6, none⟩) (by simp) _
  have hl := run_loadVar_mid (P := Tryz.prog) _ (w.heap.size + 3) 0 25 [.int .i64 0, .int .i64 0, .int .i64 0, .int .i64 0, .int .i64 0, .slice none 0 0, .slice none 0 0] _ (range_of hf) Tryz.underlying25 rfl (by kernel_rfl)
  refine bodyPost_ret (results_cell_tmp (fn := Tryz.f27) rfl _ (by rfl) hl) rfl ?_
  exact ⟨_, rfl, PcV.zero _ _, hb4⟩

end Go.Proofs.YtiommdfelnkibaaGreat
