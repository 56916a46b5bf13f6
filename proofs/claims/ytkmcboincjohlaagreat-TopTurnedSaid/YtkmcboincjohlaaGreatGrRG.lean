/- The abstract machine, part GrRG. -/
import Derived.Test.YtkmcboincjohlaaGreatGrRE
import Derived.Test.YtkmcboincjohlaaGreatGrRF
import Derived.Test.YtkmcboincjohlaaGreatGrLP
/- The reset of a piece, by both: one answer, whatever the setting's sense. -/
namespace Go.Proofs.YtkmcboincjohlaaGreat
open Go Go.RowKit Go.Proofs Go.Abs

/-- A piece, told plainly. -/
structure PcD where
  id : Int
  c : Int
  r : Int
  m : Int
  s : Int
  G : List G5
  M : List M3

/-- The value is that piece; its lists lie in no block older than B. -/
def PcV (W : World) (B : Nat) (v : Value) (d : PcD) : Prop :=
  ∃ vg vm, v = pcs d.id d.c d.r d.m d.s vg vm ∧ SlG W vg d.G ∧ SlM W vm d.M ∧ Fr B vg ∧ Fr B vm

def zeroD : PcD := ⟨0, 0, 0, 0, 0, [], []⟩
/-- The piece reset. -/
def rsD (d : PcD) (sh : Nat) (b : Bool) : PcD := ⟨d.id, if b then d.r else d.c, if b then d.c else d.r, d.m, d.s, layL d.G d.G.length sh b, shM d.G.length sh b d.M⟩
def PcD.ok (d : PcD) : Bool := vP d.id d.c d.r d.m d.s d.G d.M
/-- What Reset answers. -/
def resD (d : PcD) (sh : Int) (b : Bool) : PcD := if d.ok && vset sh d.G.length then rsD d sh.toNat b else zeroD

theorem Fr.mono {B C : Nat} {v : Value} (h : Fr B v) (hc : C ≤ B) : Fr C v := fun a n c e => Nat.le_trans hc (h a n c e)

theorem PcV.keep {W W' : World} {B : Nat} {v : Value} {d : PcD} (h : PcV W B v d) (hb : Below W.heap.size W W') : PcV W' B v d := by
  obtain ⟨vg, vm, h1, h2, h3, h4, h5⟩ := h
  exact ⟨vg, vm, h1, h2.keep hb, h3.keep hb, h4, h5⟩

theorem PcV.mono {W : World} {B C : Nat} {v : Value} {d : PcD} (h : PcV W B v d) (hc : C ≤ B) : PcV W C v d := by
  obtain ⟨vg, vm, h1, h2, h3, h4, h5⟩ := h
  exact ⟨vg, vm, h1, h2, h3, h4.mono hc, h5.mono hc⟩

theorem PcV.zero (W : World) (B : Nat) : PcV W B (pcs 0 0 0 0 0 (.slice none 0 0) (.slice none 0 0)) zeroD :=
  ⟨_, _, rfl, ⟨none, 0, rfl, by simp [zeroD], fun k hk => absurd hk (by simp [zeroD])⟩, slm_nil _, (fun a n c h => by cases h), (fun a n c h => by cases h)⟩

theorem slg_set {W : World} {v u : Value} {D : List G5} {B o : Nat} (h : SlG W v D) (hn : ∀ a n c, v = .slice (some a) n c → B ≠ a.block) : SlG (W.setCell ⟨B, o, none⟩ u) v D := by
  obtain ⟨a, cap, rfl, hl, hc⟩ := h
  refine ⟨a, cap, rfl, hl, fun k hk => ?_⟩
  obtain ⟨b, off, rfl, h0, h1, h2, h3, h4⟩ := hc k hk
  have hb : B ≠ b := hn _ _ _ rfl
  have e : ∀ p, (W.setCell ⟨B, o, none⟩ u).cell? ⟨b, p, none⟩ = W.cell? ⟨b, p, none⟩ := fun p => World.cell?_setCell_other (h := fun x => hb (by cases x; rfl)) ..
  exact ⟨b, off, rfl, (e _).trans h0, (e _).trans h1, (e _).trans h2, (e _).trans h3, (e _).trans h4⟩

theorem PcV.set {W : World} {C B o : Nat} {v u : Value} {d : PcD} (h : PcV W C v d) (hB : B < C) : PcV (W.setCell ⟨B, o, none⟩ u) C v d := by
  obtain ⟨vg, vm, h1, h2, h3, h4, h5⟩ := h
  exact ⟨vg, vm, h1, slg_set h2 (fun a n c e => by have := h4 a n c e; omega), slm_set h3 (fun a n c e => by have := h5 a n c e; omega), h4, h5⟩

theorem reset50_any (d : PcD) (vg vm : Value) (sh : Int) (b : Bool) (w : World) (hG : SlG w vg d.G) (hM : SlM w vm d.M) (hok : d.ok = true) (hs : vset sh d.G.length = true) :
    Calls Tryz.prog 31 #[pcs d.id d.c d.r d.m d.s vg vm, st sh b] w fun e w' => ∃ v, e = .returned v ∧ PcV w' w.heap.size v (rsD d sh.toNat b) ∧ Below w.heap.size w w' := by
  have hh := hs
  simp only [vset, Bool.and_eq_true, decide_eq_true_eq] at hh
  obtain ⟨⟨⟨a1, a2⟩, a3⟩, a4⟩ := hh
  obtain ⟨s, rfl⟩ : ∃ s : Nat, sh = s := ⟨sh.toNat, by omega⟩
  have fin : ∀ (w' : World) (vg' : Value), w'.ownsRow (w.heap.size + 4) 82 5 vg' d.G.length (rowG (fun x => lay d.G d.G.length s b x) d.G.length) → SlG w' vg' (layL d.G d.G.length s b) ∧ Fr w.heap.size vg' := fun w' vg' h =>
    ⟨own_slg h (layL_len _ _ _ _) (by omega) (by omega) (fun i hi => (layL_gz d.G b hi).symm), fun a n c e => by
      subst e
      have := (h.lt a.block rfl).1
      omega⟩
  cases b
  · refine (reset50_F d.id d.c d.r d.m d.s vg vm d.G d.M s w hG hM hok hs).mono ?_
    rintro e w' ⟨vg', vm', rfl, h1, h2, h3, h4⟩
    exact ⟨_, rfl, ⟨vg', vm', rfl, (fin w' vg' h1).1, h2, (fin w' vg' h1).2, h3⟩, h4⟩
  · refine (reset50_T d.id d.c d.r d.m d.s vg vm d.G d.M s w hG hM hok hs).mono ?_
    rintro e w' ⟨vg', vm', rfl, h1, h2, h3, h4⟩
    exact ⟨_, rfl, ⟨vg', vm', rfl, (fin w' vg' h1).1, h2, (fin w' vg' h1).2, h3⟩, h4⟩

end Go.Proofs.YtkmcboincjohlaaGreat

/- Walks: Reset of the program and of the reference. -/
namespace Go.Proofs.YtkmcboincjohlaaGreat
open Go Go.RowKit Go.Proofs Go.Abs

theorem PcV.shape {W : World} {B : Nat} {v : Value} {d : PcD} (h : PcV W B v d) : ∃ ag gc am mc, v = pcs d.id d.c d.r d.m d.s (.slice ag d.G.length gc) (.slice am d.M.length mc) ∧ SlG W (.slice ag d.G.length gc) d.G ∧ SlM W (.slice am d.M.length mc) d.M ∧ Fr B (.slice ag d.G.length gc) ∧ Fr B (.slice am d.M.length mc) := by
  obtain ⟨vg, vm, h1, h2, h3, h4, h5⟩ := h
  obtain ⟨ag, gc, rfl, -⟩ := _root_.id h2
  obtain ⟨am, mc, rfl, -⟩ := _root_.id h3
  exact ⟨ag, gc, am, mc, h1, h2, h3, h4, h5⟩

set_option maxRecDepth 100000 in
set_option maxHeartbeats 4000000 in
theorem reset17_walk (id c r m s : Int) (ag am : Option Addr) (n gcap l mcap : Nat) (sh : Int) (b : Bool) (w : World) (p q : Bool) (y : PcD)
    (CS : Hid (∀ W, Below w.heap.size w W → Calls Tryz.prog 30 #[pcs id c r m s (.slice ag n gcap) (.slice am l mcap), st sh b] W fun e w' => e = .returned (.int .i64 (if p = true then (if q = true then 0 else 1) else 30)) ∧ Below W.heap.size W w'))
    (CR : Hid (p = true → q = true → ∀ W, Below w.heap.size w W → Calls Tryz.prog 31 #[pcs id c r m s (.slice ag n gcap) (.slice am l mcap), st sh b] W fun e w' => ∃ v, e = .returned v ∧ PcV w' W.heap.size v y ∧ Below W.heap.size W w')) :
    Calls Tryz.prog 13 #[pcs id c r m s (.slice ag n gcap) (.slice am l mcap), st sh b] w fun e w' => ∃ v, e = .returned (.tuple #[v, .int .i64 (setE p q)]) ∧ PcV w' w.heap.size v (if p && q then y else zeroD) ∧ Below w.heap.size w w' := by
  have P0 := PcSt.new w id c r m s (.slice ag n gcap) (.slice am l mcap) sh b
  obtain ⟨W0, hW0⟩ : ∃ W0, ((w.alloc (pcsObj id c r m s (.slice ag n gcap) (.slice am l mcap))).alloc (stObj sh b)).alloc (.cells #[.int .i64 0, .int .i64 0, .int .i64 0, .int .i64 0, .int .i64 0, .slice none 0 0, .slice none 0 0] 40) = W0 := ⟨_, rfl⟩
  have hP0 : PcSt w W0 id c r m s (.slice ag n gcap) (.slice am l mcap) sh b := by rw [← hW0]; exact P0.keep ((Below.refl _ _).alloc (Nat.le_refl _) _)
  have hR0 : W0.heap[w.heap.size + 2]? = some (.cells #[.int .i64 0, .int .i64 0, .int .i64 0, .int .i64 0, .int .i64 0, .slice none 0 0, .slice none 0 0] 40 (0, 0)) := by
    rw [← hW0]
    have := alloc_heap_new ((w.alloc (pcsObj id c r m s (.slice ag n gcap) (.slice am l mcap))).alloc (stObj sh b)) (.cells #[.int .i64 0, .int .i64 0, .int .i64 0, .int .i64 0, .int .i64 0, .slice none 0 0, .slice none 0 0] 40)
    rw [World.size_alloc, World.size_alloc] at this
    exact this
  clear P0
  obtain ⟨b0, -, c0, c1, c2, c3, c4, c5, c6, s0, s1⟩ := _root_.id hP0
  have CSW := CS.out W0 b0
  clear CS
  cases p <;> cases q
  case true.true =>
    have CR' := Lib.hid (CR.out rfl rfl)
    clear CR
    go_enter Tryz.func13, Tryz.ntmps13
    go_wp2_with fail
    refine CSW.mono ?_
    rintro e w1 ⟨rfl, hb⟩
    have P1 := hP0.keep hb
    have hR1 := (hb.block _ (Array.getElem?_eq_some_iff.1 hR0).1).trans hR0
    obtain ⟨b1, -, d0, d1, d2, d3, d4, d5, d6, t0, t1⟩ := _root_.id P1
    clear c0 c1 c2 c3 c4 c5 c6 s0 s1
    go_wp2_with fail
    refine (CR'.out _ b1).mono ?_
    rintro e w2 ⟨v2, rfl, hv2, hb2⟩
    obtain ⟨ag2, gc2, am2, mc2, rfl, hs⟩ := hv2.shape
    have hR2 := (hb2.block _ (Array.getElem?_eq_some_iff.1 hR1).1).trans hR1
    have b2 := keep_below b1 hb2
    have hlt := (Array.getElem?_eq_some_iff.1 hR1).1
    clear d0 d1 d2 d3 d4 d5 d6 t0 t1 hs P1 hP0
    obtain ⟨z0, z1, z2, z3, z4, z5, z6⟩ := And.intro (cell_of hR2 (k := 0) rfl) (And.intro (cell_of hR2 (k := 1) rfl) (And.intro (cell_of hR2 (k := 2) rfl) (And.intro (cell_of hR2 (k := 3) rfl) (And.intro (cell_of hR2 (k := 4) rfl) (And.intro (cell_of hR2 (k := 5) rfl) (cell_of hR2 (k := 6) rfl))))))
    have f0 : w2.frozen? ⟨w.heap.size + 2, 0, none⟩ = false := frozen_of hR2
    have f1 : w2.frozen? ⟨w.heap.size + 2, 1, none⟩ = false := frozen_of hR2
    have f2 : w2.frozen? ⟨w.heap.size + 2, 2, none⟩ = false := frozen_of hR2
    have f3 : w2.frozen? ⟨w.heap.size + 2, 3, none⟩ = false := frozen_of hR2
    have f4 : w2.frozen? ⟨w.heap.size + 2, 4, none⟩ = false := frozen_of hR2
    have f5 : w2.frozen? ⟨w.heap.size + 2, 5, none⟩ = false := frozen_of hR2
    have f6 : w2.frozen? ⟨w.heap.size + 2, 6, none⟩ = false := frozen_of hR2
    go_wp2_with fail
    obtain ⟨WF, hWF⟩ : ∃ WF, ((((((w2.setCell ⟨w.heap.size + 1 + 1, 0, none⟩ (.int .i64 y.id)).setCell ⟨w.heap.size + 1 + 1, 1, none⟩ (.int .i64 y.c)).setCell ⟨w.heap.size + 1 + 1, 2, none⟩ (.int .i64 y.r)).setCell ⟨w.heap.size + 1 + 1, 3, none⟩ (.int .i64 y.m)).setCell ⟨w.heap.size + 1 + 1, 4, none⟩ (.int .i64 y.s)).setCell ⟨w.heap.size + 1 + 1, 5, none⟩ (.slice ag2 y.G.length gc2)).setCell ⟨w.heap.size + 1 + 1, 6, none⟩ (.slice am2 y.M.length mc2) = WF := ⟨_, rfl⟩
    rw [hWF]
    have hf : WF.heap[w.heap.size + 1 + 1]? = some (.cells #[.int .i64 y.id, .int .i64 y.c, .int .i64 y.r, .int .i64 y.m, .int .i64 y.s, .slice ag2 y.G.length gc2, .slice am2 y.M.length mc2] 40 (0, 0)) := by
      rw [← hWF]
      exact res7 hR2
    have hb4 : Below w.heap.size w WF := by
      rw [← hWF]
      exact ((((((b2.setCell (p := ⟨w.heap.size + 1 + 1, 0, none⟩) (by simp; omega) _).setCell (p := ⟨w.heap.size + 1 + 1, 1, none⟩) (by simp; omega) _).setCell (p := ⟨w.heap.size + 1 + 1, 2, none⟩) (by simp; omega) _).setCell (p := ⟨w.heap.size + 1 + 1, 3, none⟩) (by simp; omega) _).setCell (p := ⟨w.heap.size + 1 + 1, 4, none⟩) (by simp; omega) _).setCell (p := ⟨w.heap.size + 1 + 1, 5, none⟩) (by simp; omega) _).setCell (p := ⟨w.heap.size + 1 + 1, 6, none⟩) (by simp; omega) _
    have hv4 : PcV WF w.heap.size (pcs y.id y.c y.r y.m y.s (.slice ag2 y.G.length gc2) (.slice am2 y.M.length mc2)) y := by
      rw [← hWF]
      exact (((((((hv2.set (by omega)).set (by omega)).set (by omega)).set (by omega)).set (by omega)).set (by omega)).set (by omega)).mono (by omega)
    have hl := run_loadVar_mid (P := Tryz.prog) _ (w.heap.size + 1 + 1) 0 40 [.int .i64 y.id, .int .i64 y.c, .int .i64 y.r, .int .i64 y.m, .int .i64 y.s, .slice ag2 y.G.length gc2, .slice am2 y.M.length mc2] _ (range_of hf) Tryz.underlying40 rfl (by kernel_rfl)
    refine bodyPost_ret (results_cell_tmp (fn := Tryz.f13) rfl _ (by rfl) hl) rfl ?_
    exact ⟨_, rfl, hv4, hb4⟩
  all_goals
    clear CR
    go_enter Tryz.func13, Tryz.ntmps13
    go_wp2_with fail
    refine CSW.mono ?_
    rintro e w1 ⟨rfl, hb⟩
    have hR1 := (hb.block _ (Array.getElem?_eq_some_iff.1 hR0).1).trans hR0
    have b1 := keep_below b0 hb
    have hlt := (Array.getElem?_eq_some_iff.1 hR1).1
    clear c0 c1 c2 c3 c4 c5 c6 s0 s1
    obtain ⟨z0, z1, z2, z3, z4, z5, z6⟩ := And.intro (cell_of hR1 (k := 0) rfl) (And.intro (cell_of hR1 (k := 1) rfl) (And.intro (cell_of hR1 (k := 2) rfl) (And.intro (cell_of hR1 (k := 3) rfl) (And.intro (cell_of hR1 (k := 4) rfl) (And.intro (cell_of hR1 (k := 5) rfl) (cell_of hR1 (k := 6) rfl))))))
    have f0 : w1.frozen? ⟨w.heap.size + 2, 0, none⟩ = false := frozen_of hR1
    have f1 : w1.frozen? ⟨w.heap.size + 2, 1, none⟩ = false := frozen_of hR1
    have f2 : w1.frozen? ⟨w.heap.size + 2, 2, none⟩ = false := frozen_of hR1
    have f3 : w1.frozen? ⟨w.heap.size + 2, 3, none⟩ = false := frozen_of hR1
    have f4 : w1.frozen? ⟨w.heap.size + 2, 4, none⟩ = false := frozen_of hR1
    have f5 : w1.frozen? ⟨w.heap.size + 2, 5, none⟩ = false := frozen_of hR1
    have f6 : w1.frozen? ⟨w.heap.size + 2, 6, none⟩ = false := frozen_of hR1
    go_wp2_with fail
    obtain ⟨WF, hWF⟩ : ∃ WF, ((((((w1.setCell ⟨w.heap.size + 1 + 1, 0, none⟩ (.int .i64 0)).setCell ⟨w.heap.size + 1 + 1, 1, none⟩ (.int .i64 0)).setCell ⟨w.heap.size + 1 + 1, 2, none⟩ (.int .i64 0)).setCell ⟨w.heap.size + 1 + 1, 3, none⟩ (.int .i64 0)).setCell ⟨w.heap.size + 1 + 1, 4, none⟩ (.int .i64 0)).setCell ⟨w.heap.size + 1 + 1, 5, none⟩ (.slice none 0 0)).setCell ⟨w.heap.size + 1 + 1, 6, none⟩ (.slice none 0 0) = WF := ⟨_, rfl⟩
    rw [hWF]
    have hf : WF.heap[w.heap.size + 1 + 1]? = some (.cells #[.int .i64 0, .int .i64 0, .int .i64 0, .int .i64 0, .int .i64 0, .slice none 0 0, .slice none 0 0] 40 (0, 0)) := by
      rw [← hWF]
      exact res7 hR1
    have hb4 : Below w.heap.size w WF := by
      rw [← hWF]
      exact ((((((b1.setCell (p := ⟨w.heap.size + 1 + 1, 0, none⟩) (by simp; omega) _).setCell (p := ⟨w.heap.size + 1 + 1, 1, none⟩) (by simp; omega) _).setCell (p := ⟨w.heap.size + 1 + 1, 2, none⟩) (by simp; omega) _).setCell (p := ⟨w.heap.size + 1 + 1, 3, none⟩) (by simp; omega) _).setCell (p := ⟨w.heap.size + 1 + 1, 4, none⟩) (by simp; omega) _).setCell (p := ⟨w.heap.size + 1 + 1, 5, none⟩) (by simp; omega) _).setCell (p := ⟨w.heap.size + 1 + 1, 6, none⟩) (by simp; omega) _
    have hl := run_loadVar_mid (P := Tryz.prog) _ (w.heap.size + 1 + 1) 0 40 [.int .i64 0, .int .i64 0, .int .i64 0, .int .i64 0, .int .i64 0, .slice none 0 0, .slice none 0 0] _ (range_of hf) Tryz.underlying40 rfl (by kernel_rfl)
    refine bodyPost_ret (results_cell_tmp (fn := Tryz.f13) rfl _ (by rfl) hl) rfl ?_
    exact ⟨_, rfl, PcV.zero _ _, hb4⟩

theorem reset17_any (d : PcD) (vg vm : Value) (sh : Int) (b : Bool) (w : World) (hG : SlG w vg d.G) (hM : SlM w vm d.M) :
    Calls Tryz.prog 13 #[pcs d.id d.c d.r d.m d.s vg vm, st sh b] w fun e w' => ∃ v, e = .returned (.tuple #[v, .int .i64 (setE d.ok (vset sh d.G.length))]) ∧ PcV w' w.heap.size v (resD d sh b) ∧ Below w.heap.size w w' := by
  obtain ⟨ag, gcap, rfl, -⟩ := _root_.id hG
  obtain ⟨am, mcap, rfl, -⟩ := _root_.id hM
  exact reset17_walk d.id d.c d.r d.m d.s ag am d.G.length gcap d.M.length mcap sh b w d.ok (vset sh d.G.length) (rsD d sh.toNat b)
    (Lib.hid fun W hW => checkSet_any d.id d.c d.r d.m d.s _ _ d.G d.M sh b W (hG.keep hW) (hM.keep hW))
    (Lib.hid fun h1 h2 W hW => reset50_any d _ _ sh b W (hG.keep hW) (hM.keep hW) h1 h2)

end Go.Proofs.YtkmcboincjohlaaGreat

/- Walks: Reset of the reference. -/
namespace Go.Proofs.YtkmcboincjohlaaGreat
open Go Go.RowKit Go.Proofs Go.Abs

end Go.Proofs.YtkmcboincjohlaaGreat

/- Walks: Shows and Marks of the reference. -/
namespace Go.Proofs.YtkmcboincjohlaaGreat
open Go Go.RowKit Go.Proofs Go.Abs

end Go.Proofs.YtkmcboincjohlaaGreat
