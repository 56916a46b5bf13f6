/- The abstract machine, part GrRC. -/
import Derived.Test.YtkmcboincjohlaaGreatGrRB
import Derived.Test.YtkmcboincjohlaaGreatGrLO
/- Walks: the reference's marks, shown by a setting. -/
namespace Go.Proofs.YtkmcboincjohlaaGreat
open Go Go.RowKit Go.Proofs

end Go.Proofs.YtkmcboincjohlaaGreat

/- Walks: marks shown, by the program and the reference, whatever the list. -/
namespace Go.Proofs.YtkmcboincjohlaaGreat
open Go Go.RowKit Go.Proofs

theorem vMs_ok {lo hi : Int} {M : List M3} (h : vMs lo hi M = true) : M.length ≤ 1000 ∧ ∀ k, k < M.length → (lo ≤ (mq M k).x ∧ (mq M k).x ≤ hi) ∧ 0 ≤ (mq M k).y ∧ (mq M k).y ≤ 16 := by
  unfold vMs at h
  simp only [Bool.and_eq_true, decide_eq_true_eq, Bool.not_eq_true'] at h
  obtain ⟨⟨h1, h2⟩, h3⟩ := h
  refine ⟨by omega, fun k hk => ?_⟩
  unfold badM at h2
  rw [List.any_eq_false] at h2
  have h4 := h2 k (List.mem_range.2 hk)
  simp only [Bool.not_eq_true, Bool.not_eq_false'] at h4
  unfold M3.ok wi at h4
  simp only [Bool.and_eq_true, decide_eq_true_eq] at h4
  omega

theorem run_nil_eqM (n c : Nat) (w : World) : (binOp .eql 38 (.slice none n c) (.slice none 0 0)).run Tryz.prog w = .ok (.bool true) w := by
  kernel_rfl
theorem run_append_none (g : Nat) (a : Addr) (cap : Nat) (w : World) : (Builtin.append_ #[23, 23] 23 #[.slice (some ⟨g, 0, none⟩) 0 0, .slice (some a) 0 cap]).run Tryz.prog w = .ok (.slice (some ⟨g, 0, none⟩) 0 0) w := by
  kernel_rfl

set_option maxRecDepth 100000 in
set_option maxHeartbeats 2000000 in
theorem cloneM_nil2 (n c : Nat) (w : World) : Calls Tryz.prog 65 #[.slice none n c] w fun e w' => e = .returned (.slice none 0 0) ∧ w' = w := by
  have NE := run_nil_eqM n c
  go_enter Tryz.func65, Tryz.ntmps65
  go_wp2_with fail
  refine bodyPost_ret (v := .slice none 0 0) ?_ rfl ⟨rfl, rfl⟩
  kernel_rfl

set_option maxRecDepth 100000 in
set_option maxHeartbeats 2000000 in
theorem cloneM_emp (a : Addr) (c : Nat) (w : World) : Calls Tryz.prog 65 #[.slice (some a) 0 c] w fun e w' => e = .returned (.slice (some ⟨w.heap.size, 0, none⟩) 0 0) ∧ w' = w.alloc (.cells #[] 59) := by
  have NE := run_nil_eqlM a 0 c
  have AP := run_append_none w.heap.size a c
  go_enter Tryz.func65, Tryz.ntmps65
  go_wp2_with (at_builtin; refine wpList_append_run (AP _) ?_)
  refine bodyPost_ret (v := .slice (some ⟨w.heap.size, 0, none⟩) 0 0) ?_ rfl ⟨rfl, rfl⟩
  first | rfl | kernel_rfl

set_option maxRecDepth 100000 in
set_option maxHeartbeats 4000000 in
theorem resetMarks_none (id c r m s : Int) (ag : Option Addr) (n gcap mc : Nat) (sh : Int) (b : Bool) (w : World) :
    Calls Tryz.prog 32 #[pcs id c r m s (.slice ag n gcap) (.slice none 0 mc), st sh b] w fun e w' => e = .returned (.slice none 0 0) ∧ Below w.heap.size w w' := by
  have p6 : ((w.alloc (pcsObj id c r m s (.slice ag n gcap) (.slice none 0 mc))).alloc (stObj sh b)).cell? ⟨w.heap.size, 6, none⟩ = some (.slice none 0 mc) :=
    cell_of ((alloc_heap_old _ _ (by simp)).trans (pcs_new w id c r m s _ _)) rfl
  have hbw : Below w.heap.size w ((w.alloc (pcsObj id c r m s (.slice ag n gcap) (.slice none 0 mc))).alloc (stObj sh b)) := ((Below.refl _ _).alloc (Nat.le_refl _) _).alloc (by simp) _
  go_enter Tryz.func32, Tryz.ntmps32
  go_wp2_with fail
  refine (cloneM_nil2 0 mc _).mono ?_
  rintro e w2 ⟨rfl, rfl⟩
  go_wp2_with fail
  generalize (w.alloc (pcsObj id c r m s (.slice ag n gcap) (.slice none 0 mc))).alloc (stObj sh b) = W0 at p6 hbw ⊢
  go_loopw [13] (fun i wr => i = .int .i64 0 ∧ wr = W0) (fun _ _ => 0)
  case atStart => exact ⟨rfl, rfl⟩
  case round =>
    obtain ⟨rfl, rfl⟩ := hrel
    go_wp2_with fail
    refine (sortMs_nil none 0 _).mono ?_
    rintro e w3 ⟨rfl, rfl⟩
    go_wp2
    refine bodyPost_ret (v := .slice none 0 0) ?_ rfl ⟨rfl, hbw⟩
    first | rfl | kernel_rfl

set_option maxRecDepth 100000 in
set_option maxHeartbeats 4000000 in
theorem resetMarks_emp (id c r m s : Int) (ag : Option Addr) (n gcap mc : Nat) (ma : Addr) (sh : Int) (b : Bool) (w : World) :
    Calls Tryz.prog 32 #[pcs id c r m s (.slice ag n gcap) (.slice (some ma) 0 mc), st sh b] w fun e w' => e = .returned (.slice (some ⟨w.heap.size + 2, 0, none⟩) 0 0) ∧ Below w.heap.size w w' := by
  have p6 : ((w.alloc (pcsObj id c r m s (.slice ag n gcap) (.slice (some ma) 0 mc))).alloc (stObj sh b)).cell? ⟨w.heap.size, 6, none⟩ = some (.slice (some ma) 0 mc) :=
    cell_of ((alloc_heap_old _ _ (by simp)).trans (pcs_new w id c r m s _ _)) rfl
  have hbw : Below w.heap.size w ((w.alloc (pcsObj id c r m s (.slice ag n gcap) (.slice (some ma) 0 mc))).alloc (stObj sh b)) := ((Below.refl _ _).alloc (Nat.le_refl _) _).alloc (by simp) _
  have hsz : ((w.alloc (pcsObj id c r m s (.slice ag n gcap) (.slice (some ma) 0 mc))).alloc (stObj sh b)).heap.size = w.heap.size + 2 := by simp
  go_enter Tryz.func32, Tryz.ntmps32
  go_wp2_with fail
  refine (cloneM_emp ma mc _).mono ?_
  rintro e w2 ⟨rfl, rfl⟩
  rw [hsz]
  go_wp2_with fail
  have hb2 := hbw.alloc (by rw [hsz]; omega) (.cells #[] 59)
  have hlt : w.heap.size + 2 < (((w.alloc (pcsObj id c r m s (.slice ag n gcap) (.slice (some ma) 0 mc))).alloc (stObj sh b)).alloc (.cells #[] 59)).heap.size := by simp
  generalize ((w.alloc (pcsObj id c r m s (.slice ag n gcap) (.slice (some ma) 0 mc))).alloc (stObj sh b)).alloc (.cells #[] 59) = W0 at hb2 hlt ⊢
  clear p6 hbw hsz
  go_loopw [13] (fun i wr => i = .int .i64 0 ∧ wr = W0) (fun _ _ => 0)
  case atStart => exact ⟨rfl, rfl⟩
  case round =>
    obtain ⟨rfl, rfl⟩ := hrel
    have CS := sortMs_any [] (w.heap.size + 2) 0 (w.heap.size + 2) wr ⟨hlt, fun j hj => absurd hj (by simp)⟩ (by simp) (Nat.le_refl _)
    rw [show ([] : List M3).length = 0 from rfl] at CS
    go_wp2_with fail
    refine CS.mono ?_
    rintro e w3 ⟨rfl, -, hb3⟩
    go_wp2
    refine bodyPost_ret (v := .slice (some ⟨w.heap.size + 2, 0, none⟩) 0 0) ?_ rfl ⟨rfl, hb2.trans (hb3.mono (by omega))⟩
    first | rfl | kernel_rfl

theorem shM_nil (n sh : Int) (b : Bool) : shM n sh b [] = [] := by simp [shM, sortM]
theorem shM_len (n sh : Int) (b : Bool) (M : List M3) : (shM n sh b M).length = M.length := by unfold shM; rw [sortM_len, List.length_map]

/-- A slice whose block is not older. -/
def Fr (B : Nat) (v : Value) : Prop := ∀ a n c, v = .slice (some a) n c → B ≤ a.block

/-- What both answer for the marks. -/
theorem resetMarks_any (id c r m s : Int) (ag : Option Addr) (n gcap : Nat) (vm : Value) (M : List M3) (sh : Int) (b : Bool) (w : World) (hM : SlM w vm M) (hs : vset sh (n : Nat) = true) (hv : vMs 0 ((n : Int) - 1) M = true) :
    Calls Tryz.prog 32 #[pcs id c r m s (.slice ag n gcap) vm, st sh b] w fun e w' => ∃ v', e = .returned v' ∧ SlM w' v' (shM n sh b M) ∧ Below w.heap.size w w' ∧ ∀ a n c, v' = .slice (some a) n c → w.heap.size ≤ a.block := by
  obtain ⟨hl, hx⟩ := vMs_ok hv
  by_cases h0 : M.length = 0
  · have e := List.eq_nil_of_length_eq_zero h0
    subst e
    obtain ⟨ma, mc, rfl, -, -⟩ := hM
    rw [shM_nil]
    cases ma with
    | none =>
      refine (resetMarks_none id c r m s ag n gcap mc sh b w).mono ?_
      rintro e w' ⟨rfl, hb⟩
      exact ⟨_, rfl, slm_nil _, hb, fun a n c h => by cases h⟩
    | some ma =>
      refine (resetMarks_emp id c r m s ag n gcap mc ma sh b w).mono ?_
      rintro e w' ⟨rfl, hb⟩
      exact ⟨_, rfl, ⟨_, _, rfl, by simp, fun k hk => absurd hk (by simp)⟩, hb, fun a n c h => by cases h; simp⟩
  · obtain ⟨bb, off, cap, rfl, hc⟩ := hM.cellM (by omega)
    have hx' : ∀ k, k < M.length → (0 ≤ (mq M k).x ∧ (mq M k).x < n) ∧ 0 ≤ (mq M k).y ∧ (mq M k).y ≤ 16 := fun k hk => by have := hx k hk; omega
    have key : Calls Tryz.prog 32 #[pcs id c r m s (.slice ag n gcap) (.slice (some ⟨bb, off, none⟩) M.length cap), st sh b] w fun e w' => ∃ g cap, e = .returned (.slice (some ⟨g, 0, none⟩) M.length cap) ∧ RowM w' g (shM n sh b M) ∧ Below w.heap.size w w' ∧ w.heap.size ≤ g := by
      cases b
      · exact resetMarks_F id c r m s ag n gcap bb off cap M sh w hc (by omega) (by omega) hs hx'
      · exact resetMarks_T id c r m s ag n gcap bb off cap M sh w hc (by omega) (by omega) hs hx'
    refine key.mono ?_
    rintro e w' ⟨g, cap', rfl, hR, hb, hgw⟩
    refine ⟨_, rfl, ?_, hb, fun a n c h => by cases h; exact hgw⟩
    have := hR.slm cap' (by rw [shM_len]; omega)
    rwa [shM_len] at this

end Go.Proofs.YtkmcboincjohlaaGreat

/- Walks: Shows and Marks of the program. -/
namespace Go.Proofs.YtkmcboincjohlaaGreat
open Go Go.RowKit Go.Proofs

/-- The error of a piece and a setting. -/
def setE (p q : Bool) : Int := if p = true then (if q = true then 0 else 1) else 30

/-- The cells of a piece and a setting, both boxed. -/
structure PcSt (w W : World) (id c r m s : Int) (vg vm : Value) (sh : Int) (b : Bool) : Prop where
  bel : Below w.heap.size w W
  siz : w.heap.size + 2 ≤ W.heap.size
  c0 : W.cell? ⟨w.heap.size, 0, none⟩ = some (.int .i64 id)
  c1 : W.cell? ⟨w.heap.size, 1, none⟩ = some (.int .i64 c)
  c2 : W.cell? ⟨w.heap.size, 2, none⟩ = some (.int .i64 r)
  c3 : W.cell? ⟨w.heap.size, 3, none⟩ = some (.int .i64 m)
  c4 : W.cell? ⟨w.heap.size, 4, none⟩ = some (.int .i64 s)
  c5 : W.cell? ⟨w.heap.size, 5, none⟩ = some vg
  c6 : W.cell? ⟨w.heap.size, 6, none⟩ = some vm
  s0 : W.cell? ⟨w.heap.size + 1, 0, none⟩ = some (.int .i64 sh)
  s1 : W.cell? ⟨w.heap.size + 1, 1, none⟩ = some (.bool b)

theorem PcSt.new (w : World) (id c r m s : Int) (vg vm : Value) (sh : Int) (b : Bool) : PcSt w ((w.alloc (pcsObj id c r m s vg vm)).alloc (stObj sh b)) id c r m s vg vm sh b := by
  obtain ⟨hp, hq⟩ := pcs_st w id c r m s vg vm sh b
  exact ⟨((Below.refl _ _).alloc (Nat.le_refl _) _).alloc (by simp) _, by simp, cell_of hp rfl, cell_of hp rfl, cell_of hp rfl, cell_of hp rfl, cell_of hp rfl, cell_of hp rfl, cell_of hp rfl, cell_of hq rfl, cell_of hq rfl⟩

theorem PcSt.keep {w W W' : World} {id c r m s : Int} {vg vm : Value} {sh : Int} {b : Bool} (h : PcSt w W id c r m s vg vm sh b) (hb : Below W.heap.size W W') : PcSt w W' id c r m s vg vm sh b :=
  ⟨keep_below h.bel hb, Nat.le_trans h.siz hb.size, keep_cell hb h.c0, keep_cell hb h.c1, keep_cell hb h.c2, keep_cell hb h.c3, keep_cell hb h.c4, keep_cell hb h.c5, keep_cell hb h.c6, keep_cell hb h.s0, keep_cell hb h.s1⟩

set_option maxRecDepth 100000 in
set_option maxHeartbeats 4000000 in
theorem shows19_any (id c r m s : Int) (vg vm : Value) (G : List G5) (M : List M3) (sh : Int) (b : Bool) (w : World) (hG : SlG w vg G) (hM : SlM w vm M) :
    Calls Tryz.prog 15 #[pcs id c r m s vg vm, st sh b] w fun e w' => e = .returned (.tuple #[.int .i64 (if vP id c r m s G M && vset sh G.length then (if b then r else c) else 0), .int .i64 (setE (vP id c r m s G M) (vset sh G.length))]) ∧ Below w.heap.size w w' := by
  have P0 := PcSt.new w id c r m s vg vm sh b
  have CS := checkSet_any id c r m s vg vm G M sh b _ (hG.keep P0.bel) (hM.keep P0.bel)
  obtain ⟨ag, gcap, rfl, -, -⟩ := hG
  obtain ⟨am, mcap, rfl, -, -⟩ := hM
  generalize vP id c r m s G M = p at CS ⊢
  generalize vset sh G.length = q at CS ⊢
  generalize G.length = n at P0 CS ⊢
  generalize M.length = l at P0 CS ⊢
  obtain ⟨W0, hW0⟩ : ∃ W0, (w.alloc (pcsObj id c r m s (.slice ag n gcap) (.slice am l mcap))).alloc (stObj sh b) = W0 := ⟨_, rfl⟩
  rw [hW0] at P0 CS
  obtain ⟨-, -, c0, c1, c2, c3, c4, c5, c6, s0, s1⟩ := _root_.id P0
  cases p <;> cases q <;> cases b
  all_goals go_enter Tryz.func15, Tryz.ntmps15
  all_goals go_wp2_with (go_at_call 30; with_reducible refine CS.mono ?_; rintro e w1 ⟨rfl, hb⟩
                         have P1 := P0.keep hb
                         obtain ⟨b1, -, d0, d1, d2, d3, d4, d5, d6, t0, t1⟩ := P1)
  all_goals go_ret2
  all_goals exact ⟨rfl, b1⟩

theorem vP_marks {id c r m s : Int} {G : List G5} {M : List M3} (h : vP id c r m s G M = true) : vGs G = true ∧ vMs 0 ((G.length : Int) - 1) M = true := by
  unfold vP at h
  simp only [Bool.and_eq_true] at h
  exact ⟨h.1.2, h.2⟩

/-- What Marks answers. -/
def MarS (ok : Bool) (n : Int) (sh : Int) (b : Bool) (M : List M3) (W : World) (v : Value) : Prop :=
  if ok = true then SlM W v (shM n sh b M) else v = .slice none 0 0

set_option maxRecDepth 100000 in
set_option maxHeartbeats 4000000 in
theorem marks21_any (id c r m s : Int) (vg vm : Value) (G : List G5) (M : List M3) (sh : Int) (b : Bool) (w : World) (hG : SlG w vg G) (hM : SlM w vm M) :
    Calls Tryz.prog 16 #[pcs id c r m s vg vm, st sh b] w fun e w' => ∃ v, e = .returned (.tuple #[v, .int .i64 (setE (vP id c r m s G M) (vset sh G.length))]) ∧ MarS (vP id c r m s G M && vset sh G.length) G.length sh b M w' v ∧ Below w.heap.size w w' := by
  have P0 := PcSt.new w id c r m s vg vm sh b
  have CS := checkSet_any id c r m s vg vm G M sh b _ (hG.keep P0.bel) (hM.keep P0.bel)
  obtain ⟨ag, gcap, hvg⟩ := hG.shape
  have CR : vP id c r m s G M = true → vset sh G.length = true → ∀ W, Below w.heap.size w W → Calls Tryz.prog 32 #[pcs id c r m s vg vm, st sh b] W fun e w' => ∃ v', e = .returned v' ∧ MarS true G.length sh b M w' v' ∧ Below W.heap.size W w' := fun h1 h2 W hW => by
    rw [hvg]
    refine (resetMarks_any id c r m s ag G.length gcap vm M sh b W (hM.keep hW) h2 (vP_marks h1).2).mono ?_
    rintro e w' ⟨v', he, h3, hb, -⟩
    exact ⟨v', he, h3, hb⟩
  have HCR := Lib.hid CR
  clear CR hvg
  obtain ⟨ag, gcap, rfl, -, -⟩ := hG
  obtain ⟨am, mcap, rfl, -, -⟩ := hM
  have MN : ∀ W, MarS false G.length sh b M W (.slice none 0 0) := fun W => rfl
  have HMN := Lib.hid MN
  clear MN
  generalize vP id c r m s G M = p at CS HCR ⊢
  generalize vset sh G.length = q at CS HCR ⊢
  obtain ⟨R, hR⟩ : ∃ R : Bool → World → Value → Prop, R = fun o => MarS o G.length sh b M := ⟨_, rfl⟩
  have e1 : ∀ o W v, MarS o G.length sh b M W v = R o W v := fun o W v => by rw [hR]
  simp only [e1] at HCR HMN ⊢
  clear e1 hR
  generalize G.length = n at P0 CS HCR ⊢
  generalize M.length = l at P0 CS HCR ⊢
  obtain ⟨W0, hW0⟩ : ∃ W0, (w.alloc (pcsObj id c r m s (.slice ag n gcap) (.slice am l mcap))).alloc (stObj sh b) = W0 := ⟨_, rfl⟩
  rw [hW0] at P0 CS
  obtain ⟨-, -, c0, c1, c2, c3, c4, c5, c6, s0, s1⟩ := _root_.id P0
  cases p <;> cases q
  case true.true =>
    have CR := HCR.out rfl rfl
    clear HCR
    go_enter Tryz.func16, Tryz.ntmps16
    go_wp2_with (first
      | (go_at_call 30; with_reducible refine CS.mono ?_; rintro e w1 ⟨rfl, hb⟩
         have P1 := P0.keep hb
         obtain ⟨b1, -, d0, d1, d2, d3, d4, d5, d6, t0, t1⟩ := P1)
      | (go_at_call 32; with_reducible refine (CR _ b1).mono ?_; rintro e w2 ⟨v2, rfl, hv2, hb2⟩))
    go_ret2
    exact ⟨_, rfl, hv2, keep_below b1 hb2⟩
  all_goals clear HCR
  all_goals go_enter Tryz.func16, Tryz.ntmps16
  all_goals go_wp2_with (go_at_call 30; with_reducible refine CS.mono ?_; rintro e w1 ⟨rfl, hb⟩
                         have P1 := P0.keep hb
                         obtain ⟨b1, -, d0, d1, d2, d3, d4, d5, d6, t0, t1⟩ := P1)
  all_goals go_ret2
  all_goals exact ⟨_, rfl, HMN.out _, b1⟩

end Go.Proofs.YtkmcboincjohlaaGreat
