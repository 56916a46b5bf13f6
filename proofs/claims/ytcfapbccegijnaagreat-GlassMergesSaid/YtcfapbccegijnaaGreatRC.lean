/- The abstract machine, part RC. -/
import Derived.Test.YtcfapbccegijnaaGreatRB
import Derived.Test.YtcfapbccegijnaaGreatLO
/- Walks: the reference's marks, shown by a setting. -/
namespace Go.Proofs.YtcfapbccegijnaaGreat
open Go Go.RowKit Go.Proofs

theorem mv_take_succ (D : List M3) {k : Nat} (h : k < D.length) : mv (D.take (k + 1)) = mv (D.take k) ++ mv1 (mq D k) := by
  rw [List.take_add_one, List.getElem?_eq_getElem h, ← mq_get h]
  simp [mv]

theorem mq_map (f : M3 → M3) (D : List M3) {k : Nat} (h : k < D.length) : mq (D.map f) k = f (mq D k) := by
  rw [mq_get (by simpa using h), mq_get h]
  simp

set_option maxRecDepth 100000 in
set_option maxHeartbeats 8000000 in
theorem shown_F (M : List M3) (b off cap n : Nat) (sh : Int) (w : World) (hM : ∀ j, j < M.length * 3 → w.cell? ⟨b, off + j, none⟩ = some (mcell M j)) (h0 : 0 < M.length) (hl : M.length ≤ 1000)
    (hs : vset sh (n : Nat) = true) (hx : ∀ k, k < M.length → (0 ≤ (mq M k).x ∧ (mq M k).x < n) ∧ 0 ≤ (mq M k).y ∧ (mq M k).y ≤ 16) :
    Calls Tryz.prog 99 #[.slice (some ⟨b, off, none⟩) M.length cap, st sh false, .int .i64 n] w fun e w' => ∃ v', e = .returned v' ∧ IsM w' w.heap.size v' (shM n sh false M) ∧ Below w.heap.size w w' := by
  obtain ⟨i0, hi, hz0, hz1, hz2⟩ := info_parts info61
  have hh := hs
  simp only [vset, Bool.and_eq_true, decide_eq_true_eq] at hh
  obtain ⟨⟨⟨a1, a2⟩, a3⟩, a4⟩ := hh
  have HC := Lib.hid (fun (k : Nat) (hk : k < M.length) => (show w.cell? ⟨b, off + k * 3, none⟩ = some (.int .i64 (mq M k).x) ∧ w.cell? ⟨b, off + k * 3 + 1, none⟩ = some (.int .i64 (mq M k).y) ∧ w.cell? ⟨b, off + k * 3 + 2, none⟩ = some (.int .i64 (mq M k).z) from
    ⟨by rw [hM _ (by omega), mcell_0], by rw [Nat.add_assoc, hM _ (by omega), mcell_1], by rw [Nat.add_assoc, hM _ (by omega), mcell_2]⟩))
  have C2 := Lib.hid (fun (k : Nat) (hk : k < M.length) w => laid_any sh n (mq M k).x false w a1 a2 a3 a4 (hx k hk).1.1 (hx k hk).1.2)
  have HX := Lib.hid hx
  obtain ⟨D, hD⟩ : ∃ D, M.map (setM n sh false) = D := ⟨_, rfl⟩
  have hDl : D.length = M.length := by rw [← hD]; simp
  have STEP := Lib.hid (fun (k : Nat) (hk : k < M.length) => (show mv (D.take (k + 1)) = mv (D.take k) ++ [.int .i64 (Plain.ed sh false n (mq M k).x), .int .i64 ((mq M k).y), .int .i64 (mq M k).z] by
    rw [mv_take_succ D (by omega), ← hD, mq_map _ _ hk]; rfl))
  have FIN := Lib.hid (show ∀ v W, W.ownsRow w.heap.size 78 3 v M.length (mv (D.take M.length)) → Calls Tryz.prog 148 #[v] W fun e w' => ∃ v', e = .returned v' ∧ IsM w' W.heap.size v' (shM n sh false M) ∧ Below W.heap.size W w' from fun v W hW => by
    rw [List.take_of_length_le (by omega)] at hW
    have := inOrder_any D v W (own_slm hW hDl (by omega)) (by omega)
    rw [← hD] at this
    exact this)
  obtain ⟨W0, hW0⟩ : ∃ W0, w.alloc (stObj sh false) = W0 := ⟨_, rfl⟩
  have q0 : W0.cell? ⟨w.heap.size, 0, none⟩ = some (.int .i64 sh) := by rw [← hW0]; exact (st_new w sh false).1
  have q1 : W0.cell? ⟨w.heap.size, 1, none⟩ = some (.bool false) := by rw [← hW0]; exact (st_new w sh false).2
  have hbw : Below w.heap.size w W0 := by rw [← hW0]; exact (Below.refl _ _).alloc (Nat.le_refl _) _
  have HSZ := Lib.hid (show W0.heap.size = w.heap.size + 1 by rw [← hW0]; simp)
  have HBW := Lib.hid hbw
  have HSH := Lib.hid (show ∀ W v L, Below w.heap.size w W → IsM W W.heap.size v L → IsM W w.heap.size v L from fun W v L hb h => by
    rcases h with h | ⟨g, c, e1, e2, e3, e4, e5⟩
    · exact .inl h
    · exact .inr ⟨g, c, e1, e2, Nat.le_trans hb.size e3, e4, e5⟩)
  clear hM hs hx hD a1 a2 a3 a4 hbw hDl
  obtain ⟨l, hll⟩ : ∃ l, M.length = l := ⟨_, rfl⟩
  rw [hll] at HC C2 HX STEP FIN h0 hl ⊢
  clear hll
  go_enter Tryz.func99, Tryz.ntmps99
  go_wp2_with fail
  clear hW0
  go_loopw [7, 8] (fun sv i wr => ∃ k : Nat, k ≤ l ∧ i = .int .i64 k ∧ wr.ownsRow W0.heap.size 78 3 sv k (mv (D.take k)) ∧ Below W0.heap.size W0 wr) (fun _ i _ => l - (intOf i).toNat)
  case atStart => exact ⟨0, Nat.zero_le _, rfl, World.ownsRow_nil _ _ _ _, Below.refl _ _⟩
  case round =>
    obtain ⟨k, hk, rfl, hown, hbel⟩ := hrel
    by_cases hlt : k < l
    · have j1 : (k : Int) < (l : Int) := by omega
      have hwr := HBW.out.trans (hbel.mono (by have := HSZ.out; omega))
      obtain ⟨c0, c1, c2⟩ := HC.out k hlt
      replace c0 := keep_cell hwr c0
      replace c1 := keep_cell hwr c1
      replace c2 := keep_cell hwr c2
      have ST := STEP.out k hlt
      obtain ⟨x1, y1⟩ := HX.out k hlt
      have EC := C2.out k hlt
      replace q0 := keep_cell hbel q0
      replace q1 := keep_cell hbel q1
      have U : IntKind.i64.wrap (16 - (mq M k).y) = 16 - (mq M k).y := wi64 _ (by omega)
      generalize (mq M k).x = mx at c0 EC x1 ST
      generalize (mq M k).y = my at c1 U y1 ST
      generalize (mq M k).z = mz at c2 ST
      generalize Plain.ed sh false n mx = ex at EC ST
      have HST := Lib.hid ST
      have bM : Below wr.heap.size wr (wr.alloc (Obj.cells #[Value.int IntKind.i64 mx, Value.int IntKind.i64 my, Value.int IntKind.i64 mz] 78)) := (Below.refl _ _).alloc (Nat.le_refl _) _
      have q0m := keep_cell bM q0
      have q1m := keep_cell bM q1
      clear bM ST
      go_wp2_with fail
      refine (EC _).mono ?_
      rintro e w3 ⟨rfl, hb3⟩
      have bA : Below wr.heap.size wr w3 := keep_below ((Below.refl _ _).alloc (Nat.le_refl _) _) hb3
      have bx := (BoxS.new 78 wr #[Value.int IntKind.i64 mx, Value.int IntKind.i64 my, Value.int IntKind.i64 mz]).keep hb3
      have d0 := bx.cell (o := 0) rfl
      have d1 := bx.cell (o := 1) rfl
      have d2 := bx.cell (o := 2) rfl
      have f0 := bx.frozen 0
      have f1 := bx.frozen 1
      replace q1 := keep_cell bA q1
      have bX : Below wr.heap.size wr (w3.setCell ⟨wr.heap.size, 0, none⟩ (.int .i64 ex)) := bA.setCell (Nat.le_refl _) _
      have own3 := own_keep hown bX
      have belX := keep_below hbel bX
      have hne : w.heap.size ≠ wr.heap.size := by have := HSZ.out; have := hbel.size; omega
      clear EC hb3 c0 c1 c2 q0 q0m q1m bA bx
      go_wp2_with (at_builtin; refine wpList_append_own _ rfl _ _ 23 rfl W0.heap.size 78 i0 (mk 0 0 0) 3 24 Tryz.underlying23 hi hz0 hz1 hz2 rfl (by decide) _ _ _ rfl (own3.alloc _) _ 1 1 [.int .i64 ex, .int .i64 (my), .int .i64 mz] rfl rfl (three_at _ _ _ _ _ (by simp)) (three_cells _ _ _) (by unfold maxLen; omega) (by omega) (by have := belX.size; simp at this ⊢; omega) ?_; intro v4 w4 own4 gr4 nil4)
      have bel4 := (belX.alloc belX.size (mkObj ex (my) mz)).grown gr4 (by have := belX.size; simp at this ⊢; omega) (fun j hj => (own3.lt j hj).1)
      rw [← HST.out] at own4
      exact ⟨⟨k + 1, by omega, by simp, own4, bel4⟩, by simp [intOf]; omega⟩
    · obtain rfl : k = l := by omega
      have hwr := HBW.out.trans (hbel.mono (by have := HSZ.out; omega))
      have FN := FIN.out _ wr (own_base hown (by have := HSZ.out; omega))
      go_wp2_with fail
      refine FN.mono ?_
      rintro e w3 ⟨v', rfl, h1, hb3⟩
      go_wp2
      go_ret
      have hb := keep_below hwr hb3
      refine ⟨v', rfl, ?_, hb⟩
      rcases h1 with h | ⟨g, c, e1, e2, e3, e4, e5⟩
      · exact .inl h
      · exact .inr ⟨g, c, e1, e2, Nat.le_trans hwr.size e3, e4, e5⟩

set_option maxRecDepth 100000 in
set_option maxHeartbeats 8000000 in
theorem shown_T (M : List M3) (b off cap n : Nat) (sh : Int) (w : World) (hM : ∀ j, j < M.length * 3 → w.cell? ⟨b, off + j, none⟩ = some (mcell M j)) (h0 : 0 < M.length) (hl : M.length ≤ 1000)
    (hs : vset sh (n : Nat) = true) (hx : ∀ k, k < M.length → (0 ≤ (mq M k).x ∧ (mq M k).x < n) ∧ 0 ≤ (mq M k).y ∧ (mq M k).y ≤ 16) :
    Calls Tryz.prog 99 #[.slice (some ⟨b, off, none⟩) M.length cap, st sh true, .int .i64 n] w fun e w' => ∃ v', e = .returned v' ∧ IsM w' w.heap.size v' (shM n sh true M) ∧ Below w.heap.size w w' := by
  obtain ⟨i0, hi, hz0, hz1, hz2⟩ := info_parts info61
  have hh := hs
  simp only [vset, Bool.and_eq_true, decide_eq_true_eq] at hh
  obtain ⟨⟨⟨a1, a2⟩, a3⟩, a4⟩ := hh
  have HC := Lib.hid (fun (k : Nat) (hk : k < M.length) => (show w.cell? ⟨b, off + k * 3, none⟩ = some (.int .i64 (mq M k).x) ∧ w.cell? ⟨b, off + k * 3 + 1, none⟩ = some (.int .i64 (mq M k).y) ∧ w.cell? ⟨b, off + k * 3 + 2, none⟩ = some (.int .i64 (mq M k).z) from
    ⟨by rw [hM _ (by omega), mcell_0], by rw [Nat.add_assoc, hM _ (by omega), mcell_1], by rw [Nat.add_assoc, hM _ (by omega), mcell_2]⟩))
  have C2 := Lib.hid (fun (k : Nat) (hk : k < M.length) w => laid_any sh n (mq M k).x true w a1 a2 a3 a4 (hx k hk).1.1 (hx k hk).1.2)
  have HX := Lib.hid hx
  obtain ⟨D, hD⟩ : ∃ D, M.map (setM n sh true) = D := ⟨_, rfl⟩
  have hDl : D.length = M.length := by rw [← hD]; simp
  have STEP := Lib.hid (fun (k : Nat) (hk : k < M.length) => (show mv (D.take (k + 1)) = mv (D.take k) ++ [.int .i64 (Plain.ed sh true n (mq M k).x), .int .i64 (16 - (mq M k).y), .int .i64 (mq M k).z] by
    rw [mv_take_succ D (by omega), ← hD, mq_map _ _ hk]; rfl))
  have FIN := Lib.hid (show ∀ v W, W.ownsRow w.heap.size 78 3 v M.length (mv (D.take M.length)) → Calls Tryz.prog 148 #[v] W fun e w' => ∃ v', e = .returned v' ∧ IsM w' W.heap.size v' (shM n sh true M) ∧ Below W.heap.size W w' from fun v W hW => by
    rw [List.take_of_length_le (by omega)] at hW
    have := inOrder_any D v W (own_slm hW hDl (by omega)) (by omega)
    rw [← hD] at this
    exact this)
  obtain ⟨W0, hW0⟩ : ∃ W0, w.alloc (stObj sh true) = W0 := ⟨_, rfl⟩
  have q0 : W0.cell? ⟨w.heap.size, 0, none⟩ = some (.int .i64 sh) := by rw [← hW0]; exact (st_new w sh true).1
  have q1 : W0.cell? ⟨w.heap.size, 1, none⟩ = some (.bool true) := by rw [← hW0]; exact (st_new w sh true).2
  have hbw : Below w.heap.size w W0 := by rw [← hW0]; exact (Below.refl _ _).alloc (Nat.le_refl _) _
  have HSZ := Lib.hid (show W0.heap.size = w.heap.size + 1 by rw [← hW0]; simp)
  have HBW := Lib.hid hbw
  have HSH := Lib.hid (show ∀ W v L, Below w.heap.size w W → IsM W W.heap.size v L → IsM W w.heap.size v L from fun W v L hb h => by
    rcases h with h | ⟨g, c, e1, e2, e3, e4, e5⟩
    · exact .inl h
    · exact .inr ⟨g, c, e1, e2, Nat.le_trans hb.size e3, e4, e5⟩)
  clear hM hs hx hD a1 a2 a3 a4 hbw hDl
  obtain ⟨l, hll⟩ : ∃ l, M.length = l := ⟨_, rfl⟩
  rw [hll] at HC C2 HX STEP FIN h0 hl ⊢
  clear hll
  go_enter Tryz.func99, Tryz.ntmps99
  go_wp2_with fail
  clear hW0
  go_loopw [7, 8] (fun sv i wr => ∃ k : Nat, k ≤ l ∧ i = .int .i64 k ∧ wr.ownsRow W0.heap.size 78 3 sv k (mv (D.take k)) ∧ Below W0.heap.size W0 wr) (fun _ i _ => l - (intOf i).toNat)
  case atStart => exact ⟨0, Nat.zero_le _, rfl, World.ownsRow_nil _ _ _ _, Below.refl _ _⟩
  case round =>
    obtain ⟨k, hk, rfl, hown, hbel⟩ := hrel
    by_cases hlt : k < l
    · have j1 : (k : Int) < (l : Int) := by omega
      have hwr := HBW.out.trans (hbel.mono (by have := HSZ.out; omega))
      obtain ⟨c0, c1, c2⟩ := HC.out k hlt
      replace c0 := keep_cell hwr c0
      replace c1 := keep_cell hwr c1
      replace c2 := keep_cell hwr c2
      have ST := STEP.out k hlt
      obtain ⟨x1, y1⟩ := HX.out k hlt
      have EC := C2.out k hlt
      replace q0 := keep_cell hbel q0
      replace q1 := keep_cell hbel q1
      have U : IntKind.i64.wrap (16 - (mq M k).y) = 16 - (mq M k).y := wi64 _ (by omega)
      generalize (mq M k).x = mx at c0 EC x1 ST
      generalize (mq M k).y = my at c1 U y1 ST
      generalize (mq M k).z = mz at c2 ST
      generalize Plain.ed sh true n mx = ex at EC ST
      have HST := Lib.hid ST
      have bM : Below wr.heap.size wr (wr.alloc (Obj.cells #[Value.int IntKind.i64 mx, Value.int IntKind.i64 my, Value.int IntKind.i64 mz] 78)) := (Below.refl _ _).alloc (Nat.le_refl _) _
      have q0m := keep_cell bM q0
      have q1m := keep_cell bM q1
      clear bM ST
      go_wp2_with fail
      refine (EC _).mono ?_
      rintro e w3 ⟨rfl, hb3⟩
      have bA : Below wr.heap.size wr w3 := keep_below ((Below.refl _ _).alloc (Nat.le_refl _) _) hb3
      have bx := (BoxS.new 78 wr #[Value.int IntKind.i64 mx, Value.int IntKind.i64 my, Value.int IntKind.i64 mz]).keep hb3
      have d0 := bx.cell (o := 0) rfl
      have d1 := bx.cell (o := 1) rfl
      have d2 := bx.cell (o := 2) rfl
      have f0 := bx.frozen 0
      have f1 := bx.frozen 1
      replace q1 := keep_cell bA q1
      have bX : Below wr.heap.size wr ((w3.setCell ⟨wr.heap.size, 0, none⟩ (.int .i64 ex)).setCell ⟨wr.heap.size, 1, none⟩ (.int .i64 (16 - my))) := (bA.setCell (Nat.le_refl _) _).setCell (Nat.le_refl _) _
      have own3 := own_keep hown bX
      have belX := keep_below hbel bX
      have hne : w.heap.size ≠ wr.heap.size := by have := HSZ.out; have := hbel.size; omega
      clear EC hb3 c0 c1 c2 q0 q0m q1m bA bx
      go_wp2_with (at_builtin; refine wpList_append_own _ rfl _ _ 23 rfl W0.heap.size 78 i0 (mk 0 0 0) 3 24 Tryz.underlying23 hi hz0 hz1 hz2 rfl (by decide) _ _ _ rfl (own3.alloc _) _ 1 1 [.int .i64 ex, .int .i64 (16 - my), .int .i64 mz] rfl rfl (three_at _ _ _ _ _ (by simp)) (three_cells _ _ _) (by unfold maxLen; omega) (by omega) (by have := belX.size; simp at this ⊢; omega) ?_; intro v4 w4 own4 gr4 nil4)
      have bel4 := (belX.alloc belX.size (mkObj ex (16 - my) mz)).grown gr4 (by have := belX.size; simp at this ⊢; omega) (fun j hj => (own3.lt j hj).1)
      rw [← HST.out] at own4
      exact ⟨⟨k + 1, by omega, by simp, own4, bel4⟩, by simp [intOf]; omega⟩
    · obtain rfl : k = l := by omega
      have hwr := HBW.out.trans (hbel.mono (by have := HSZ.out; omega))
      have FN := FIN.out _ wr (own_base hown (by have := HSZ.out; omega))
      go_wp2_with fail
      refine FN.mono ?_
      rintro e w3 ⟨v', rfl, h1, hb3⟩
      go_wp2
      go_ret
      have hb := keep_below hwr hb3
      refine ⟨v', rfl, ?_, hb⟩
      rcases h1 with h | ⟨g, c, e1, e2, e3, e4, e5⟩
      · exact .inl h
      · exact .inr ⟨g, c, e1, e2, Nat.le_trans hwr.size e3, e4, e5⟩

end Go.Proofs.YtcfapbccegijnaaGreat

/- Walks: marks shown, by the program and the reference, whatever the list. -/
namespace Go.Proofs.YtcfapbccegijnaaGreat
open Go Go.RowKit Go.Proofs

theorem vMs_ok {lo hi : Int} {M : List M3} (h : vMs lo hi M = true) : M.length ≤ 1000 ∧ ∀ k, k < M.length → (lo ≤ (mq M k).x ∧ (mq M k).x ≤ hi) ∧ 0 ≤ (mq M k).y ∧ (mq M k).y ≤ 16 := by
  unfold vMs at h
  simp only [Bool.and_eq_true, decide_eq_true_eq, Bool.not_eq_true'] at h
  obtain ⟨⟨h1, h2⟩, h3⟩ := h
  refine ⟨by omega, fun k hk => ?_⟩
  unfold badM at h2
  rw [List.any_eq_false] at h2
  have h4 := h2 k (List.mem_range.2 hk)
  simp only [Bool.not_eq_true, Bool.not_eq_false'] at h4
  unfold M3.ok wi at h4
  simp only [Bool.and_eq_true, decide_eq_true_eq] at h4
  omega

theorem run_nil_eqM (n c : Nat) (w : World) : (binOp .eql 23 (.slice none n c) (.slice none 0 0)).run Tryz.prog w = .ok (.bool true) w := by
  kernel_rfl
theorem run_append_none (g : Nat) (a : Addr) (cap : Nat) (w : World) : (Builtin.append_ #[23, 23] 23 #[.slice (some ⟨g, 0, none⟩) 0 0, .slice (some a) 0 cap]).run Tryz.prog w = .ok (.slice (some ⟨g, 0, none⟩) 0 0) w := by
  kernel_rfl

set_option maxRecDepth 100000 in
set_option maxHeartbeats 2000000 in
theorem cloneM_nil2 (n c : Nat) (w : World) : Calls Tryz.prog 59 #[.slice none n c] w fun e w' => e = .returned (.slice none 0 0) ∧ w' = w := by
  have NE := run_nil_eqM n c
  go_enter Tryz.func59, Tryz.ntmps59
  go_wp2_with fail
  refine bodyPost_ret (v := .slice none 0 0) ?_ rfl ⟨rfl, rfl⟩
  kernel_rfl

set_option maxRecDepth 100000 in
set_option maxHeartbeats 2000000 in
theorem cloneM_emp (a : Addr) (c : Nat) (w : World) : Calls Tryz.prog 59 #[.slice (some a) 0 c] w fun e w' => e = .returned (.slice (some ⟨w.heap.size, 0, none⟩) 0 0) ∧ w' = w.alloc (.cells #[] 78) := by
  have NE := run_nil_eqlM a 0 c
  have AP := run_append_none w.heap.size a c
  go_enter Tryz.func59, Tryz.ntmps59
  go_wp2_with (at_builtin; refine wpList_append_run (AP _) ?_)
  refine bodyPost_ret (v := .slice (some ⟨w.heap.size, 0, none⟩) 0 0) ?_ rfl ⟨rfl, rfl⟩
  first | rfl | kernel_rfl

set_option maxRecDepth 100000 in
set_option maxHeartbeats 4000000 in
theorem resetMarks_none (id c r m s : Int) (ag : Option Addr) (n gcap mc : Nat) (sh : Int) (b : Bool) (w : World) :
    Calls Tryz.prog 52 #[pcs id c r m s (.slice ag n gcap) (.slice none 0 mc), st sh b] w fun e w' => e = .returned (.slice none 0 0) ∧ Below w.heap.size w w' := by
  have p6 : ((w.alloc (pcsObj id c r m s (.slice ag n gcap) (.slice none 0 mc))).alloc (stObj sh b)).cell? ⟨w.heap.size, 6, none⟩ = some (.slice none 0 mc) :=
    cell_of ((alloc_heap_old _ _ (by simp)).trans (pcs_new w id c r m s _ _)) rfl
  have hbw : Below w.heap.size w ((w.alloc (pcsObj id c r m s (.slice ag n gcap) (.slice none 0 mc))).alloc (stObj sh b)) := ((Below.refl _ _).alloc (Nat.le_refl _) _).alloc (by simp) _
  go_enter Tryz.func52, Tryz.ntmps52
  go_wp2_with fail
  refine (cloneM_nil2 0 mc _).mono ?_
  rintro e w2 ⟨rfl, rfl⟩
  go_wp2_with fail
  generalize (w.alloc (pcsObj id c r m s (.slice ag n gcap) (.slice none 0 mc))).alloc (stObj sh b) = W0 at p6 hbw ⊢
  go_loopw [13] (fun i wr => i = .int .i64 0 ∧ wr = W0) (fun _ _ => 0)
  case atStart => exact ⟨rfl, rfl⟩
  case round =>
    obtain ⟨rfl, rfl⟩ := hrel
    go_wp2_with fail
    refine (sortMs_nil none 0 _).mono ?_
    rintro e w3 ⟨rfl, rfl⟩
    go_wp2
    refine bodyPost_ret (v := .slice none 0 0) ?_ rfl ⟨rfl, hbw⟩
    first | rfl | kernel_rfl

set_option maxRecDepth 100000 in
set_option maxHeartbeats 4000000 in
theorem resetMarks_emp (id c r m s : Int) (ag : Option Addr) (n gcap mc : Nat) (ma : Addr) (sh : Int) (b : Bool) (w : World) :
    Calls Tryz.prog 52 #[pcs id c r m s (.slice ag n gcap) (.slice (some ma) 0 mc), st sh b] w fun e w' => e = .returned (.slice (some ⟨w.heap.size + 2, 0, none⟩) 0 0) ∧ Below w.heap.size w w' := by
  have p6 : ((w.alloc (pcsObj id c r m s (.slice ag n gcap) (.slice (some ma) 0 mc))).alloc (stObj sh b)).cell? ⟨w.heap.size, 6, none⟩ = some (.slice (some ma) 0 mc) :=
    cell_of ((alloc_heap_old _ _ (by simp)).trans (pcs_new w id c r m s _ _)) rfl
  have hbw : Below w.heap.size w ((w.alloc (pcsObj id c r m s (.slice ag n gcap) (.slice (some ma) 0 mc))).alloc (stObj sh b)) := ((Below.refl _ _).alloc (Nat.le_refl _) _).alloc (by simp) _
  have hsz : ((w.alloc (pcsObj id c r m s (.slice ag n gcap) (.slice (some ma) 0 mc))).alloc (stObj sh b)).heap.size = w.heap.size + 2 := by simp
  go_enter Tryz.func52, Tryz.ntmps52
  go_wp2_with fail
  refine (cloneM_emp ma mc _).mono ?_
  rintro e w2 ⟨rfl, rfl⟩
  rw [hsz]
  go_wp2_with fail
  have hb2 := hbw.alloc (by rw [hsz]; omega) (.cells #[] 78)
  have hlt : w.heap.size + 2 < (((w.alloc (pcsObj id c r m s (.slice ag n gcap) (.slice (some ma) 0 mc))).alloc (stObj sh b)).alloc (.cells #[] 78)).heap.size := by simp
  generalize ((w.alloc (pcsObj id c r m s (.slice ag n gcap) (.slice (some ma) 0 mc))).alloc (stObj sh b)).alloc (.cells #[] 78) = W0 at hb2 hlt ⊢
  clear p6 hbw hsz
  go_loopw [13] (fun i wr => i = .int .i64 0 ∧ wr = W0) (fun _ _ => 0)
  case atStart => exact ⟨rfl, rfl⟩
  case round =>
    obtain ⟨rfl, rfl⟩ := hrel
    have CS := sortMs_any [] (w.heap.size + 2) 0 (w.heap.size + 2) wr ⟨hlt, fun j hj => absurd hj (by simp)⟩ (by simp) (Nat.le_refl _)
    rw [show ([] : List M3).length = 0 from rfl] at CS
    go_wp2_with fail
    refine CS.mono ?_
    rintro e w3 ⟨rfl, -, hb3⟩
    go_wp2
    refine bodyPost_ret (v := .slice (some ⟨w.heap.size + 2, 0, none⟩) 0 0) ?_ rfl ⟨rfl, hb2.trans (hb3.mono (by omega))⟩
    first | rfl | kernel_rfl

set_option maxRecDepth 100000 in
set_option maxHeartbeats 4000000 in
theorem shown_none (a : Option Addr) (cap : Nat) (sh n : Int) (b : Bool) (w : World) :
    Calls Tryz.prog 99 #[.slice a 0 cap, st sh b, .int .i64 n] w fun e w' => e = .returned (.slice none 0 0) ∧ Below w.heap.size w w' := by
  go_enter Tryz.func99, Tryz.ntmps99
  go_wp2_with fail
  have hbw : Below w.heap.size w (w.alloc (stObj sh b)) := (Below.refl _ _).alloc (Nat.le_refl _) _
  generalize w.alloc (stObj sh b) = W0 at hbw ⊢
  go_loopw [7, 8] (fun sv i wr => sv = .slice none 0 0 ∧ i = .int .i64 0 ∧ wr = W0) (fun _ _ _ => 0)
  case atStart => exact ⟨rfl, rfl, rfl⟩
  case round =>
    obtain ⟨rfl, rfl, rfl⟩ := hrel
    go_wp2_with fail
    refine (inOrder_none none 0 _).mono ?_
    rintro e w3 ⟨rfl, rfl⟩
    go_wp2
    refine bodyPost_ret (v := .slice none 0 0) ?_ rfl ⟨rfl, hbw⟩
    first | rfl | kernel_rfl

theorem shM_nil (n sh : Int) (b : Bool) : shM n sh b [] = [] := by simp [shM, sortM]
theorem shM_len (n sh : Int) (b : Bool) (M : List M3) : (shM n sh b M).length = M.length := by unfold shM; rw [sortM_len, List.length_map]

/-- A slice whose block is not older. -/
def Fr (B : Nat) (v : Value) : Prop := ∀ a n c, v = .slice (some a) n c → B ≤ a.block

/-- What both answer for the marks. -/
theorem resetMarks_any (id c r m s : Int) (ag : Option Addr) (n gcap : Nat) (vm : Value) (M : List M3) (sh : Int) (b : Bool) (w : World) (hM : SlM w vm M) (hs : vset sh (n : Nat) = true) (hv : vMs 0 ((n : Int) - 1) M = true) :
    Calls Tryz.prog 52 #[pcs id c r m s (.slice ag n gcap) vm, st sh b] w fun e w' => ∃ v', e = .returned v' ∧ SlM w' v' (shM n sh b M) ∧ Below w.heap.size w w' ∧ ∀ a n c, v' = .slice (some a) n c → w.heap.size ≤ a.block := by
  obtain ⟨hl, hx⟩ := vMs_ok hv
  by_cases h0 : M.length = 0
  · have e := List.eq_nil_of_length_eq_zero h0
    subst e
    obtain ⟨ma, mc, rfl, -, -⟩ := hM
    rw [shM_nil]
    cases ma with
    | none =>
      refine (resetMarks_none id c r m s ag n gcap mc sh b w).mono ?_
      rintro e w' ⟨rfl, hb⟩
      exact ⟨_, rfl, slm_nil _, hb, fun a n c h => by cases h⟩
    | some ma =>
      refine (resetMarks_emp id c r m s ag n gcap mc ma sh b w).mono ?_
      rintro e w' ⟨rfl, hb⟩
      exact ⟨_, rfl, ⟨_, _, rfl, by simp, fun k hk => absurd hk (by simp)⟩, hb, fun a n c h => by cases h; simp⟩
  · obtain ⟨bb, off, cap, rfl, hc⟩ := hM.cellM (by omega)
    have hx' : ∀ k, k < M.length → (0 ≤ (mq M k).x ∧ (mq M k).x < n) ∧ 0 ≤ (mq M k).y ∧ (mq M k).y ≤ 16 := fun k hk => by have := hx k hk; omega
    have key : Calls Tryz.prog 52 #[pcs id c r m s (.slice ag n gcap) (.slice (some ⟨bb, off, none⟩) M.length cap), st sh b] w fun e w' => ∃ g cap, e = .returned (.slice (some ⟨g, 0, none⟩) M.length cap) ∧ RowM w' g (shM n sh b M) ∧ Below w.heap.size w w' ∧ w.heap.size ≤ g := by
      cases b
      · exact resetMarks_F id c r m s ag n gcap bb off cap M sh w hc (by omega) (by omega) hs hx'
      · exact resetMarks_T id c r m s ag n gcap bb off cap M sh w hc (by omega) (by omega) hs hx'
    refine key.mono ?_
    rintro e w' ⟨g, cap', rfl, hR, hb, hgw⟩
    refine ⟨_, rfl, ?_, hb, fun a n c h => by cases h; exact hgw⟩
    have := hR.slm cap' (by rw [shM_len]; omega)
    rwa [shM_len] at this

theorem shown_any (n : Nat) (vm : Value) (M : List M3) (sh : Int) (b : Bool) (w : World) (hM : SlM w vm M) (hs : vset sh (n : Nat) = true) (hv : vMs 0 ((n : Int) - 1) M = true) :
    Calls Tryz.prog 99 #[vm, st sh b, .int .i64 n] w fun e w' => ∃ v', e = .returned v' ∧ SlM w' v' (shM n sh b M) ∧ Below w.heap.size w w' ∧ ∀ a n c, v' = .slice (some a) n c → w.heap.size ≤ a.block := by
  obtain ⟨hl, hx⟩ := vMs_ok hv
  by_cases h0 : M.length = 0
  · have e := List.eq_nil_of_length_eq_zero h0
    subst e
    obtain ⟨a, cap, rfl, -, -⟩ := hM
    rw [shM_nil]
    refine (shown_none a cap sh n b w).mono ?_
    rintro e w' ⟨rfl, hb⟩
    exact ⟨_, rfl, slm_nil _, hb, fun a n c h => by cases h⟩
  · obtain ⟨bb, off, cap, rfl, hc⟩ := hM.cellM (by omega)
    have hx' : ∀ k, k < M.length → (0 ≤ (mq M k).x ∧ (mq M k).x < n) ∧ 0 ≤ (mq M k).y ∧ (mq M k).y ≤ 16 := fun k hk => by have := hx k hk; omega
    have key : Calls Tryz.prog 99 #[.slice (some ⟨bb, off, none⟩) M.length cap, st sh b, .int .i64 n] w fun e w' => ∃ v', e = .returned v' ∧ IsM w' w.heap.size v' (shM n sh b M) ∧ Below w.heap.size w w' := by
      cases b
      · exact shown_F M bb off cap n sh w hc (by omega) (by omega) hs hx'
      · exact shown_T M bb off cap n sh w hc (by omega) (by omega) hs hx'
    refine key.mono ?_
    rintro e w' ⟨v', rfl, hI, hb⟩
    exact ⟨_, rfl, hI.slm (by rw [shM_len]; omega), hb, fun a n c h => by
      rcases hI with ⟨-, rfl⟩ | ⟨g, cp, e1, -, e3, -⟩
      · cases h
      · rw [e1] at h; cases h; exact e3⟩

end Go.Proofs.YtcfapbccegijnaaGreat

/- Walks: Shows and Marks of the program. -/
namespace Go.Proofs.YtcfapbccegijnaaGreat
open Go Go.RowKit Go.Proofs

/-- The cells of a piece and a setting, both boxed. -/
structure PcSt (w W : World) (id c r m s : Int) (vg vm : Value) (sh : Int) (b : Bool) : Prop where
  bel : Below w.heap.size w W
  siz : w.heap.size + 2 ≤ W.heap.size
  c0 : W.cell? ⟨w.heap.size, 0, none⟩ = some (.int .i64 id)
  c1 : W.cell? ⟨w.heap.size, 1, none⟩ = some (.int .i64 c)
  c2 : W.cell? ⟨w.heap.size, 2, none⟩ = some (.int .i64 r)
  c3 : W.cell? ⟨w.heap.size, 3, none⟩ = some (.int .i64 m)
  c4 : W.cell? ⟨w.heap.size, 4, none⟩ = some (.int .i64 s)
  c5 : W.cell? ⟨w.heap.size, 5, none⟩ = some vg
  c6 : W.cell? ⟨w.heap.size, 6, none⟩ = some vm
  s0 : W.cell? ⟨w.heap.size + 1, 0, none⟩ = some (.int .i64 sh)
  s1 : W.cell? ⟨w.heap.size + 1, 1, none⟩ = some (.bool b)

theorem PcSt.new (w : World) (id c r m s : Int) (vg vm : Value) (sh : Int) (b : Bool) : PcSt w ((w.alloc (pcsObj id c r m s vg vm)).alloc (stObj sh b)) id c r m s vg vm sh b := by
  obtain ⟨hp, hq⟩ := pcs_st w id c r m s vg vm sh b
  exact ⟨((Below.refl _ _).alloc (Nat.le_refl _) _).alloc (by simp) _, by simp, cell_of hp rfl, cell_of hp rfl, cell_of hp rfl, cell_of hp rfl, cell_of hp rfl, cell_of hp rfl, cell_of hp rfl, cell_of hq rfl, cell_of hq rfl⟩

theorem PcSt.keep {w W W' : World} {id c r m s : Int} {vg vm : Value} {sh : Int} {b : Bool} (h : PcSt w W id c r m s vg vm sh b) (hb : Below W.heap.size W W') : PcSt w W' id c r m s vg vm sh b :=
  ⟨keep_below h.bel hb, Nat.le_trans h.siz hb.size, keep_cell hb h.c0, keep_cell hb h.c1, keep_cell hb h.c2, keep_cell hb h.c3, keep_cell hb h.c4, keep_cell hb h.c5, keep_cell hb h.c6, keep_cell hb h.s0, keep_cell hb h.s1⟩

theorem vP_marks {id c r m s : Int} {G : List G5} {M : List M3} (h : vP id c r m s G M = true) : vGs G = true ∧ vMs 0 ((G.length : Int) - 1) M = true := by
  unfold vP at h
  simp only [Bool.and_eq_true] at h
  exact ⟨h.1.2, h.2⟩

end Go.Proofs.YtcfapbccegijnaaGreat
