/- The abstract machine, part GrRB. -/
import Derived.Test.YtkmcboincjohlaaGreatGrRA
import Derived.Test.YtkmcboincjohlaaGreatGrLA
import Derived.Test.YtkmcboincjohlaaGreatGrLL
/- Walks: the program's marks, shown by a setting. -/
namespace Go.Proofs.YtkmcboincjohlaaGreat
open Go Go.RowKit Go.Proofs

/-- A mark as a setting shows it. -/
def setM (n : Int) (sh : Int) (b : Bool) (m : M3) : M3 := ⟨Plain.ed sh b n m.x, if b then 16 - m.y else m.y, m.z⟩
/-- The marks as a setting shows them. -/
def shM (n : Int) (sh : Int) (b : Bool) (M : List M3) : List M3 := sortM (M.map (setM n sh b))

/-- The first k marks are turned. -/
def fstM (f : M3 → M3) (k : Nat) (M : List M3) : List M3 := (M.take k).map f ++ M.drop k

theorem fstM_zero (f : M3 → M3) (M : List M3) : fstM f 0 M = M := by simp [fstM]
theorem fstM_all (f : M3 → M3) (M : List M3) : fstM f M.length M = M.map f := by simp [fstM]
theorem fstM_len (f : M3 → M3) {k : Nat} {M : List M3} (h : k ≤ M.length) : (fstM f k M).length = M.length := by simp [fstM]; omega

theorem fstM_mq (f : M3 → M3) {k : Nat} {M : List M3} (h : k < M.length) : mq (fstM f k M) k = mq M k := by
  unfold mq fstM
  rw [List.getD_eq_getElem?_getD, List.getD_eq_getElem?_getD, List.getElem?_append_right (by simp; omega)]
  simp [Nat.min_eq_left (Nat.le_of_lt h)]

theorem mq_get {M : List M3} {k : Nat} (h : k < M.length) : mq M k = M[k] := by
  unfold mq
  simp [List.getD_eq_getElem?_getD, h]

theorem fstM_set (f : M3 → M3) {k : Nat} {M : List M3} (h : k < M.length) : (fstM f k M).set k (f (mq M k)) = fstM f (k + 1) M := by
  unfold fstM
  rw [List.set_append_right _ _ (by simp; omega)]
  simp only [List.length_map, List.length_take, Nat.min_eq_left (Nat.le_of_lt h), Nat.sub_self]
  rw [List.drop_eq_getElem_cons h, List.set_cons_zero, List.take_add_one, List.map_append, List.getElem?_eq_getElem h, mq_get h]
  simp

theorem fst_stepF {f : M3 → M3} {x : Int} {k : Nat} {M : List M3} (h : k < M.length) (hf : f (mq M k) = ⟨x, (mq M k).y, (mq M k).z⟩) :
    (fstM f k M).set k ⟨x, (mq (fstM f k M) k).y, (mq (fstM f k M) k).z⟩ = fstM f (k + 1) M := by
  rw [fstM_mq f h, ← hf, fstM_set f h]

theorem fst_stepT {f : M3 → M3} {x y : Int} {k : Nat} {M : List M3} (h : k < M.length) (hf : f (mq M k) = ⟨x, y, (mq M k).z⟩) :
    ((fstM f k M).set k ⟨x, (mq (fstM f k M) k).y, (mq (fstM f k M) k).z⟩).set k ⟨(mq ((fstM f k M).set k ⟨x, (mq (fstM f k M) k).y, (mq (fstM f k M) k).z⟩) k).x, y, (mq ((fstM f k M).set k ⟨x, (mq (fstM f k M) k).y, (mq (fstM f k M) k).z⟩) k).z⟩ = fstM f (k + 1) M := by
  rw [mq_set _ k k _ (by rw [fstM_len f (Nat.le_of_lt h)]; exact h), if_pos rfl, List.set_set, fstM_mq f h]
  simp only
  rw [← hf, fstM_set f h]

set_option maxRecDepth 100000 in
set_option maxHeartbeats 8000000 in
theorem resetMarks_F (id c r m s : Int) (ag : Option Addr) (n gcap : Nat) (b off cap : Nat) (M : List M3) (sh : Int) (w : World) (hM : ∀ j, j < M.length * 3 → w.cell? ⟨b, off + j, none⟩ = some (mcell M j)) (h0 : 0 < M.length) (h1 : M.length ≤ 1000000)
    (hs : vset sh (n : Nat) = true) (hx : ∀ k, k < M.length → (0 ≤ (mq M k).x ∧ (mq M k).x < n) ∧ 0 ≤ (mq M k).y ∧ (mq M k).y ≤ 16) :
    Calls Tryz.prog 32 #[pcs id c r m s (.slice ag n gcap) (.slice (some ⟨b, off, none⟩) M.length cap), st sh false] w fun e w' => ∃ g cap, e = .returned (.slice (some ⟨g, 0, none⟩) M.length cap) ∧ RowM w' g (shM n sh false M) ∧ Below w.heap.size w w' ∧ w.heap.size ≤ g := by
  obtain ⟨f, hf⟩ : ∃ f, setM n sh false = f := ⟨_, rfl⟩
  obtain ⟨W0, hW0⟩ : ∃ W0, (w.alloc (pcsObj id c r m s (.slice ag n gcap) (.slice (some ⟨b, off, none⟩) M.length cap))).alloc (stObj sh false) = W0 := ⟨_, rfl⟩
  have hbw : Below w.heap.size w W0 := by rw [← hW0]; exact ((Below.refl _ _).alloc (Nat.le_refl _) _).alloc (by simp) _
  have hsz : W0.heap.size = w.heap.size + 2 := by rw [← hW0]; simp
  have p5 : W0.cell? ⟨w.heap.size, 5, none⟩ = some (.slice ag n gcap) := by
    rw [← hW0]; exact cell_of ((alloc_heap_old _ _ (by simp)).trans (pcs_new w id c r m s _ _)) rfl
  have p6 : W0.cell? ⟨w.heap.size, 6, none⟩ = some (.slice (some ⟨b, off, none⟩) M.length cap) := by
    rw [← hW0]; exact cell_of ((alloc_heap_old _ _ (by simp)).trans (pcs_new w id c r m s _ _)) rfl
  have q0 : W0.cell? ⟨w.heap.size + 1, 0, none⟩ = some (.int .i64 sh) := by
    rw [← hW0]; have := (st_new (w.alloc (pcsObj id c r m s (.slice ag n gcap) (.slice (some ⟨b, off, none⟩) M.length cap))) sh false).1; rwa [World.size_alloc] at this
  have q1 : W0.cell? ⟨w.heap.size + 1, 1, none⟩ = some (.bool false) := by
    rw [← hW0]; have := (st_new (w.alloc (pcsObj id c r m s (.slice ag n gcap) (.slice (some ⟨b, off, none⟩) M.length cap))) sh false).2; rwa [World.size_alloc] at this
  have C1 := Lib.hid (cloneM_some b off cap M h0 h1 W0 (fun j hj => keep_cell hbw (hM j hj)))
  have C2 := Lib.hid (fun (k : Nat) (hk : k < M.length) w => edgeP_any sh n (mq M k).x false w hs (hx k hk).1.1 (hx k hk).1.2)
  have C3 := Lib.hid (fun (g cap' : Nat) (wr : World) (hg : W0.heap.size ≤ g) (R : RowM wr g (fstM f M.length M)) => sortMs_any (fstM f M.length M) g cap' W0.heap.size wr R (by rw [fstM_len f (Nat.le_refl _)]; exact h1) hg)
  have HX := Lib.hid hx
  have LEN := Lib.hid (fun (k : Nat) (hk : k ≤ M.length) => fstM_len f (M := M) hk)
  have MQ := Lib.hid (fun (k : Nat) (hk : k < M.length) => fstM_mq f (M := M) hk)
  have STEP := Lib.hid (fun (k : Nat) (hk : k < M.length) => fst_stepF (f := f) (M := M) (x := Plain.ed sh false n (mq M k).x) hk (by rw [← hf]; rfl))
  have DONE := Lib.hid (show sortM (fstM f M.length M) = shM n sh false M by rw [fstM_all, ← hf]; rfl)
  have F0 := Lib.hid (fstM_zero f M)
  have HBW := Lib.hid hbw
  have HSZ := Lib.hid hsz
  clear hM hx hf hbw
  obtain ⟨l, hl⟩ : ∃ l, M.length = l := ⟨_, rfl⟩
  rw [hl] at C1 C2 C3 HX LEN MQ STEP DONE p6 h0 h1
  rw [hl] at hW0
  rw [hl]
  clear hl
  clear hs
  go_enter Tryz.func32, Tryz.ntmps32
  go_wp2_with fail
  clear hW0
  refine C1.out.mono ?_
  rintro e w2 ⟨g, cap2, rfl, hg, R0, hb2⟩
  clear C1
  go_wp2_with fail
  go_loopw [13] (fun i wr => ∃ k : Nat, k ≤ l ∧ i = .int .i64 k ∧ RowM wr g (fstM f k M) ∧ Below W0.heap.size W0 wr) (fun i _ => l - (intOf i).toNat)
  case atStart => exact ⟨0, Nat.zero_le _, rfl, by rw [F0.out]; exact R0, hb2⟩
  case round =>
    clear R0 hb2 w2
    obtain ⟨k, hk, rfl, R, hbel⟩ := hrel
    by_cases hlt : k < l
    · have j1 : (k : Int) < (l : Int) := by omega
      have hlk := LEN.out k hk
      obtain ⟨c0, c1, c2⟩ := R.at (k := k) (by omega)
      rw [MQ.out k hlt] at c0 c1 c2
      have ST := STEP.out k hlt
      obtain ⟨x1, y1⟩ := HX.out k hlt
      have EC := C2.out k hlt
      replace p5 := keep_cell hbel p5
      replace q0 := keep_cell hbel q0
      replace q1 := keep_cell hbel q1
      have U : IntKind.i64.wrap (16 - (mq M k).y) = 16 - (mq M k).y := wi64 _ (by omega)
      have hmx : fstM f k M = fstM f k M := rfl
      have SX := fun (W : World) (hW : RowM W g (fstM f k M)) (x : Int) => hW.setX (k := k) (by omega) x
      have SY := fun (W : World) (x : Int) (hW : RowM W g ((fstM f k M).set k ⟨x, (mq (fstM f k M) k).y, (mq (fstM f k M) k).z⟩)) (y : Int) => hW.setY (k := k) (by rw [List.length_set]; omega) y
      have hgl := R.lt
      have FR := (R.c (k * 3) (by omega)).2
      have FR1 := (R.c (k * 3 + 1) (by omega)).2
      generalize (mq M k).x = mx at c0 EC x1 ST
      generalize (mq M k).y = my at c1 U y1 ST
      generalize (mq M k).z = mz at c2 ST
      generalize Plain.ed sh false n mx = ex at EC ST
      have SX' := Lib.hid SX
      have SY' := Lib.hid SY
      have bM : Below wr.heap.size wr (wr.alloc (Obj.cells #[Value.int IntKind.i64 mx, Value.int IntKind.i64 my, Value.int IntKind.i64 mz] 59)) := (Below.refl _ _).alloc (Nat.le_refl _) _
      have p5m := keep_cell bM p5
      have q0m := keep_cell bM q0
      have q1m := keep_cell bM q1
      clear SX SY hmx bM
      go_wp2_with fail
      refine (EC _).mono ?_
      rintro e w3 ⟨rfl, hb3⟩
      have bA : Below wr.heap.size wr w3 := keep_below ((Below.refl _ _).alloc (Nat.le_refl _) _) hb3
      have d1 : w3.cell? ⟨wr.heap.size, 1, none⟩ = some (.int .i64 my) := keep_cell hb3 (by go_simp)
      have R3 := R.keep bA
      have bel3 := keep_below hbel bA
      replace q1 := keep_cell bA q1
      have e0 := keep_cell bA c0
      have e1 := keep_cell bA c1
      have g0 := keep_frozen bA c0 FR
      have g1 := keep_frozen bA c1 FR1
      have R4 := SX'.out w3 R3 ex
      have bel4 := bel3.setCell (p := ⟨g, k * 3, none⟩) hg (.int .i64 ex)
      have hne : wr.heap.size ≠ g := by omega
      have hne1 : w.heap.size + 1 ≠ g := by have := HSZ.out; omega
      clear EC hb3 c0 c1 c2 FR FR1 p5 q0 p5m q0m q1m bA R3 bel3
      go_wp2_with fail
      rw [ST] at R4
      exact ⟨⟨k + 1, by omega, by simp, R4, bel4⟩, by simp [intOf]; omega⟩
    · obtain rfl : k = l := by omega
      have CS := C3.out g cap2 wr hg R
      rw [LEN.out k (Nat.le_refl _)] at CS
      go_wp2_with fail
      refine CS.mono ?_
      rintro e w3 ⟨rfl, R3, hb3⟩
      go_wp2
      go_ret
      rw [DONE.out] at R3
      exact ⟨g, cap2, rfl, R3, HBW.out.trans ((hbel.trans hb3).mono (by have := HSZ.out; omega)), by have := HSZ.out; omega⟩

set_option maxRecDepth 100000 in
set_option maxHeartbeats 8000000 in
theorem resetMarks_T (id c r m s : Int) (ag : Option Addr) (n gcap : Nat) (b off cap : Nat) (M : List M3) (sh : Int) (w : World) (hM : ∀ j, j < M.length * 3 → w.cell? ⟨b, off + j, none⟩ = some (mcell M j)) (h0 : 0 < M.length) (h1 : M.length ≤ 1000000)
    (hs : vset sh (n : Nat) = true) (hx : ∀ k, k < M.length → (0 ≤ (mq M k).x ∧ (mq M k).x < n) ∧ 0 ≤ (mq M k).y ∧ (mq M k).y ≤ 16) :
    Calls Tryz.prog 32 #[pcs id c r m s (.slice ag n gcap) (.slice (some ⟨b, off, none⟩) M.length cap), st sh true] w fun e w' => ∃ g cap, e = .returned (.slice (some ⟨g, 0, none⟩) M.length cap) ∧ RowM w' g (shM n sh true M) ∧ Below w.heap.size w w' ∧ w.heap.size ≤ g := by
  obtain ⟨f, hf⟩ : ∃ f, setM n sh true = f := ⟨_, rfl⟩
  obtain ⟨W0, hW0⟩ : ∃ W0, (w.alloc (pcsObj id c r m s (.slice ag n gcap) (.slice (some ⟨b, off, none⟩) M.length cap))).alloc (stObj sh true) = W0 := ⟨_, rfl⟩
  have hbw : Below w.heap.size w W0 := by rw [← hW0]; exact ((Below.refl _ _).alloc (Nat.le_refl _) _).alloc (by simp) _
  have hsz : W0.heap.size = w.heap.size + 2 := by rw [← hW0]; simp
  have p5 : W0.cell? ⟨w.heap.size, 5, none⟩ = some (.slice ag n gcap) := by
    rw [← hW0]; exact cell_of ((alloc_heap_old _ _ (by simp)).trans (pcs_new w id c r m s _ _)) rfl
  have p6 : W0.cell? ⟨w.heap.size, 6, none⟩ = some (.slice (some ⟨b, off, none⟩) M.length cap) := by
    rw [← hW0]; exact cell_of ((alloc_heap_old _ _ (by simp)).trans (pcs_new w id c r m s _ _)) rfl
  have q0 : W0.cell? ⟨w.heap.size + 1, 0, none⟩ = some (.int .i64 sh) := by
    rw [← hW0]; have := (st_new (w.alloc (pcsObj id c r m s (.slice ag n gcap) (.slice (some ⟨b, off, none⟩) M.length cap))) sh true).1; rwa [World.size_alloc] at this
  have q1 : W0.cell? ⟨w.heap.size + 1, 1, none⟩ = some (.bool true) := by
    rw [← hW0]; have := (st_new (w.alloc (pcsObj id c r m s (.slice ag n gcap) (.slice (some ⟨b, off, none⟩) M.length cap))) sh true).2; rwa [World.size_alloc] at this
  have C1 := Lib.hid (cloneM_some b off cap M h0 h1 W0 (fun j hj => keep_cell hbw (hM j hj)))
  have C2 := Lib.hid (fun (k : Nat) (hk : k < M.length) w => edgeP_any sh n (mq M k).x true w hs (hx k hk).1.1 (hx k hk).1.2)
  have C3 := Lib.hid (fun (g cap' : Nat) (wr : World) (hg : W0.heap.size ≤ g) (R : RowM wr g (fstM f M.length M)) => sortMs_any (fstM f M.length M) g cap' W0.heap.size wr R (by rw [fstM_len f (Nat.le_refl _)]; exact h1) hg)
  have HX := Lib.hid hx
  have LEN := Lib.hid (fun (k : Nat) (hk : k ≤ M.length) => fstM_len f (M := M) hk)
  have MQ := Lib.hid (fun (k : Nat) (hk : k < M.length) => fstM_mq f (M := M) hk)
  have STEP := Lib.hid (fun (k : Nat) (hk : k < M.length) => fst_stepT (f := f) (M := M) (x := Plain.ed sh true n (mq M k).x) (y := 16 - (mq M k).y) hk (by rw [← hf]; rfl))
  have DONE := Lib.hid (show sortM (fstM f M.length M) = shM n sh true M by rw [fstM_all, ← hf]; rfl)
  have F0 := Lib.hid (fstM_zero f M)
  have HBW := Lib.hid hbw
  have HSZ := Lib.hid hsz
  clear hM hx hf hbw
  obtain ⟨l, hl⟩ : ∃ l, M.length = l := ⟨_, rfl⟩
  rw [hl] at C1 C2 C3 HX LEN MQ STEP DONE p6 h0 h1
  rw [hl] at hW0
  rw [hl]
  clear hl
  clear hs
  go_enter Tryz.func32, Tryz.ntmps32
  go_wp2_with fail
  clear hW0
  refine C1.out.mono ?_
  rintro e w2 ⟨g, cap2, rfl, hg, R0, hb2⟩
  clear C1
  go_wp2_with fail
  go_loopw [13] (fun i wr => ∃ k : Nat, k ≤ l ∧ i = .int .i64 k ∧ RowM wr g (fstM f k M) ∧ Below W0.heap.size W0 wr) (fun i _ => l - (intOf i).toNat)
  case atStart => exact ⟨0, Nat.zero_le _, rfl, by rw [F0.out]; exact R0, hb2⟩
  case round =>
    clear R0 hb2 w2
    obtain ⟨k, hk, rfl, R, hbel⟩ := hrel
    by_cases hlt : k < l
    · have j1 : (k : Int) < (l : Int) := by omega
      have hlk := LEN.out k hk
      obtain ⟨c0, c1, c2⟩ := R.at (k := k) (by omega)
      rw [MQ.out k hlt] at c0 c1 c2
      have ST := STEP.out k hlt
      obtain ⟨x1, y1⟩ := HX.out k hlt
      have EC := C2.out k hlt
      replace p5 := keep_cell hbel p5
      replace q0 := keep_cell hbel q0
      replace q1 := keep_cell hbel q1
      have U : IntKind.i64.wrap (16 - (mq M k).y) = 16 - (mq M k).y := wi64 _ (by omega)
      have hmx : fstM f k M = fstM f k M := rfl
      have SX := fun (W : World) (hW : RowM W g (fstM f k M)) (x : Int) => hW.setX (k := k) (by omega) x
      have SY := fun (W : World) (x : Int) (hW : RowM W g ((fstM f k M).set k ⟨x, (mq (fstM f k M) k).y, (mq (fstM f k M) k).z⟩)) (y : Int) => hW.setY (k := k) (by rw [List.length_set]; omega) y
      have hgl := R.lt
      have FR := (R.c (k * 3) (by omega)).2
      have FR1 := (R.c (k * 3 + 1) (by omega)).2
      generalize (mq M k).x = mx at c0 EC x1 ST
      generalize (mq M k).y = my at c1 U y1 ST
      generalize (mq M k).z = mz at c2 ST
      generalize Plain.ed sh true n mx = ex at EC ST
      have SX' := Lib.hid SX
      have SY' := Lib.hid SY
      have bM : Below wr.heap.size wr (wr.alloc (Obj.cells #[Value.int IntKind.i64 mx, Value.int IntKind.i64 my, Value.int IntKind.i64 mz] 59)) := (Below.refl _ _).alloc (Nat.le_refl _) _
      have p5m := keep_cell bM p5
      have q0m := keep_cell bM q0
      have q1m := keep_cell bM q1
      clear SX SY hmx bM
      go_wp2_with fail
      refine (EC _).mono ?_
      rintro e w3 ⟨rfl, hb3⟩
      have bA : Below wr.heap.size wr w3 := keep_below ((Below.refl _ _).alloc (Nat.le_refl _) _) hb3
      have d1 : w3.cell? ⟨wr.heap.size, 1, none⟩ = some (.int .i64 my) := keep_cell hb3 (by go_simp)
      have R3 := R.keep bA
      have bel3 := keep_below hbel bA
      replace q1 := keep_cell bA q1
      have e0 := keep_cell bA c0
      have e1 := keep_cell bA c1
      have g0 := keep_frozen bA c0 FR
      have g1 := keep_frozen bA c1 FR1
      have R4 := SX'.out w3 R3 ex
      have bel4 := bel3.setCell (p := ⟨g, k * 3, none⟩) hg (.int .i64 ex)
      have hne : wr.heap.size ≠ g := by omega
      have hne1 : w.heap.size + 1 ≠ g := by have := HSZ.out; omega
      clear EC hb3 c0 c1 c2 FR FR1 p5 q0 p5m q0m q1m bA R3 bel3
      go_wp2_with fail
      have R5 := SY'.out _ ex R4 (16 - my)
      have bel5 := bel4.setCell (p := ⟨g, k * 3 + 1, none⟩) hg (.int .i64 (16 - my))
      rw [ST] at R5
      exact ⟨⟨k + 1, by omega, by simp, R5, bel5⟩, by simp [intOf]; omega⟩
    · obtain rfl : k = l := by omega
      have CS := C3.out g cap2 wr hg R
      rw [LEN.out k (Nat.le_refl _)] at CS
      go_wp2_with fail
      refine CS.mono ?_
      rintro e w3 ⟨rfl, R3, hb3⟩
      go_wp2
      go_ret
      rw [DONE.out] at R3
      exact ⟨g, cap2, rfl, R3, HBW.out.trans ((hbel.trans hb3).mono (by have := HSZ.out; omega)), by have := HSZ.out; omega⟩

end Go.Proofs.YtkmcboincjohlaaGreat

/- Marks put in order one after the other: there is one order. -/
namespace Go.Proofs.YtkmcboincjohlaaGreat
open Go Go.RowKit Go.Proofs

/-- Not later. -/
def leM (a b : M3) : Prop := Go.Proofs.ltOf cfM b a = false

theorem leM_trans {a b c : M3} (h1 : leM a b) (h2 : leM b c) : leM a c := by
  unfold leM at *
  rw [ltM_not] at *
  omega
theorem leM_of_lt {a b : M3} (h : Go.Proofs.ltOf cfM a b = true) : leM a b := by
  unfold leM
  rw [ltM_iff] at h
  rw [ltM_not]
  omega
theorem leM_total (a b : M3) : leM a b ∨ leM b a := by
  unfold leM
  rw [ltM_not, ltM_not]
  omega

theorem sortM_pairwise (M : List M3) : (sortM M).Pairwise leM := by
  have h := List.pairwise_mergeSort (le := fun x y => !Go.Proofs.ltOf cfM y x) (fun a b c h1 h2 => by
    simp only [Bool.not_eq_true'] at *
    exact leM_trans (a := a) (b := b) (c := c) h1 h2) (fun a b => by
    rcases leM_total a b with h | h
    · unfold leM at h; simp [h]
    · unfold leM at h; simp [h]) M
  exact h.imp (fun h => by simpa [leM] using h)

theorem sortM_perm (M : List M3) : (sortM M).Perm M := List.mergeSort_perm _ _

theorem sorted_eq {L M : List M3} (h : L.Pairwise leM) (hp : L.Perm M) : L = sortM M :=
  List.Perm.eq_of_pairwise (le := leM) (fun a b _ _ h1 h2 => partM a b h2 h1) h (sortM_pairwise M) (hp.trans (sortM_perm M).symm)

theorem RowM.sub {W : World} {g : Nat} {D : List M3} (h : RowM W g D) (t l : Nat) (hl : t + l ≤ D.length) : ∀ j u, (mv ((D.drop t).take l))[j]? = some u → W.cell? (Addr.add ⟨g, t * 3, none⟩ j) = some u := by
  intro j u hu
  have hj : j < ((D.drop t).take l).length * 3 := by
    have := (List.getElem?_eq_some_iff.1 hu).1
    rwa [mv_len] at this
  rw [mcell_mv hj] at hu
  cases hu
  simp only [List.length_take, List.length_drop] at hj
  rw [Addr.add_lit, (h.c (t * 3 + j) (by omega)).1]
  have e : mq ((D.drop t).take l) (j / 3) = mq D (t + j / 3) := by
    rw [mq_get (by simp; omega), mq_get (by omega)]
    simp
  unfold mcell
  rw [e, show (t * 3 + j) % 3 = j % 3 by omega, show (t * 3 + j) / 3 = t + j / 3 by omega]

end Go.Proofs.YtkmcboincjohlaaGreat

/- Walks: the reference puts marks in order. -/
namespace Go.Proofs.YtkmcboincjohlaaGreat
open Go Go.RowKit Go.Proofs

/-- The value is nil, or a slice of one's own block, that holds the marks. -/
def IsM (W : World) (B : Nat) (v : Value) (L : List M3) : Prop :=
  (L = [] ∧ v = .slice none 0 0) ∨ ∃ g cap, v = .slice (some ⟨g, 0, none⟩) L.length cap ∧ 0 < L.length ∧ B ≤ g ∧ L.length ≤ cap ∧ RowM W g L

theorem IsM.keep {W W' : World} {B : Nat} {v : Value} {L : List M3} (h : IsM W B v L) (hb : Below W.heap.size W W') : IsM W' B v L := by
  rcases h with h | ⟨g, cap, h1, h2, h3, h4, h5⟩
  · exact .inl h
  · exact .inr ⟨g, cap, h1, h2, h3, h4, h5.keep hb⟩

theorem IsM.slm {W : World} {B : Nat} {v : Value} {L : List M3} (h : IsM W B v L) (hl : L.length ≤ 1000000) : SlM W v L := by
  rcases h with ⟨rfl, rfl⟩ | ⟨g, cap, rfl, h2, h3, h4, h5⟩
  · exact slm_nil W
  · exact h5.slm cap hl

end Go.Proofs.YtkmcboincjohlaaGreat

/- Walks: the reference's order of marks, whole; Laid. -/
namespace Go.Proofs.YtkmcboincjohlaaGreat
open Go Go.RowKit Go.Proofs

end Go.Proofs.YtkmcboincjohlaaGreat
