/- The abstract machine, part RB. -/
import Derived.Test.YtcfapbccegijnaaGreatRA
import Derived.Test.YtcfapbccegijnaaGreatLA
import Derived.Test.YtcfapbccegijnaaGreatLL
/- Walks: the program's marks, shown by a setting. -/
namespace Go.Proofs.YtcfapbccegijnaaGreat
open Go Go.RowKit Go.Proofs

/-- A mark as a setting shows it. -/
def setM (n : Int) (sh : Int) (b : Bool) (m : M3) : M3 := ⟨Plain.ed sh b n m.x, if b then 16 - m.y else m.y, m.z⟩
/-- The marks as a setting shows them. -/
def shM (n : Int) (sh : Int) (b : Bool) (M : List M3) : List M3 := sortM (M.map (setM n sh b))

/-- The first k marks are turned. -/
def fstM (f : M3 → M3) (k : Nat) (M : List M3) : List M3 := (M.take k).map f ++ M.drop k

theorem fstM_zero (f : M3 → M3) (M : List M3) : fstM f 0 M = M := by simp [fstM]
theorem fstM_all (f : M3 → M3) (M : List M3) : fstM f M.length M = M.map f := by simp [fstM]
theorem fstM_len (f : M3 → M3) {k : Nat} {M : List M3} (h : k ≤ M.length) : (fstM f k M).length = M.length := by simp [fstM]; omega

theorem fstM_mq (f : M3 → M3) {k : Nat} {M : List M3} (h : k < M.length) : mq (fstM f k M) k = mq M k := by
  unfold mq fstM
  rw [List.getD_eq_getElem?_getD, List.getD_eq_getElem?_getD, List.getElem?_append_right (by simp; omega)]
  simp [Nat.min_eq_left (Nat.le_of_lt h)]

theorem mq_get {M : List M3} {k : Nat} (h : k < M.length) : mq M k = M[k] := by
  unfold mq
  simp [List.getD_eq_getElem?_getD, h]

theorem fstM_set (f : M3 → M3) {k : Nat} {M : List M3} (h : k < M.length) : (fstM f k M).set k (f (mq M k)) = fstM f (k + 1) M := by
  unfold fstM
  rw [List.set_append_right _ _ (by simp; omega)]
  simp only [List.length_map, List.length_take, Nat.min_eq_left (Nat.le_of_lt h), Nat.sub_self]
  rw [List.drop_eq_getElem_cons h, List.set_cons_zero, List.take_add_one, List.map_append, List.getElem?_eq_getElem h, mq_get h]
  simp

theorem fst_stepF {f : M3 → M3} {x : Int} {k : Nat} {M : List M3} (h : k < M.length) (hf : f (mq M k) = ⟨x, (mq M k).y, (mq M k).z⟩) :
    (fstM f k M).set k ⟨x, (mq (fstM f k M) k).y, (mq (fstM f k M) k).z⟩ = fstM f (k + 1) M := by
  rw [fstM_mq f h, ← hf, fstM_set f h]

theorem fst_stepT {f : M3 → M3} {x y : Int} {k : Nat} {M : List M3} (h : k < M.length) (hf : f (mq M k) = ⟨x, y, (mq M k).z⟩) :
    ((fstM f k M).set k ⟨x, (mq (fstM f k M) k).y, (mq (fstM f k M) k).z⟩).set k ⟨(mq ((fstM f k M).set k ⟨x, (mq (fstM f k M) k).y, (mq (fstM f k M) k).z⟩) k).x, y, (mq ((fstM f k M).set k ⟨x, (mq (fstM f k M) k).y, (mq (fstM f k M) k).z⟩) k).z⟩ = fstM f (k + 1) M := by
  rw [mq_set _ k k _ (by rw [fstM_len f (Nat.le_of_lt h)]; exact h), if_pos rfl, List.set_set, fstM_mq f h]
  simp only
  rw [← hf, fstM_set f h]

set_option maxRecDepth 100000 in
set_option maxHeartbeats 8000000 in
theorem resetMarks_F (id c r m s : Int) (ag : Option Addr) (n gcap : Nat) (b off cap : Nat) (M : List M3) (sh : Int) (w : World) (hM : ∀ j, j < M.length * 3 → w.cell? ⟨b, off + j, none⟩ = some (mcell M j)) (h0 : 0 < M.length) (h1 : M.length ≤ 1000000)
    (hs : vset sh (n : Nat) = true) (hx : ∀ k, k < M.length → (0 ≤ (mq M k).x ∧ (mq M k).x < n) ∧ 0 ≤ (mq M k).y ∧ (mq M k).y ≤ 16) :
    Calls Tryz.prog 52 #[pcs id c r m s (.slice ag n gcap) (.slice (some ⟨b, off, none⟩) M.length cap), st sh false] w fun e w' => ∃ g cap, e = .returned (.slice (some ⟨g, 0, none⟩) M.length cap) ∧ RowM w' g (shM n sh false M) ∧ Below w.heap.size w w' ∧ w.heap.size ≤ g := by
  obtain ⟨f, hf⟩ : ∃ f, setM n sh false = f := ⟨_, rfl⟩
  obtain ⟨W0, hW0⟩ : ∃ W0, (w.alloc (pcsObj id c r m s (.slice ag n gcap) (.slice (some ⟨b, off, none⟩) M.length cap))).alloc (stObj sh false) = W0 := ⟨_, rfl⟩
  have hbw : Below w.heap.size w W0 := by rw [← hW0]; exact ((Below.refl _ _).alloc (Nat.le_refl _) _).alloc (by simp) _
  have hsz : W0.heap.size = w.heap.size + 2 := by rw [← hW0]; simp
  have p5 : W0.cell? ⟨w.heap.size, 5, none⟩ = some (.slice ag n gcap) := by
    rw [← hW0]; exact cell_of ((alloc_heap_old _ _ (by simp)).trans (pcs_new w id c r m s _ _)) rfl
  have p6 : W0.cell? ⟨w.heap.size, 6, none⟩ = some (.slice (some ⟨b, off, none⟩) M.length cap) := by
    rw [← hW0]; exact cell_of ((alloc_heap_old _ _ (by simp)).trans (pcs_new w id c r m s _ _)) rfl
  have q0 : W0.cell? ⟨w.heap.size + 1, 0, none⟩ = some (.int .i64 sh) := by
    rw [← hW0]; have := (st_new (w.alloc (pcsObj id c r m s (.slice ag n gcap) (.slice (some ⟨b, off, none⟩) M.length cap))) sh false).1; rwa [World.size_alloc] at this
  have q1 : W0.cell? ⟨w.heap.size + 1, 1, none⟩ = some (.bool false) := by
    rw [← hW0]; have := (st_new (w.alloc (pcsObj id c r m s (.slice ag n gcap) (.slice (some ⟨b, off, none⟩) M.length cap))) sh false).2; rwa [World.size_alloc] at this
  have C1 := Lib.hid (cloneM_some b off cap M h0 h1 W0 (fun j hj => keep_cell hbw (hM j hj)))
  have C2 := Lib.hid (fun (k : Nat) (hk : k < M.length) w => edgeP_any sh n (mq M k).x false w hs (hx k hk).1.1 (hx k hk).1.2)
  have C3 := Lib.hid (fun (g cap' : Nat) (wr : World) (hg : W0.heap.size ≤ g) (R : RowM wr g (fstM f M.length M)) => sortMs_any (fstM f M.length M) g cap' W0.heap.size wr R (by rw [fstM_len f (Nat.le_refl _)]; exact h1) hg)
  have HX := Lib.hid hx
  have LEN := Lib.hid (fun (k : Nat) (hk : k ≤ M.length) => fstM_len f (M := M) hk)
  have MQ := Lib.hid (fun (k : Nat) (hk : k < M.length) => fstM_mq f (M := M) hk)
  have STEP := Lib.hid (fun (k : Nat) (hk : k < M.length) => fst_stepF (f := f) (M := M) (x := Plain.ed sh false n (mq M k).x) hk (by rw [← hf]; rfl))
  have DONE := Lib.hid (show sortM (fstM f M.length M) = shM n sh false M by rw [fstM_all, ← hf]; rfl)
  have F0 := Lib.hid (fstM_zero f M)
  have HBW := Lib.hid hbw
  have HSZ := Lib.hid hsz
  clear hM hx hf hbw
  obtain ⟨l, hl⟩ : ∃ l, M.length = l := ⟨_, rfl⟩
  rw [hl] at C1 C2 C3 HX LEN MQ STEP DONE p6 h0 h1
  rw [hl] at hW0
  rw [hl]
  clear hl
  clear hs
  go_enter Tryz.func52, Tryz.ntmps52
  go_wp2_with fail
  clear hW0
  refine C1.out.mono ?_
  rintro e w2 ⟨g, cap2, rfl, hg, R0, hb2⟩
  clear C1
  go_wp2_with fail
  go_loopw [13] (fun i wr => ∃ k : Nat, k ≤ l ∧ i = .int .i64 k ∧ RowM wr g (fstM f k M) ∧ Below W0.heap.size W0 wr) (fun i _ => l - (intOf i).toNat)
  case atStart => exact ⟨0, Nat.zero_le _, rfl, by rw [F0.out]; exact R0, hb2⟩
  case round =>
    clear R0 hb2 w2
    obtain ⟨k, hk, rfl, R, hbel⟩ := hrel
    by_cases hlt : k < l
    · have j1 : (k : Int) < (l : Int) := by omega
      have hlk := LEN.out k hk
      obtain ⟨c0, c1, c2⟩ := R.at (k := k) (by omega)
      rw [MQ.out k hlt] at c0 c1 c2
      have ST := STEP.out k hlt
      obtain ⟨x1, y1⟩ := HX.out k hlt
      have EC := C2.out k hlt
      replace p5 := keep_cell hbel p5
      replace q0 := keep_cell hbel q0
      replace q1 := keep_cell hbel q1
      have U : IntKind.i64.wrap (16 - (mq M k).y) = 16 - (mq M k).y := wi64 _ (by omega)
      have hmx : fstM f k M = fstM f k M := rfl
      have SX := fun (W : World) (hW : RowM W g (fstM f k M)) (x : Int) => hW.setX (k := k) (by omega) x
      have SY := fun (W : World) (x : Int) (hW : RowM W g ((fstM f k M).set k ⟨x, (mq (fstM f k M) k).y, (mq (fstM f k M) k).z⟩)) (y : Int) => hW.setY (k := k) (by rw [List.length_set]; omega) y
      have hgl := R.lt
      have FR := (R.c (k * 3) (by omega)).2
      have FR1 := (R.c (k * 3 + 1) (by omega)).2
      generalize (mq M k).x = mx at c0 EC x1 ST
      generalize (mq M k).y = my at c1 U y1 ST
      generalize (mq M k).z = mz at c2 ST
      generalize Plain.ed sh false n mx = ex at EC ST
      have SX' := Lib.hid SX
      have SY' := Lib.hid SY
      have bM : Below wr.heap.size wr (wr.alloc (Obj.cells #[Value.int IntKind.i64 mx, Value.int IntKind.i64 my, Value.int IntKind.i64 mz] 78)) := (Below.refl _ _).alloc (Nat.le_refl _) _
      have p5m := keep_cell bM p5
      have q0m := keep_cell bM q0
      have q1m := keep_cell bM q1
      clear SX SY hmx bM
      go_wp2_with fail
      refine (EC _).mono ?_
      rintro e w3 ⟨rfl, hb3⟩
      have bA : Below wr.heap.size wr w3 := keep_below ((Below.refl _ _).alloc (Nat.le_refl _) _) hb3
      have d1 : w3.cell? ⟨wr.heap.size, 1, none⟩ = some (.int .i64 my) := keep_cell hb3 (by go_simp)
      have R3 := R.keep bA
      have bel3 := keep_below hbel bA
      replace q1 := keep_cell bA q1
      have e0 := keep_cell bA c0
      have e1 := keep_cell bA c1
      have g0 := keep_frozen bA c0 FR
      have g1 := keep_frozen bA c1 FR1
      have R4 := SX'.out w3 R3 ex
      have bel4 := bel3.setCell (p := ⟨g, k * 3, none⟩) hg (.int .i64 ex)
      have hne : wr.heap.size ≠ g := by omega
      have hne1 : w.heap.size + 1 ≠ g := by have := HSZ.out; omega
      clear EC hb3 c0 c1 c2 FR FR1 p5 q0 p5m q0m q1m bA R3 bel3
      go_wp2_with fail
      rw [ST] at R4
      exact ⟨⟨k + 1, by omega, by simp, R4, bel4⟩, by simp [intOf]; omega⟩
    · obtain rfl : k = l := by omega
      have CS := C3.out g cap2 wr hg R
      rw [LEN.out k (Nat.le_refl _)] at CS
      go_wp2_with fail
      refine CS.mono ?_
      rintro e w3 ⟨rfl, R3, hb3⟩
      go_wp2
      go_ret
      rw [DONE.out] at R3
      exact ⟨g, cap2, rfl, R3, HBW.out.trans ((hbel.trans hb3).mono (by have := HSZ.out; omega)), by have := HSZ.out; omega⟩

set_option maxRecDepth 100000 in
set_option maxHeartbeats 8000000 in
theorem resetMarks_T (id c r m s : Int) (ag : Option Addr) (n gcap : Nat) (b off cap : Nat) (M : List M3) (sh : Int) (w : World) (hM : ∀ j, j < M.length * 3 → w.cell? ⟨b, off + j, none⟩ = some (mcell M j)) (h0 : 0 < M.length) (h1 : M.length ≤ 1000000)
    (hs : vset sh (n : Nat) = true) (hx : ∀ k, k < M.length → (0 ≤ (mq M k).x ∧ (mq M k).x < n) ∧ 0 ≤ (mq M k).y ∧ (mq M k).y ≤ 16) :
    Calls Tryz.prog 52 #[pcs id c r m s (.slice ag n gcap) (.slice (some ⟨b, off, none⟩) M.length cap), st sh true] w fun e w' => ∃ g cap, e = .returned (.slice (some ⟨g, 0, none⟩) M.length cap) ∧ RowM w' g (shM n sh true M) ∧ Below w.heap.size w w' ∧ w.heap.size ≤ g := by
  obtain ⟨f, hf⟩ : ∃ f, setM n sh true = f := ⟨_, rfl⟩
  obtain ⟨W0, hW0⟩ : ∃ W0, (w.alloc (pcsObj id c r m s (.slice ag n gcap) (.slice (some ⟨b, off, none⟩) M.length cap))).alloc (stObj sh true) = W0 := ⟨_, rfl⟩
  have hbw : Below w.heap.size w W0 := by rw [← hW0]; exact ((Below.refl _ _).alloc (Nat.le_refl _) _).alloc (by simp) _
  have hsz : W0.heap.size = w.heap.size + 2 := by rw [← hW0]; simp
  have p5 : W0.cell? ⟨w.heap.size, 5, none⟩ = some (.slice ag n gcap) := by
    rw [← hW0]; exact cell_of ((alloc_heap_old _ _ (by simp)).trans (pcs_new w id c r m s _ _)) rfl
  have p6 : W0.cell? ⟨w.heap.size, 6, none⟩ = some (.slice (some ⟨b, off, none⟩) M.length cap) := by
    rw [← hW0]; exact cell_of ((alloc_heap_old _ _ (by simp)).trans (pcs_new w id c r m s _ _)) rfl
  have q0 : W0.cell? ⟨w.heap.size + 1, 0, none⟩ = some (.int .i64 sh) := by
    rw [← hW0]; have := (st_new (w.alloc (pcsObj id c r m s (.slice ag n gcap) (.slice (some ⟨b, off, none⟩) M.length cap))) sh true).1; rwa [World.size_alloc] at this
  have q1 : W0.cell? ⟨w.heap.size + 1, 1, none⟩ = some (.bool true) := by
    rw [← hW0]; have := (st_new (w.alloc (pcsObj id c r m s (.slice ag n gcap) (.slice (some ⟨b, off, none⟩) M.length cap))) sh true).2; rwa [World.size_alloc] at this
  have C1 := Lib.hid (cloneM_some b off cap M h0 h1 W0 (fun j hj => keep_cell hbw (hM j hj)))
  have C2 := Lib.hid (fun (k : Nat) (hk : k < M.length) w => edgeP_any sh n (mq M k).x true w hs (hx k hk).1.1 (hx k hk).1.2)
  have C3 := Lib.hid (fun (g cap' : Nat) (wr : World) (hg : W0.heap.size ≤ g) (R : RowM wr g (fstM f M.length M)) => sortMs_any (fstM f M.length M) g cap' W0.heap.size wr R (by rw [fstM_len f (Nat.le_refl _)]; exact h1) hg)
  have HX := Lib.hid hx
  have LEN := Lib.hid (fun (k : Nat) (hk : k ≤ M.length) => fstM_len f (M := M) hk)
  have MQ := Lib.hid (fun (k : Nat) (hk : k < M.length) => fstM_mq f (M := M) hk)
  have STEP := Lib.hid (fun (k : Nat) (hk : k < M.length) => fst_stepT (f := f) (M := M) (x := Plain.ed sh true n (mq M k).x) (y := 16 - (mq M k).y) hk (by rw [← hf]; rfl))
  have DONE := Lib.hid (show sortM (fstM f M.length M) = shM n sh true M by rw [fstM_all, ← hf]; rfl)
  have F0 := Lib.hid (fstM_zero f M)
  have HBW := Lib.hid hbw
  have HSZ := Lib.hid hsz
  clear hM hx hf hbw
  obtain ⟨l, hl⟩ : ∃ l, M.length = l := ⟨_, rfl⟩
  rw [hl] at C1 C2 C3 HX LEN MQ STEP DONE p6 h0 h1
  rw [hl] at hW0
  rw [hl]
  clear hl
  clear hs
  go_enter Tryz.func52, Tryz.ntmps52
  go_wp2_with fail
  clear hW0
  refine C1.out.mono ?_
  rintro e w2 ⟨g, cap2, rfl, hg, R0, hb2⟩
  clear C1
  go_wp2_with fail
  go_loopw [13] (fun i wr => ∃ k : Nat, k ≤ l ∧ i = .int .i64 k ∧ RowM wr g (fstM f k M) ∧ Below W0.heap.size W0 wr) (fun i _ => l - (intOf i).toNat)
  case atStart => exact ⟨0, Nat.zero_le _, rfl, by rw [F0.out]; exact R0, hb2⟩
  case round =>
    clear R0 hb2 w2
    obtain ⟨k, hk, rfl, R, hbel⟩ := hrel
    by_cases hlt : k < l
    · have j1 : (k : Int) < (l : Int) := by omega
      have hlk := LEN.out k hk
      obtain ⟨c0, c1, c2⟩ := R.at (k := k) (by omega)
      rw [MQ.out k hlt] at c0 c1 c2
      have ST := STEP.out k hlt
      obtain ⟨x1, y1⟩ := HX.out k hlt
      have EC := C2.out k hlt
      replace p5 := keep_cell hbel p5
      replace q0 := keep_cell hbel q0
      replace q1 := keep_cell hbel q1
      have U : IntKind.i64.wrap (16 - (mq M k).y) = 16 - (mq M k).y := wi64 _ (by omega)
      have hmx : fstM f k M = fstM f k M := rfl
      have SX := fun (W : World) (hW : RowM W g (fstM f k M)) (x : Int) => hW.setX (k := k) (by omega) x
      have SY := fun (W : World) (x : Int) (hW : RowM W g ((fstM f k M).set k ⟨x, (mq (fstM f k M) k).y, (mq (fstM f k M) k).z⟩)) (y : Int) => hW.setY (k := k) (by rw [List.length_set]; omega) y
      have hgl := R.lt
      have FR := (R.c (k * 3) (by omega)).2
      have FR1 := (R.c (k * 3 + 1) (by omega)).2
      generalize (mq M k).x = mx at c0 EC x1 ST
      generalize (mq M k).y = my at c1 U y1 ST
      generalize (mq M k).z = mz at c2 ST
      generalize Plain.ed sh true n mx = ex at EC ST
      have SX' := Lib.hid SX
      have SY' := Lib.hid SY
      have bM : Below wr.heap.size wr (wr.alloc (Obj.cells #[Value.int IntKind.i64 mx, Value.int IntKind.i64 my, Value.int IntKind.i64 mz] 78)) := (Below.refl _ _).alloc (Nat.le_refl _) _
      have p5m := keep_cell bM p5
      have q0m := keep_cell bM q0
      have q1m := keep_cell bM q1
      clear SX SY hmx bM
      go_wp2_with fail
      refine (EC _).mono ?_
      rintro e w3 ⟨rfl, hb3⟩
      have bA : Below wr.heap.size wr w3 := keep_below ((Below.refl _ _).alloc (Nat.le_refl _) _) hb3
      have d1 : w3.cell? ⟨wr.heap.size, 1, none⟩ = some (.int .i64 my) := keep_cell hb3 (by go_simp)
      have R3 := R.keep bA
      have bel3 := keep_below hbel bA
      replace q1 := keep_cell bA q1
      have e0 := keep_cell bA c0
      have e1 := keep_cell bA c1
      have g0 := keep_frozen bA c0 FR
      have g1 := keep_frozen bA c1 FR1
      have R4 := SX'.out w3 R3 ex
      have bel4 := bel3.setCell (p := ⟨g, k * 3, none⟩) hg (.int .i64 ex)
      have hne : wr.heap.size ≠ g := by omega
      have hne1 : w.heap.size + 1 ≠ g := by have := HSZ.out; omega
      clear EC hb3 c0 c1 c2 FR FR1 p5 q0 p5m q0m q1m bA R3 bel3
      go_wp2_with fail
      have R5 := SY'.out _ ex R4 (16 - my)
      have bel5 := bel4.setCell (p := ⟨g, k * 3 + 1, none⟩) hg (.int .i64 (16 - my))
      rw [ST] at R5
      exact ⟨⟨k + 1, by omega, by simp, R5, bel5⟩, by simp [intOf]; omega⟩
    · obtain rfl : k = l := by omega
      have CS := C3.out g cap2 wr hg R
      rw [LEN.out k (Nat.le_refl _)] at CS
      go_wp2_with fail
      refine CS.mono ?_
      rintro e w3 ⟨rfl, R3, hb3⟩
      go_wp2
      go_ret
      rw [DONE.out] at R3
      exact ⟨g, cap2, rfl, R3, HBW.out.trans ((hbel.trans hb3).mono (by have := HSZ.out; omega)), by have := HSZ.out; omega⟩

end Go.Proofs.YtcfapbccegijnaaGreat

/- Marks put in order one after the other: there is one order. -/
namespace Go.Proofs.YtcfapbccegijnaaGreat
open Go Go.RowKit Go.Proofs

/-- Not later. -/
def leM (a b : M3) : Prop := Go.Proofs.ltOf cfM b a = false

theorem leM_trans {a b c : M3} (h1 : leM a b) (h2 : leM b c) : leM a c := by
  unfold leM at *
  rw [ltM_not] at *
  omega
theorem leM_of_lt {a b : M3} (h : Go.Proofs.ltOf cfM a b = true) : leM a b := by
  unfold leM
  rw [ltM_iff] at h
  rw [ltM_not]
  omega
theorem leM_total (a b : M3) : leM a b ∨ leM b a := by
  unfold leM
  rw [ltM_not, ltM_not]
  omega

theorem sortM_pairwise (M : List M3) : (sortM M).Pairwise leM := by
  have h := List.pairwise_mergeSort (le := fun x y => !Go.Proofs.ltOf cfM y x) (fun a b c h1 h2 => by
    simp only [Bool.not_eq_true'] at *
    exact leM_trans (a := a) (b := b) (c := c) h1 h2) (fun a b => by
    rcases leM_total a b with h | h
    · unfold leM at h; simp [h]
    · unfold leM at h; simp [h]) M
  exact h.imp (fun h => by simpa [leM] using h)

theorem sortM_perm (M : List M3) : (sortM M).Perm M := List.mergeSort_perm _ _

theorem sorted_eq {L M : List M3} (h : L.Pairwise leM) (hp : L.Perm M) : L = sortM M :=
  List.Perm.eq_of_pairwise (le := leM) (fun a b _ _ h1 h2 => partM a b h2 h1) h (sortM_pairwise M) (hp.trans (sortM_perm M).symm)

/-- The list with the mark put in at t. -/
def putM (L : List M3) (t : Nat) (m : M3) : List M3 := L.take t ++ [m] ++ L.drop t

theorem putM_len (L : List M3) {t : Nat} (m : M3) (h : t ≤ L.length) : (putM L t m).length = L.length + 1 := by
  unfold putM; simp; omega

theorem putM_perm (L : List M3) (t : Nat) (m : M3) : (putM L t m).Perm (L ++ [m]) := by
  unfold putM
  have h1 : (L.take t ++ [m] ++ L.drop t).Perm (m :: (L.take t ++ L.drop t)) := by
    rw [List.append_assoc]
    exact List.perm_middle
  rw [List.take_append_drop] at h1
  exact h1.trans (List.perm_append_singleton m L).symm

theorem putM_sorted {L : List M3} {t : Nat} {m : M3} (hs : L.Pairwise leM) (ht : t ≤ L.length) (h1 : ∀ j, t ≤ j → j < L.length → Go.Proofs.ltOf cfM m (mq L j) = true)
    (h2 : t = 0 ∨ Go.Proofs.ltOf cfM m (mq L (t - 1)) = false) : (putM L t m).Pairwise leM := by
  have ha : ∀ x ∈ L.take t, leM x m := by
    intro x hx
    obtain ⟨j, hj, rfl⟩ := List.mem_iff_getElem.1 hx
    simp only [List.length_take] at hj
    rw [List.getElem_take]
    rcases h2 with h | h
    · omega
    · rw [mq_get (by omega)] at h
      by_cases e : j = t - 1
      · subst e; exact h
      · exact leM_trans (List.pairwise_iff_getElem.1 hs j (t - 1) (by omega) (by omega) (by omega)) h
  have hb : ∀ x ∈ L.drop t, leM m x := by
    intro x hx
    obtain ⟨j, hj, rfl⟩ := List.mem_iff_getElem.1 hx
    simp only [List.length_drop] at hj
    rw [List.getElem_drop]
    have := h1 (t + j) (by omega) (by omega)
    rw [mq_get (by omega)] at this
    exact leM_of_lt this
  unfold putM
  rw [List.append_assoc, List.pairwise_append]
  refine ⟨hs.sublist (List.take_sublist _ _), ?_, fun x hx y hy => ?_⟩
  · rw [List.singleton_append, List.pairwise_cons]
    exact ⟨hb, hs.sublist (List.drop_sublist _ _)⟩
  · rw [List.singleton_append, List.mem_cons] at hy
    rcases hy with rfl | hy
    · exact ha x hx
    · exact leM_trans (ha x hx) (hb y hy)

theorem mv_putM (L : List M3) (t : Nat) (m : M3) : mv (putM L t m) = mv (L.take t) ++ mv1 m ++ mv (L.drop t) := by simp [putM, mv]

theorem RowM.sub {W : World} {g : Nat} {D : List M3} (h : RowM W g D) (t l : Nat) (hl : t + l ≤ D.length) : ∀ j u, (mv ((D.drop t).take l))[j]? = some u → W.cell? (Addr.add ⟨g, t * 3, none⟩ j) = some u := by
  intro j u hu
  have hj : j < ((D.drop t).take l).length * 3 := by
    have := (List.getElem?_eq_some_iff.1 hu).1
    rwa [mv_len] at this
  rw [mcell_mv hj] at hu
  cases hu
  simp only [List.length_take, List.length_drop] at hj
  rw [Addr.add_lit, (h.c (t * 3 + j) (by omega)).1]
  have e : mq ((D.drop t).take l) (j / 3) = mq D (t + j / 3) := by
    rw [mq_get (by simp; omega), mq_get (by omega)]
    simp
  unfold mcell
  rw [e, show (t * 3 + j) % 3 = j % 3 by omega, show (t * 3 + j) / 3 = t + j / 3 by omega]

end Go.Proofs.YtcfapbccegijnaaGreat

/- Walks: the reference puts marks in order. -/
namespace Go.Proofs.YtcfapbccegijnaaGreat
open Go Go.RowKit Go.Proofs

/-- The value is nil, or a slice of one's own block, that holds the marks. -/
def IsM (W : World) (B : Nat) (v : Value) (L : List M3) : Prop :=
  (L = [] ∧ v = .slice none 0 0) ∨ ∃ g cap, v = .slice (some ⟨g, 0, none⟩) L.length cap ∧ 0 < L.length ∧ B ≤ g ∧ L.length ≤ cap ∧ RowM W g L

theorem isM_own {W : World} {B : Nat} {v : Value} {L : List M3} (h : W.ownsRow B 78 3 v L.length (mv L)) (hL : 0 < L.length) : ∃ g cap, v = .slice (some ⟨g, 0, none⟩) L.length cap ∧ 0 < L.length ∧ B ≤ g ∧ L.length ≤ cap ∧ RowM W g L := by
  have h' := h
  rcases h.2 with ⟨-, h2⟩ | ⟨g, cap, cur, rfl, e2, e3, e4, e5, e6, e7⟩
  · omega
  · refine ⟨g, cap, rfl, hL, e2, e4, (Array.getElem?_eq_some_iff.1 e3).1, fun j hj => ⟨by rw [h'.cellAt j (by omega), mcell_mv hj], h'.frozenAt j⟩⟩

theorem IsM.keep {W W' : World} {B : Nat} {v : Value} {L : List M3} (h : IsM W B v L) (hb : Below W.heap.size W W') : IsM W' B v L := by
  rcases h with h | ⟨g, cap, h1, h2, h3, h4, h5⟩
  · exact .inl h
  · exact .inr ⟨g, cap, h1, h2, h3, h4, h5.keep hb⟩

theorem IsM.slm {W : World} {B : Nat} {v : Value} {L : List M3} (h : IsM W B v L) (hl : L.length ≤ 1000000) : SlM W v L := by
  rcases h with ⟨rfl, rfl⟩ | ⟨g, cap, rfl, h2, h3, h4, h5⟩
  · exact slm_nil W
  · exact h5.slm cap hl

/-- The first k marks are in order. -/
def OrdM (M : List M3) (w : World) (k : Nat) (v : Value) (W : World) : Prop :=
  ∃ L : List M3, L.length = k ∧ L.Perm (M.take k) ∧ L.Pairwise leM ∧ IsM W w.heap.size v L ∧ Below w.heap.size w W

theorem ordM_next {M L : List M3} {w W : World} {k t : Nat} {v : Value} (hLl : L.length = k) (hLp : L.Perm (M.take k)) (hLs : L.Pairwise leM) (hk : k < M.length) (ht : t ≤ k) (h1 : ∀ j, t ≤ j → j < L.length → Go.Proofs.ltOf cfM (mq M k) (mq L j) = true)
    (h2 : t = 0 ∨ Go.Proofs.ltOf cfM (mq M k) (mq L (t - 1)) = false) (hW : W.ownsRow w.heap.size 78 3 v (k + 1) (mv (putM L t (mq M k)))) (hb : Below w.heap.size w W) : OrdM M w (k + 1) v W := by
  have hl' : (putM L t (mq M k)).length = k + 1 := by rw [putM_len _ _ (by omega), hLl]
  refine ⟨putM L t (mq M k), hl', ?_, putM_sorted hLs (by omega) h1 h2, ?_, hb⟩
  · rw [List.take_add_one, List.getElem?_eq_getElem (by omega), ← mq_get (by omega)]
    exact (putM_perm L t (mq M k)).trans (hLp.append_right _)
  · rw [← hl'] at hW
    exact .inr (isM_own hW (by omega))

set_option maxRecDepth 100000 in
set_option maxHeartbeats 8000000 in
theorem inOrder_some (M : List M3) (b off cap : Nat) (w : World) (hM : ∀ j, j < M.length * 3 → w.cell? ⟨b, off + j, none⟩ = some (mcell M j)) (hl : M.length ≤ 1000) :
    Calls Tryz.prog 148 #[.slice (some ⟨b, off, none⟩) M.length cap] w fun e w' => ∃ v', e = .returned v' ∧ IsM w' w.heap.size v' (sortM M) ∧ Below w.heap.size w w' := by
  obtain ⟨i0, hi, hz0, hz1, hz2⟩ := info_parts info61
  have HC := Lib.hid (fun (k : Nat) (hk : k < M.length) => (show w.cell? ⟨b, off + k * 3, none⟩ = some (.int .i64 (mq M k).x) ∧ w.cell? ⟨b, off + k * 3 + 1, none⟩ = some (.int .i64 (mq M k).y) ∧ w.cell? ⟨b, off + k * 3 + 2, none⟩ = some (.int .i64 (mq M k).z) from
    ⟨by rw [hM _ (by omega), mcell_0], by rw [Nat.add_assoc, hM _ (by omega), mcell_1], by rw [Nat.add_assoc, hM _ (by omega), mcell_2]⟩))
  have FIN := Lib.hid (show ∀ v W, OrdM M w M.length v W → IsM W w.heap.size v (sortM M) ∧ Below w.heap.size w W from fun v W ⟨L, h1, h2, h3, h4, h5⟩ => by
    rw [List.take_of_length_le (Nat.le_refl _)] at h2
    rw [← sorted_eq h3 h2]
    exact ⟨h4, h5⟩)
  clear hM
  obtain ⟨n, hn⟩ : ∃ n, M.length = n := ⟨_, rfl⟩
  rw [hn] at HC FIN hl ⊢
  have HN := Lib.hid hn
  clear hn
  go_enter Tryz.func148, Tryz.ntmps148
  go_wp2_with fail
  go_loopw [3, 4] (fun sv i wr => ∃ k : Nat, k ≤ n ∧ i = .int .i64 k ∧ OrdM M w k sv wr) (fun _ i _ => n - (intOf i).toNat)
  case atStart => exact ⟨0, Nat.zero_le _, rfl, [], rfl, by simp, List.Pairwise.nil, .inl ⟨rfl, rfl⟩, Below.refl _ _⟩
  case round =>
    obtain ⟨k, hk, rfl, hord⟩ := hrel
    by_cases hlt : k < n
    · have j1 : (k : Int) < (n : Int) := by omega
      have hkM : k < M.length := by rw [HN.out]; exact hlt
      obtain ⟨L, hLl, hLp, hLs, hI, hbel⟩ := hord
      obtain ⟨c0, c1, c2⟩ := HC.out k hlt
      replace c0 := keep_cell hbel c0
      replace c1 := keep_cell hbel c1
      replace c2 := keep_cell hbel c2
      rcases hI with ⟨rfl, rfl⟩ | ⟨g, cap2, rfl, hL0, hg, hcap, RR⟩
      · simp only [List.length_nil] at hLl
        subst hLl
        have NEXT := Lib.hid (show ∀ v W, W.ownsRow w.heap.size 78 3 v (0 + 1) (mv1 (mq M 0)) → Below w.heap.size w W → OrdM M w (0 + 1) v W from fun v W hW hb => ordM_next (L := []) (t := 0) rfl (by simp) List.Pairwise.nil hkM (Nat.le_refl 0) (fun j h1 h2 => absurd h2 (by simp)) (.inl rfl) (by rw [mv_putM]; simpa [mv] using hW) hb)
        have R0 : ∀ W, (Builtin.append_ #[23, 23] 23 #[.slice none 0 0, .slice none 0 0]).run Tryz.prog W = .ok (.slice none 0 0) W := fun W => by kernel_rfl
        have HR0 := Lib.hid R0
        clear R0 hLp hLs
        rw [show off + 0 * 3 = off by omega] at c0 c1 c2
        obtain ⟨W1, hW1⟩ : ∃ W1, W1 = wr := ⟨_, rfl⟩
        subst hW1
        go_wp2_with fail
        go_loopw [5] (fun i wi => i = .int .i64 0 ∧ Below W1.heap.size W1 wi) (fun _ _ => 0)
        case atStart => exact ⟨rfl, Below.refl _ _⟩
        case round =>
          obtain ⟨rfl, hwi⟩ := hrel
          go_wp2_with fail
          refine wp_region_grow (by kernel_rfl) (by kernel_rfl) ?_
          repeat (go_big_quiet_step (fail))
          refine wpQuiet_nil ?_
          rintro wj ⟨g', hg'⟩
          have hwj : Below W1.heap.size W1 wj := keep_below hwi (by rw [hg']; exact g'.b)
          clear hg' g' hwi
          have hWI : Below w.heap.size w wj := hbel.trans (hwj.mono hbel.size)
          have hsz0 := hWI.size
          have e0 := keep_cell hwj c0
          have e1 := keep_cell hwj c1
          have e2 := keep_cell hwj c2
          have M1 := Lib.hid (show mv1 (mq M 0) = [.int .i64 (mq M 0).x, .int .i64 (mq M 0).y, .int .i64 (mq M 0).z] from rfl)
          generalize mv1 (mq M 0) = M1v at NEXT M1
          generalize (mq M 0).x = mx at e0 M1
          generalize (mq M 0).y = my at e1 M1
          generalize (mq M 0).z = mz at e2 M1
          clear c0 c1 c2 hwj hbel
          go_wp2_with (first
            | (at_builtin; refine Lib.wpList_append_run _ rfl _ _ _ _ rfl _ _ rfl rfl _ _ (HR0.out _) ?_)
            | (at_builtin; refine wpList_append_own _ rfl _ _ 23 rfl wj.heap.size 78 i0 (mk 0 0 0) 3 24 Tryz.underlying23 hi hz0 hz1 hz2 rfl (by decide) _ _ _ rfl (World.ownsRow_nil _ _ _ _) _ 1 1 [.int .i64 mx, .int .i64 my, .int .i64 mz] rfl rfl (three_new _ _ _ _) (three_cells _ _ _) (by unfold maxLen; omega) (by omega) (by simp) ?_; intro v2 w2 own2 gr2 nil2
               have bel2 := ((Below.refl wj.heap.size wj).alloc (Nat.le_refl _) (mkObj mx my mz)).grown gr2 (by simp) (fun j hj => by cases hj)
               have own3 : w2.ownsRow wj.heap.size 78 3 v2 (0 + 1) [.int .i64 mx, .int .i64 my, .int .i64 mz] := by simpa using own2
               obtain ⟨g2, cp2, hv2, hcp⟩ : ∃ g2 cp2, v2 = .slice (some ⟨g2, 0, none⟩) 1 cp2 ∧ 1 ≤ cp2 := by
                 rcases own3.2 with ⟨-, h⟩ | ⟨g2, cp2, cur, h, -, -, h4, -⟩
                 · omega
                 · exact ⟨g2, cp2, h, by omega⟩
               subst hv2
               clear nil2 gr2 own2))
          have own4 := own_base own3 (B' := w.heap.size) (by omega)
          rw [← M1.out] at own4
          exact ⟨⟨0 + 1, by omega, by simp, NEXT.out _ _ own4 (keep_below hWI bel2)⟩, by simp [intOf]; omega⟩
      · rw [hLl] at hL0 hcap
        have hgl := RR.lt
        rw [show Value.slice (some ⟨g, 0, none⟩) L.length cap2 = .slice (some ⟨g, 0, none⟩) k cap2 by rw [hLl]]
        obtain ⟨W1, hW1⟩ : ∃ W1, W1 = wr := ⟨_, rfl⟩
        subst hW1
        go_wp2_with fail
        go_loopw [5] (fun i wi => ∃ t : Nat, t ≤ k ∧ i = .int .i64 t ∧ (∀ j, t ≤ j → j < k → Go.Proofs.ltOf cfM (mq M k) (mq L j) = true) ∧ Below W1.heap.size W1 wi) (fun i _ => (intOf i).toNat)
        case atStart => exact ⟨k, Nat.le_refl _, rfl, fun j h1 h2 => absurd h1 (by omega), Below.refl _ _⟩
        case round =>
          obtain ⟨t, ht, rfl, hall, hwi⟩ := hrel
          by_cases hz : t = 0
          · have HSTOP : t = 0 ∨ Go.Proofs.ltOf cfM (mq M k) (mq L (t - 1)) = false := .inl hz
            have jz : decide (0 < t) = false := decide_eq_false (by omega)
            clear hz
            go_wp2_with fail
            refine wp_region_grow (by kernel_rfl) (by kernel_rfl) ?_
            repeat (go_big_quiet_step (fail))
            refine wpQuiet_nil ?_
            rintro wj ⟨g', hg'⟩
            have hwj : Below W1.heap.size W1 wj := keep_below hwi (by rw [hg']; exact g'.b)
            clear hg' g' hwi jz
            have hWI : Below w.heap.size w wj := hbel.trans (hwj.mono hbel.size)
            have hRi := RR.keep hwj
            have NA := Lib.hid (show ∀ j u, (mv (L.take t))[j]? = some u → wj.cell? (Addr.add ⟨g, 0, none⟩ j) = some u from fun j u hu => by
              have := hRi.sub 0 t (by omega) j u (by simpa using hu)
              simpa using this)
            have NB' := Lib.hid (show ∀ W, Below wj.heap.size wj W → ∀ j u, (mv (L.drop t))[j]? = some u → W.cell? (Addr.add ⟨g, t * 3, none⟩ j) = some u from fun W hW j u hu => (hRi.keep hW).sub t (L.length - t) (by omega) j u (by rw [List.take_of_length_le (by simp)]; exact hu))
            have NL := Lib.hid (show (mv (L.take t)).length = t * 3 by rw [mv_len]; simp; omega)
            have NR := Lib.hid (show (mv (L.drop t)).length = (k - t) * 3 by rw [mv_len]; simp; omega)
            have NE := Lib.hid (show cap2 = t → ∀ W : World, ∀ j u, (mv (L.drop t))[j]? = some u → W.cell? (Addr.add ⟨g, 0, none⟩ j) = some u from fun h W j u hu => by
              rw [List.drop_eq_nil_of_le (by omega)] at hu
              simp [mv] at hu)
            have NEXT := Lib.hid (show ∀ v W, W.ownsRow w.heap.size 78 3 v (k + 1) (mv (putM L t (mq M k))) → Below w.heap.size w W → OrdM M w (k + 1) v W from fun v W hW hb => ordM_next hLl hLp hLs (by omega) ht (fun j h1 h2 => hall j h1 (by omega)) HSTOP hW hb)
            have hsz0 := hWI.size
            have e0 := keep_cell hwj c0
            have e1 := keep_cell hwj c1
            have e2 := keep_cell hwj c2
            have MV := Lib.hid (mv_putM L t (mq M k))
            have M1 := Lib.hid (show mv1 (mq M k) = [.int .i64 (mq M k).x, .int .i64 (mq M k).y, .int .i64 (mq M k).z] from rfl)
            have O1 := Lib.hid (mv_one (L.take t))
            have O2 := Lib.hid (mv_one (L.drop t))
            have j4 : (t : Int) ≤ (k : Int) := by omega
            have j5 : (0 : Int) ≤ (t : Int) := by omega
            have j6 : (k : Int) ≤ (cap2 : Int) := by omega
            have j7 : (t : Int) ≤ (cap2 : Int) := by omega
            generalize mv (putM L t (mq M k)) = PM at NEXT MV
            generalize mv1 (mq M k) = M1v at MV M1
            generalize mv (L.take t) = LT at NA NL MV O1
            generalize mv (L.drop t) = LD at NB' NE NR MV O2
            generalize (mq M k).x = mx at e0 M1
            generalize (mq M k).y = my at e1 M1
            generalize (mq M k).z = mz at e2 M1
            clear RR hRi hall HSTOP hLp hLs c0 c1 c2 hwj hbel
            by_cases hct : cap2 = t
            all_goals
              go_wp2_with (first
                | (at_builtin; refine wpList_append_own _ rfl _ _ 23 rfl wj.heap.size 78 i0 (mk 0 0 0) 3 24 Tryz.underlying23 hi hz0 hz1 hz2 rfl (by decide) _ _ _ rfl own2 ⟨g, t * 3, none⟩ (k - t) _ LD rfl NR.out (NB'.out _ bel2) O2.out (by unfold maxLen; omega) (by omega) bel2.size ?_; intro v3 w3 own3 gr3 nil3)
                | (at_builtin; refine wpList_append_own _ rfl _ _ 23 rfl wj.heap.size 78 i0 (mk 0 0 0) 3 24 Tryz.underlying23 hi hz0 hz1 hz2 rfl (by decide) _ _ _ rfl own2 ⟨g, 0, none⟩ (k - t) _ LD rfl NR.out (NE.out hct _) O2.out (by unfold maxLen; omega) (by omega) bel2.size ?_; intro v3 w3 own3 gr3 nil3)
                | (at_builtin; refine wpList_append_own _ rfl _ _ 23 rfl wj.heap.size 78 i0 (mk 0 0 0) 3 24 Tryz.underlying23 hi hz0 hz1 hz2 rfl (by decide) _ _ _ rfl (own1.alloc _) _ 1 1 [.int .i64 mx, .int .i64 my, .int .i64 mz] rfl rfl (three_new _ _ _ _) (three_cells _ _ _) (by unfold maxLen; omega) (by omega) (by have := bel1.size; simp; omega) ?_; intro v2 w2 own2 gr2 nil2
                   have bel2 := (bel1.alloc bel1.size (mkObj mx my mz)).grown gr2 (by have := bel1.size; simp; omega) (fun j hj => (own1.lt j hj).1))
                | (at_builtin; refine wpList_append_own _ rfl _ _ 23 rfl wj.heap.size 78 i0 (mk 0 0 0) 3 24 Tryz.underlying23 hi hz0 hz1 hz2 rfl (by decide) _ _ _ rfl (World.ownsRow_nil _ _ _ _) ⟨g, 0, none⟩ t _ LT rfl NL.out NA.out O1.out (by unfold maxLen; omega) (by omega) (Nat.le_refl _) ?_; intro v1 w1 own1 gr1 nil1
                   have bel1 := (Below.refl wj.heap.size wj).grown gr1 (Nat.le_refl _) (fun j hj => by cases hj)
                   have q0 := keep_cell bel1 e0
                   have q1 := keep_cell bel1 e1
                   have q2 := keep_cell bel1 e2))
              have bel3 := bel2.grown gr3 bel2.size (fun j hj => (own2.lt j hj).1)
              have own4 := own_base own3 (B' := w.heap.size) (by omega)
              rw [show 0 + t + 1 + (k - t) = k + 1 by omega, List.nil_append, ← M1.out, ← MV.out] at own4
              exact ⟨⟨k + 1, by omega, by simp, NEXT.out _ _ own4 (keep_below hWI bel3)⟩, by simp [intOf]; omega⟩
          · obtain ⟨s, rfl⟩ : ∃ s, t = s + 1 := ⟨t - 1, by omega⟩
            clear hz
            have hRw := RR.keep hwi
            obtain ⟨d0, d1, d2⟩ := hRw.at (k := s) (by omega)
            have f0 := keep_cell hwi c0
            have f1 := keep_cell hwi c1
            have f2 := keep_cell hwi c2
            obtain ⟨ev, hev⟩ : ∃ ev, Go.Proofs.ltOf cfM (mq M k) (mq L s) = ev := ⟨_, rfl⟩
            have C := fun w => earlier_any (mq M k).x (mq M k).y (mq M k).z (mq L s).x (mq L s).y (mq L s).z w
            rw [show decide (cmpM (mq M k).x (mq M k).y (mq M k).z (mq L s).x (mq L s).y (mq L s).z < 0) = ev from hev] at C
            have HEV := Lib.hid hev
            have HALL := Lib.hid hall
            have P0 := Lib.hid c0
            have P1 := Lib.hid c1
            have P2 := Lib.hid c2
            have j0 : (0 : Int) < (s : Int) + 1 := by omega
            have jd : decide ((0 : Int) < (s : Int) + 1) = true := decide_eq_true j0
            have j2 : (s : Int) < (k : Int) := by omega
            have j3 : (0 : Int) ≤ (s : Int) := by omega
            clear hev hall c0 c1 c2 hRw
            generalize (mq M k).x = m0 at f0 C
            generalize (mq M k).y = m1 at f1 C
            generalize (mq M k).z = m2 at f2 C
            generalize (mq L s).x = y0 at d0 C
            generalize (mq L s).y = y1 at d1 C
            generalize (mq L s).z = y2 at d2 C
            have G0 := grow_cell f0
            have G1 := grow_cell f1
            have G2 := grow_cell f2
            have G3 := grow_cell d0
            have G4 := grow_cell d1
            have G5 := grow_cell d2
            have e1 : IntKind.i64.wrap (s : Int) = s := wi64 _ (by omega)
            go_wp2_with fail
            refine wp_region_grow (by kernel_rfl) (by kernel_rfl) ?_
            repeat (go_big_quiet_step ((go_at_call 122; with_reducible exact calls_grow (C _))))
            refine wpQuiet_nil ?_
            rintro wj ⟨g', hg'⟩
            have hwj : Below W1.heap.size W1 wj := keep_below hwi (by rw [hg']; exact g'.b)
            clear hg' g' hwi G0 G1 G2 G3 G4 G5 f0 f1 f2 d0 d1 d2 C e1 j0 jd j2 j3
            cases ev
            · obtain ⟨t, hts⟩ : ∃ t, s + 1 = t := ⟨_, rfl⟩
              have HSTOP : t = 0 ∨ Go.Proofs.ltOf cfM (mq M k) (mq L (t - 1)) = false := .inr (by rw [← hts, Nat.add_sub_cancel]; exact HEV.out)
              have hall := HALL.out
              have c0 := P0.out
              have c1 := P1.out
              have c2 := P2.out
              rw [hts] at hall ht
              simp only [hts]
              clear hts HALL P0 P1 P2 HEV
              have hWI : Below w.heap.size w wj := hbel.trans (hwj.mono hbel.size)
              have hRi := RR.keep hwj
              have NA := Lib.hid (show ∀ j u, (mv (L.take t))[j]? = some u → wj.cell? (Addr.add ⟨g, 0, none⟩ j) = some u from fun j u hu => by
                have := hRi.sub 0 t (by omega) j u (by simpa using hu)
                simpa using this)
              have NB' := Lib.hid (show ∀ W, Below wj.heap.size wj W → ∀ j u, (mv (L.drop t))[j]? = some u → W.cell? (Addr.add ⟨g, t * 3, none⟩ j) = some u from fun W hW j u hu => (hRi.keep hW).sub t (L.length - t) (by omega) j u (by rw [List.take_of_length_le (by simp)]; exact hu))
              have NL := Lib.hid (show (mv (L.take t)).length = t * 3 by rw [mv_len]; simp; omega)
              have NR := Lib.hid (show (mv (L.drop t)).length = (k - t) * 3 by rw [mv_len]; simp; omega)
              have NE := Lib.hid (show cap2 = t → ∀ W : World, ∀ j u, (mv (L.drop t))[j]? = some u → W.cell? (Addr.add ⟨g, 0, none⟩ j) = some u from fun h W j u hu => by
                rw [List.drop_eq_nil_of_le (by omega)] at hu
                simp [mv] at hu)
              have NEXT := Lib.hid (show ∀ v W, W.ownsRow w.heap.size 78 3 v (k + 1) (mv (putM L t (mq M k))) → Below w.heap.size w W → OrdM M w (k + 1) v W from fun v W hW hb => ordM_next hLl hLp hLs (by omega) ht (fun j h1 h2 => hall j h1 (by omega)) HSTOP hW hb)
              have hsz0 := hWI.size
              have e0 := keep_cell hwj c0
              have e1 := keep_cell hwj c1
              have e2 := keep_cell hwj c2
              have MV := Lib.hid (mv_putM L t (mq M k))
              have M1 := Lib.hid (show mv1 (mq M k) = [.int .i64 (mq M k).x, .int .i64 (mq M k).y, .int .i64 (mq M k).z] from rfl)
              have O1 := Lib.hid (mv_one (L.take t))
              have O2 := Lib.hid (mv_one (L.drop t))
              have j4 : (t : Int) ≤ (k : Int) := by omega
              have j5 : (0 : Int) ≤ (t : Int) := by omega
              have j6 : (k : Int) ≤ (cap2 : Int) := by omega
              have j7 : (t : Int) ≤ (cap2 : Int) := by omega
              generalize mv (putM L t (mq M k)) = PM at NEXT MV
              generalize mv1 (mq M k) = M1v at MV M1
              generalize mv (L.take t) = LT at NA NL MV O1
              generalize mv (L.drop t) = LD at NB' NE NR MV O2
              generalize (mq M k).x = mx at e0 M1
              generalize (mq M k).y = my at e1 M1
              generalize (mq M k).z = mz at e2 M1
              clear RR hRi hall HSTOP hLp hLs c0 c1 c2 hwj hbel
              by_cases hct : cap2 = t
              all_goals
                go_wp2_with (first
                  | (at_builtin; refine wpList_append_own _ rfl _ _ 23 rfl wj.heap.size 78 i0 (mk 0 0 0) 3 24 Tryz.underlying23 hi hz0 hz1 hz2 rfl (by decide) _ _ _ rfl own2 ⟨g, t * 3, none⟩ (k - t) _ LD rfl NR.out (NB'.out _ bel2) O2.out (by unfold maxLen; omega) (by omega) bel2.size ?_; intro v3 w3 own3 gr3 nil3)
                  | (at_builtin; refine wpList_append_own _ rfl _ _ 23 rfl wj.heap.size 78 i0 (mk 0 0 0) 3 24 Tryz.underlying23 hi hz0 hz1 hz2 rfl (by decide) _ _ _ rfl own2 ⟨g, 0, none⟩ (k - t) _ LD rfl NR.out (NE.out hct _) O2.out (by unfold maxLen; omega) (by omega) bel2.size ?_; intro v3 w3 own3 gr3 nil3)
                  | (at_builtin; refine wpList_append_own _ rfl _ _ 23 rfl wj.heap.size 78 i0 (mk 0 0 0) 3 24 Tryz.underlying23 hi hz0 hz1 hz2 rfl (by decide) _ _ _ rfl (own1.alloc _) _ 1 1 [.int .i64 mx, .int .i64 my, .int .i64 mz] rfl rfl (three_new _ _ _ _) (three_cells _ _ _) (by unfold maxLen; omega) (by omega) (by have := bel1.size; simp; omega) ?_; intro v2 w2 own2 gr2 nil2
                     have bel2 := (bel1.alloc bel1.size (mkObj mx my mz)).grown gr2 (by have := bel1.size; simp; omega) (fun j hj => (own1.lt j hj).1))
                  | (at_builtin; refine wpList_append_own _ rfl _ _ 23 rfl wj.heap.size 78 i0 (mk 0 0 0) 3 24 Tryz.underlying23 hi hz0 hz1 hz2 rfl (by decide) _ _ _ rfl (World.ownsRow_nil _ _ _ _) ⟨g, 0, none⟩ t _ LT rfl NL.out NA.out O1.out (by unfold maxLen; omega) (by omega) (Nat.le_refl _) ?_; intro v1 w1 own1 gr1 nil1
                     have bel1 := (Below.refl wj.heap.size wj).grown gr1 (Nat.le_refl _) (fun j hj => by cases hj)
                     have q0 := keep_cell bel1 e0
                     have q1 := keep_cell bel1 e1
                     have q2 := keep_cell bel1 e2))
                have bel3 := bel2.grown gr3 bel2.size (fun j hj => (own2.lt j hj).1)
                have own4 := own_base own3 (B' := w.heap.size) (by omega)
                rw [show 0 + t + 1 + (k - t) = k + 1 by omega, List.nil_append, ← M1.out, ← MV.out] at own4
                exact ⟨⟨k + 1, by omega, by simp, NEXT.out _ _ own4 (keep_below hWI bel3)⟩, by simp [intOf]; omega⟩
            · go_wp2_with fail
              refine ⟨⟨s, by omega, by simp, fun j h1 h2 => ?_, hwj⟩, by simp [intOf]⟩
              rcases Nat.lt_or_ge s j with h | h
              · exact HALL.out j (by omega) h2
              · obtain rfl : j = s := by omega
                exact HEV.out
    · obtain rfl : k = n := by omega
      have FN := FIN.out _ _ hord
      go_wp2
      go_ret
      exact ⟨_, rfl, FN.1, FN.2⟩

end Go.Proofs.YtcfapbccegijnaaGreat

/- Walks: the reference's order of marks, whole; Laid. -/
namespace Go.Proofs.YtcfapbccegijnaaGreat
open Go Go.RowKit Go.Proofs

set_option maxRecDepth 100000 in
set_option maxHeartbeats 2000000 in
theorem inOrder_none (a : Option Addr) (cap : Nat) (w : World) :
    Calls Tryz.prog 148 #[.slice a 0 cap] w fun e w' => e = .returned (.slice none 0 0) ∧ w' = w := by
  go_enter Tryz.func148, Tryz.ntmps148
  go_wp2_with fail
  go_loopw [3, 4] (fun sv i wr => sv = .slice none 0 0 ∧ i = .int .i64 0 ∧ wr = w) (fun _ _ _ => 0)
  case atStart => exact ⟨rfl, rfl, rfl⟩
  case round =>
    obtain ⟨rfl, rfl, rfl⟩ := hrel
    go_wp2
    refine bodyPost_ret (v := .slice none 0 0) ?_ rfl ⟨rfl, rfl⟩
    first | rfl | kernel_rfl

theorem inOrder_any (M : List M3) (v : Value) (w : World) (h : SlM w v M) (hl : M.length ≤ 1000) :
    Calls Tryz.prog 148 #[v] w fun e w' => ∃ v', e = .returned v' ∧ IsM w' w.heap.size v' (sortM M) ∧ Below w.heap.size w w' := by
  by_cases h0 : M.length = 0
  · have hM := List.eq_nil_of_length_eq_zero h0
    subst hM
    obtain ⟨a, cap, rfl, -, -⟩ := h
    refine (inOrder_none a cap w).mono ?_
    rintro e w' ⟨rfl, rfl⟩
    exact ⟨_, rfl, .inl ⟨by simp [sortM], rfl⟩, Below.refl _ _⟩
  · obtain ⟨b, off, cap, rfl, hc⟩ := h.cellM (by omega)
    exact inOrder_some M b off cap w hc hl

set_option maxHeartbeats 1000000 in
theorem laid_any (s n i : Int) (b : Bool) (w : World) (h0 : 3 ≤ n) (hn : n ≤ 24) (h1 : 0 ≤ s) (h2 : s < n) (h3 : 0 ≤ i) (h4 : i < n) :
    Calls Tryz.prog 98 #[st s b, .int .i64 n, .int .i64 i] w fun e w' => e = .returned (.int .i64 (Plain.ed s b n i)) ∧ Below w.heap.size w w' := by
  have e1 := Plain.ed_back h1 h2 h3 h4
  have e2 := Plain.ed_forth h1 h2 h3 h4
  have E1 := Lib.hid e1
  have E2 := Lib.hid e2
  clear e1 e2
  have p1 : 0 ≤ s + n - i := by omega
  have p2 : 0 ≤ s + i := by omega
  have p3 : s + n - i ≤ 48 := by omega
  have p4 : s + i ≤ 48 := by omega
  have p5 : s + n ≤ 48 := by omega
  have p6 : 0 ≤ s + n := by omega
  have Q := Lib.hid (show s + n - i = s - i + n by omega)
  cases b
  · go_enter Tryz.func98, Tryz.ntmps98
    go_wp2
    go_ret
    exact ⟨ret_intG E2.out, (Below.refl _ _).alloc (Nat.le_refl _) _⟩
  · go_enter Tryz.func98, Tryz.ntmps98
    go_wp2
    go_ret
    refine ⟨ret_intG ?_, (Below.refl _ _).alloc (Nat.le_refl _) _⟩
    rw [Q.out]
    exact E1.out

end Go.Proofs.YtcfapbccegijnaaGreat
