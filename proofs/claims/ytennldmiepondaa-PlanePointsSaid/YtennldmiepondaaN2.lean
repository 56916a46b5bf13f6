/- The statement on points, walked. -/
import Derived.Test.YtennldmiepondaaN1
import Derived.Test.YtennldmiepondaaAwake
namespace Go.Proofs.Ytennldmiepondaa
open Go Go.RowKit Go.Proofs

set_option maxRecDepth 100000 in
set_option maxHeartbeats 1000000 in
theorem refMeetP_any (ax ay bx b_y cx cy dx dy : Int) (w : World) :
    Calls Try.prog 25 #[pt ax ay, pt bx b_y, pt cx cy, pt dx dy] w fun e w' => e = .returned (.tuple #[.int .i64 (meetV ax ay bx b_y cx cy dx dy), .int .i64 (meetE ax ay bx b_y cx cy dx dy)]) ∧ Below w.heap.size w w' := by
  obtain ⟨v, hv⟩ : ∃ v, meetV ax ay bx b_y cx cy dx dy = v := ⟨_, rfl⟩
  obtain ⟨u, hu⟩ : ∃ u, meetE ax ay bx b_y cx cy dx dy = u := ⟨_, rfl⟩
  rw [hv, hu]
  have HV : Hid ((allV ax ay bx b_y cx cy dx dy = false → v = 0 ∧ u = 1) ∧ (allV ax ay bx b_y cx cy dx dy = true → v = meetS ax ay bx b_y cx cy dx dy ∧ u = 0)) := by
    refine Lib.hid ?_
    rw [← hv, ← hu]
    unfold meetV meetE
    exact ⟨fun h => by rw [h]; exact ⟨rfl, rfl⟩, fun h => by rw [h]; exact ⟨rfl, rfl⟩⟩
  clear hv hu
  have hP := Pts.start w ax ay bx b_y cx cy dx dy
  obtain ⟨hbe, hn, c0, c1, c2, c3, c4, c5, c6, c7⟩ := id hP
  go_enter Try.func25, Try.ntmps25
  go_wp2_with fail
  refine (refValid_any _ _ _).mono ?_
  rintro e w1 ⟨rfl, hb⟩
  replace hP := hP.keep hb
  clear hb hbe hn c0 c1 c2 c3 c4 c5 c6 c7
  obtain ⟨hbe, hn, c0, c1, c2, c3, c4, c5, c6, c7⟩ := id hP
  obtain ⟨b0, hb0⟩ : ∃ b, valid ax ay = b := ⟨_, rfl⟩
  rw [hb0]
  have V0 := Lib.hid hb0
  clear hb0
  cases b0
  · have HE := HV.out.1 (by unfold allV; rw [V0.out]; simp)
    obtain ⟨rfl, rfl⟩ := HE
    go_wp2
    go_ret2
    exact ⟨rfl, hbe⟩
  · skip
    go_wp2_with fail
    refine (refValid_any _ _ _).mono ?_
    rintro e w2 ⟨rfl, hb⟩
    replace hP := hP.keep hb
    clear hb hbe hn c0 c1 c2 c3 c4 c5 c6 c7
    obtain ⟨hbe, hn, c0, c1, c2, c3, c4, c5, c6, c7⟩ := id hP
    obtain ⟨b1, hb1⟩ : ∃ b, valid bx b_y = b := ⟨_, rfl⟩
    rw [hb1]
    have V1 := Lib.hid hb1
    clear hb1
    cases b1
    · have HE := HV.out.1 (by unfold allV; rw [V0.out, V1.out]; simp)
      obtain ⟨rfl, rfl⟩ := HE
      go_wp2
      go_ret2
      exact ⟨rfl, hbe⟩
    · skip
      go_wp2_with fail
      refine (refValid_any _ _ _).mono ?_
      rintro e w3 ⟨rfl, hb⟩
      replace hP := hP.keep hb
      clear hb hbe hn c0 c1 c2 c3 c4 c5 c6 c7
      obtain ⟨hbe, hn, c0, c1, c2, c3, c4, c5, c6, c7⟩ := id hP
      obtain ⟨b2, hb2⟩ : ∃ b, valid cx cy = b := ⟨_, rfl⟩
      rw [hb2]
      have V2 := Lib.hid hb2
      clear hb2
      cases b2
      · have HE := HV.out.1 (by unfold allV; rw [V0.out, V1.out, V2.out]; simp)
        obtain ⟨rfl, rfl⟩ := HE
        go_wp2
        go_ret2
        exact ⟨rfl, hbe⟩
      · skip
        go_wp2_with fail
        refine (refValid_any _ _ _).mono ?_
        rintro e w4 ⟨rfl, hb⟩
        replace hP := hP.keep hb
        clear hb hbe hn c0 c1 c2 c3 c4 c5 c6 c7
        obtain ⟨hbe, hn, c0, c1, c2, c3, c4, c5, c6, c7⟩ := id hP
        obtain ⟨b3, hb3⟩ : ∃ b, valid dx dy = b := ⟨_, rfl⟩
        rw [hb3]
        have V3 := Lib.hid hb3
        clear hb3
        cases b3
        · have HE := HV.out.1 (by unfold allV; rw [V0.out, V1.out, V2.out, V3.out]; simp)
          obtain ⟨rfl, rfl⟩ := HE
          go_wp2
          go_ret2
          exact ⟨rfl, hbe⟩
        · skip
          obtain ⟨s1, s2⟩ := valid_small V0.out
          obtain ⟨s3, s4⟩ := valid_small V1.out
          obtain ⟨s5, s6⟩ := valid_small V2.out
          obtain ⟨s7, s8⟩ := valid_small V3.out
          obtain ⟨hv, rfl⟩ := HV.out.2 (by unfold allV; rw [V0.out, V1.out, V2.out, V3.out]; rfl)
          have HVV := Lib.hid hv
          clear hv HV
          go_wp2_with fail
          refine (refMeet_any _ _ _ _ _ _ _ _ _ s1 s2 s3 s4 s5 s6 s7 s8).mono ?_
          rintro e w5 ⟨rfl, hb⟩
          rw [← HVV.out]
          go_wp2
          go_ret2
          exact ⟨rfl, keep_below hbe hb⟩

abbrev Gives2 (f : Nat) (args : Array Value) (v e : Int) : Prop := ∀ w, Calls Try.prog f args w fun r w' => r = .returned (.tuple #[.int .i64 v, .int .i64 e]) ∧ Below w.heap.size w w'
abbrev GivesB (f : Nat) (args : Array Value) (v : Bool) : Prop := ∀ w, Calls Try.prog f args w fun r w' => r = .returned (.bool v) ∧ Below w.heap.size w w'

theorem points_facts (ax ay bx b_y cx cy dx dy : Int) : ∃ t e s g m i : Int, ∃ v : Bool, Gives2 18 #[pt ax ay, pt bx b_y, pt cx cy] t e ∧ Gives2 19 #[pt ax ay, pt bx b_y, pt cx cy] t e ∧ GivesB 20 #[pt ax ay] v ∧ GivesB 21 #[pt ax ay] v ∧
    Gives2 22 #[pt ax ay, pt bx b_y] s g ∧ Gives2 23 #[pt ax ay, pt bx b_y] s g ∧ Gives2 24 #[pt ax ay, pt bx b_y, pt cx cy, pt dx dy] m i ∧ Gives2 25 #[pt ax ay, pt bx b_y, pt cx cy, pt dx dy] m i :=
  ⟨_, _, _, _, _, _, _, fun w => turn_any _ _ _ _ _ _ w, fun w => refTurn_any _ _ _ _ _ _ w, fun w => validPoint_any _ _ w, fun w => refValid_any _ _ w, fun w => squareP_any _ _ _ _ w, fun w => refSquare_any _ _ _ _ w,
    fun w => meetP_any _ _ _ _ _ _ _ _ w, fun w => refMeetP_any _ _ _ _ _ _ _ _ w⟩

set_option maxRecDepth 100000 in
set_option maxHeartbeats 1000000 in
theorem pointsLaw_any (ax ay bx b_y cx cy dx dy : Int) (w : World) (_ : (Lit.int .i64 ax).wf = true) (_ : (Lit.int .i64 ay).wf = true) (_ : (Lit.int .i64 bx).wf = true) (_ : (Lit.int .i64 b_y).wf = true)
    (_ : (Lit.int .i64 cx).wf = true) (_ : (Lit.int .i64 cy).wf = true) (_ : (Lit.int .i64 dx).wf = true) (_ : (Lit.int .i64 dy).wf = true) :
    Calls Try.prog 3 #[pt ax ay, pt bx b_y, pt cx cy, pt dx dy] w fun e w' => e = .returned (.bool true) ∧ Below w.heap.size w w' := by
  obtain ⟨t, e, s, g, m, i, v, H1, H2, H3, H4, H5, H6, H7, H8⟩ := points_facts ax ay bx b_y cx cy dx dy
  go_enter Try.func3, Try.ntmps3
  go_wp2_with fail
  refine (awake_any _).mono ?_
  rintro e w1 ⟨rfl, hb⟩
  have hP := (Pts.start w ax ay bx b_y cx cy dx dy).keep hb
  clear hb
  obtain ⟨hbe, hn, c0, c1, c2, c3, c4, c5, c6, c7⟩ := id hP
  go_wp2_with fail
  refine (H1 _).mono ?_
  rintro e w2 ⟨rfl, hb⟩
  replace hP := hP.keep hb
  clear hb hbe hn c0 c1 c2 c3 c4 c5 c6 c7
  obtain ⟨hbe, hn, c0, c1, c2, c3, c4, c5, c6, c7⟩ := id hP
  go_wp2_with fail
  refine (H2 _).mono ?_
  rintro e w3 ⟨rfl, hb⟩
  replace hP := hP.keep hb
  clear hb hbe hn c0 c1 c2 c3 c4 c5 c6 c7
  obtain ⟨hbe, hn, c0, c1, c2, c3, c4, c5, c6, c7⟩ := id hP
  go_wp2_with fail
  have G0 := grow_cell c0
  have G1 := grow_cell c1
  refine wp_region_grow (by kernel_rfl) (by kernel_rfl) ?_
  repeat (go_big_quiet_step ((first | (go_at_call 20; with_reducible exact calls_grow (H3 _)) | (go_at_call 21; with_reducible exact calls_grow (H4 _)))))
  refine wpQuiet_nil ?_
  rintro w4 ⟨x, hx⟩
  have hb : Below w3.heap.size w3 w4 := by rw [hx]; exact x.b
  clear hx x G0 G1
  replace hP := hP.keep hb
  clear hb hbe hn c0 c1 c2 c3 c4 c5 c6 c7
  obtain ⟨hbe, hn, c0, c1, c2, c3, c4, c5, c6, c7⟩ := id hP
  go_wp2_with fail
  refine (H5 _).mono ?_
  rintro e w5 ⟨rfl, hb⟩
  replace hP := hP.keep hb
  clear hb hbe hn c0 c1 c2 c3 c4 c5 c6 c7
  obtain ⟨hbe, hn, c0, c1, c2, c3, c4, c5, c6, c7⟩ := id hP
  go_wp2_with fail
  refine (H6 _).mono ?_
  rintro e w6 ⟨rfl, hb⟩
  replace hP := hP.keep hb
  clear hb hbe hn c0 c1 c2 c3 c4 c5 c6 c7
  obtain ⟨hbe, hn, c0, c1, c2, c3, c4, c5, c6, c7⟩ := id hP
  go_wp2_with fail
  refine (H7 _).mono ?_
  rintro e w7 ⟨rfl, hb⟩
  replace hP := hP.keep hb
  clear hb hbe hn c0 c1 c2 c3 c4 c5 c6 c7
  obtain ⟨hbe, hn, c0, c1, c2, c3, c4, c5, c6, c7⟩ := id hP
  go_wp2_with fail
  refine (H8 _).mono ?_
  rintro e w8 ⟨rfl, hb⟩
  replace hP := hP.keep hb
  clear hb hbe hn c0 c1 c2 c3 c4 c5 c6 c7
  obtain ⟨hbe, hn, c0, c1, c2, c3, c4, c5, c6, c7⟩ := id hP
  go_wp2
  go_ret
  exact ⟨rfl, hP.b⟩

end Go.Proofs.Ytennldmiepondaa
