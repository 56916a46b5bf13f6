/- The statement on how two segments meet, walked. -/
import Derived.Test.YtennldmiepondaaM2
import Derived.Test.YtennldmiepondaaAwake
namespace Go.Proofs.Ytennldmiepondaa
open Go Go.RowKit Go.Proofs

set_option maxRecDepth 100000 in
set_option maxHeartbeats 1000000 in
theorem meetsLaw_any (ax ay bx b_y cx cy dx dy : Int) (w : World) (_ : (Lit.int .i64 ax).wf = true) (_ : (Lit.int .i64 ay).wf = true) (_ : (Lit.int .i64 bx).wf = true) (_ : (Lit.int .i64 b_y).wf = true)
    (_ : (Lit.int .i64 cx).wf = true) (_ : (Lit.int .i64 cy).wf = true) (_ : (Lit.int .i64 dx).wf = true) (_ : (Lit.int .i64 dy).wf = true) :
    Calls Try.prog 9 #[pt ax ay, pt bx b_y, pt cx cy, pt dx dy] w fun e w' => e = .returned (.bool true) ∧ Below w.heap.size w w' := by
  obtain ⟨v, e, H1, H2, H3⟩ := meets_facts ax ay bx b_y cx cy dx dy
  go_enter Try.func9, Try.ntmps9
  go_wp2_with fail
  refine (awake_any _).mono ?_
  rintro e w1 ⟨rfl, hb⟩
  have hP := (Pts.start w ax ay bx b_y cx cy dx dy).keep hb
  clear hb
  obtain ⟨hbe, hn, c0, c1, c2, c3, c4, c5, c6, c7⟩ := id hP
  go_wp2_with fail
  refine (H1 _).mono ?_
  rintro e w2 ⟨rfl, hb⟩
  replace hP := hP.keep hb
  clear hb hbe hn c0 c1 c2 c3 c4 c5 c6 c7
  obtain ⟨hbe, hn, c0, c1, c2, c3, c4, c5, c6, c7⟩ := id hP
  go_wp2_with fail
  refine (H2 _).mono ?_
  rintro e w3 ⟨rfl, hb⟩
  replace hP := hP.keep hb
  clear hb hbe hn c0 c1 c2 c3 c4 c5 c6 c7
  obtain ⟨hbe, hn, c0, c1, c2, c3, c4, c5, c6, c7⟩ := id hP
  go_wp2_with fail
  refine (H3 _).mono ?_
  rintro e w4 ⟨rfl, hb⟩
  replace hP := hP.keep hb
  clear hb hbe hn c0 c1 c2 c3 c4 c5 c6 c7
  go_wp2
  go_ret
  exact ⟨rfl, hP.b⟩

end Go.Proofs.Ytennldmiepondaa
