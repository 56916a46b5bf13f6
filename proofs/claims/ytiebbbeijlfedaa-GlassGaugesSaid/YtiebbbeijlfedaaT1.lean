/- Walks: Bends, and the iterator over the measures. -/
import Derived.Test.YtiebbbeijlfedaaT0
import Derived.Test.YtiebbbeijlfedaaKC
import Derived.Test.YtiebbbeijlfedaaQA
namespace Go.Proofs.Ytiebbbeijlfedaa
open Go Go.RowKit Go.Proofs Go.Abs

set_option maxRecDepth 100000 in
set_option maxHeartbeats 2000000 in
/-- Bends of an outline. -/
theorem bends_good {w : World} {b off cap : Nat} {L : List (Int × Int)} (hp : PtsAt w b off L) (hv : vOut L = true) :
    Calls Try.prog 79 #[.slice (some ⟨b, off, none⟩) L.length cap] w fun e w' => ∃ r, e = .returned (.tuple #[r, .int .i64 0]) ∧ w'.ownsRow w.heap.size 3 1 r L.length (bendL (px L) (py L) L.length (List.range L.length)) ∧ Below w.heap.size w w' := by
  obtain ⟨h3, h24, hvp⟩ := vOut_n hv
  have C1 := validOutline_any b off cap L (by omega) w hp
  rw [hv] at C1
  have hsm := vPts_small hvp
  have C2 := fun w' (hb : Below w.heap.size w w') => bends_any b off L.length cap (px L) (py L) (by omega) hsm w' (hp.keep hb) ((hp.keep hb).lt (by omega))
  clear hp hsm hvp hv
  go_enter Try.func79, Try.ntmps79
  go_wp2_with fail
  refine C1.mono ?_
  rintro e w1 ⟨rfl, hb⟩
  go_wp2_with fail
  refine (C2 w1 hb).mono ?_
  rintro e w2 ⟨r, rfl, o2, hb2⟩
  have b2 := keep_below hb hb2
  have HO := Lib.hid (own_base o2 hb.size)
  clear o2
  go_wp2
  go_ret2
  exact ⟨_, rfl, HO.out, b2⟩

end Go.Proofs.Ytiebbbeijlfedaa
