/- Walks: Place of both, the law PlanePlaces. -/
import Derived.Test.YtpknllbglppjcaaPB
import Derived.Test.YtpknllbglppjcaaAwake
namespace Go.Proofs.Ytpknllbglppjcaa
open Go Go.RowKit Go.Proofs Go.Abs Go.Plain

/-- What Place answers. -/
def pcV (L : Pl) (x y : Int) : Value := if vOut L && valid x y then .tuple #[.int .i64 (plV L (x, y)), .int .i64 0] else .tuple #[.int .i64 0, .int .i64 1]

set_option maxRecDepth 100000 in
set_option maxHeartbeats 2000000 in
theorem place_sl {w : World} {v : Value} {L : Pl} (h : SlV w v L) (x y : Int) : Calls Try.prog 40 #[v, pt x y] w fun e w' => e = .returned (pcV L x y) ∧ Below w.heap.size w w' := by
  have q0 := Pb.new w x y
  have bel : Below w.heap.size w (w.alloc (ptObj x y)) := (Below.refl _ w).alloc (Nat.le_refl _) _
  have C1 := vOut_sl (h.keep bel)
  have C2 := fun w => validPoint_any x y w
  have HV : Hid (pcV L x y = if vOut L && valid x y then .tuple #[.int .i64 (plV L (x, y)), .int .i64 0] else .tuple #[.int .i64 0, .int .i64 1]) := Lib.hid rfl
  cases hv : vOut L
  · rw [hv] at C1 HV
    clear h hv
    go_enter Try.func40, Try.ntmps40
    go_wp2_with fail
    refine C1.mono ?_
    rintro e w1 ⟨rfl, hb⟩
    have b1 := keep_below bel hb
    go_wp2
    go_ret2
    exact ⟨by rw [HV.out]; rfl, b1⟩
  · obtain ⟨b, off, cap, rfl, hp⟩ := vOut_pts h hv
    obtain ⟨h3, h24, hvp⟩ := vOut_n hv
    have hsm := vPts_small hvp
    have CP := fun w' (hb : Below w.heap.size w w') (hx : Small x) (hy : Small y) => place_any b off cap L x y h3 (by omega) hsm hx hy w' (hp.keep hb)
    rw [hv] at C1 HV
    clear h hv hp hsm hvp
    cases hq : valid x y
    · rw [hq] at HV C2
      clear hq
      go_enter Try.func40, Try.ntmps40
      go_wp2_with fail
      refine C1.mono ?_
      rintro e w1 ⟨rfl, hb⟩
      have b1 := keep_below bel hb
      have q00 := (q0.keep hb).c0
      have q01 := (q0.keep hb).c1
      go_wp2_with fail
      refine (C2 _).mono ?_
      rintro e w2 ⟨rfl, hb2⟩
      have b2 := keep_below b1 hb2
      go_wp2
      go_ret2
      exact ⟨by rw [HV.out]; rfl, b2⟩
    · have hsx := valid_small hq
      rw [hq] at HV C2
      have CP2 := fun w' hb => CP w' hb hsx.1 hsx.2
      generalize plV L (x, y) = pv at HV CP2
      clear hq CP hsx
      go_enter Try.func40, Try.ntmps40
      go_wp2_with fail
      refine C1.mono ?_
      rintro e w1 ⟨rfl, hb⟩
      have b1 := keep_below bel hb
      have q1 := q0.keep hb
      have q00 := q1.c0
      have q01 := q1.c1
      go_wp2_with fail
      refine (C2 _).mono ?_
      rintro e w2 ⟨rfl, hb2⟩
      have b2 := keep_below b1 hb2
      have q2 := q1.keep hb2
      clear q00 q01
      have q00 := q2.c0
      have q01 := q2.c1
      go_wp2_with fail
      refine (CP2 _ b2).mono ?_
      rintro e w3 ⟨rfl, hb3⟩
      have b3 := keep_below b2 hb3
      go_wp2
      go_ret2
      exact ⟨by rw [HV.out]; rfl, b3⟩

end Go.Proofs.Ytpknllbglppjcaa
