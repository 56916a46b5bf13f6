/- The law PlaneExits. -/
import Derived.Test.YtlocdadkhdcedaaXD
namespace Go.Proofs.Ytlocdadkhdcedaa
open Go Go.RowKit Go.Proofs Go.Abs Go.Plain

theorem exit_sl {w : World} {v : Value} {L : List (Int × Int)} (h : SlV w v L) :
    Calls Try.prog 61 #[v] w fun e w' => ∃ dv bv E, e = .returned (.tuple #[dv, bv, .int .i64 E]) ∧ ExitS (px L) (py L) L.length w.heap.size w' dv bv E ∧ Below w.heap.size w w' := by
  obtain ⟨a, cap, rfl, hl, h | ⟨rfl, rfl, rfl⟩⟩ := h
  · obtain ⟨b, off, rfl, hp⟩ := h
    rcases Nat.eq_zero_or_pos L.length with h0 | h0
    · rw [h0]
      exact exit_zero _ _ _ _ _
    · exact exit_any b off L.length cap _ _ w h0 hl hp
  · exact exit_zero _ _ _ _ _

theorem refExit_sl {w : World} {v : Value} {L : List (Int × Int)} (h : SlV w v L) :
    Calls Try.prog 62 #[v] w fun e w' => ∃ dv bv E, e = .returned (.tuple #[dv, bv, .int .i64 E]) ∧ ExitS (px L) (py L) L.length w.heap.size w' dv bv E ∧ Below w.heap.size w w' := by
  obtain ⟨a, cap, rfl, hl, h | ⟨rfl, rfl, rfl⟩⟩ := h
  · obtain ⟨b, off, rfl, hp⟩ := h
    rcases Nat.eq_zero_or_pos L.length with h0 | h0
    · rw [h0]
      exact refExit_zero _ _ _ _ _
    · exact refExit_any b off L.length cap _ _ w h0 hl hp
  · exact refExit_zero _ _ _ _ _

theorem exitS_pt {xs ys : Nat → Int} {n base : Nat} {W : World} {dv bv : Value} {E : Int} (h : ExitS xs ys n base W dv bv E) : ∃ x y, dv = pt x y := by
  rcases h with ⟨_, _, rfl, _⟩ | ⟨_, _, _, d, _, rfl⟩ | ⟨_, _, _, rfl, _⟩
  · exact ⟨_, _, rfl⟩
  · exact ⟨_, _, rfl⟩
  · exact ⟨_, _, rfl⟩

set_option maxRecDepth 100000 in
set_option maxHeartbeats 8000000 in
theorem exitsLaw_any (v1 : Value) (P : List (Int × Int)) (w : World) (h1 : SlV w v1 P) :
    Calls Try.prog 8 #[v1] w fun e w' => e = .returned (.bool true) ∧ Below w.heap.size w w' := by
  have S1 := fun w' (hb : Below w.heap.size w w') => exit_sl (h1.keep hb)
  have S2 := fun w' (hb : Below w.heap.size w w') => refExit_sl (h1.keep hb)
  obtain ⟨a1, cap1, rfl, hl1, -⟩ := h1
  obtain ⟨n, hn⟩ : ∃ n, P.length = n := ⟨_, rfl⟩
  rw [hn] at S1 S2 hl1 ⊢
  clear hn
  go_enter Try.func8, Try.ntmps8
  go_wp2_with fail
  refine (awake_any _).mono ?_
  rintro e w1 ⟨rfl, b1⟩
  by_cases g1 : (n : Int) > 16
  · by_cases g2 : (n : Int) ≤ 24
    · have e1 : decide ((n : Int) > 16) = true := by simpa using g1
      have e2 : decide ((n : Int) ≤ 24) = true := by simpa using g2
      go_wp2
      go_ret
      exact ⟨rfl, b1⟩
    · by_cases g3 : (n : Int) > 100
      · go_wp2
        go_ret
        exact ⟨rfl, b1⟩
      · go_wp2_with fail
        refine (S1 w1 b1).mono ?_
        rintro e w2 ⟨dv, bv, E, rfl, X1, hb2⟩
        obtain ⟨x, y, rfl⟩ := exitS_pt X1
        have b2 := keep_below b1 hb2
        have HX1 := Lib.hid X1
        clear X1 S1
        have HBE : Hid (bv = .slice none 0 0 ∨ ∃ s f, w2.ownsRow w1.heap.size 3 1 bv s (numL s f)) := Lib.hid (by
          rcases HX1.out with ⟨_, _, _, h⟩ | ⟨_, _, h, _⟩ | ⟨_, _, _, _, s, f, _, h⟩
          · exact .inl h
          · exact .inl h
          · exact .inr ⟨s, f, h⟩)
        have q2 := Pb.new w2 x y
        have b3 := b2.alloc b2.size (ptObj x y)
        go_wp2_with fail
        refine (S2 _ b3).mono ?_
        rintro e w4 ⟨dv', bv', E', rfl, X2, hb4⟩
        obtain ⟨rfl, rfl, hrow⟩ := exitS_same HX1.out X2 (fun h => okN_nz h)
        have b4 := keep_below b3 hb4
        have q4 := q2.keep hb4
        have HR := Lib.hid hrow
        have zq := q4.lt
        clear X2 S2 hrow b3 q2 b1 b2
        have E1 := fun w => run_pt_eql x y x y w
        simp only [BEq.rfl, Bool.and_self] at E1
        have q5 := q4.alloc (ptObj x y)
        have q6 := Pb.new w4 x y
        have b5 := b4.alloc b4.size (ptObj x y)
        have c0 := q5.c0
        have c1 := q5.c1
        have d0 := q6.c0
        have d1 := q6.c1
        have HH := Lib.hid hb4
        have HH2 := Lib.hid hb2
        rcases HR.out with ⟨rfl, rfl⟩ | ⟨s, f, hs0, hs4, o1, o2⟩
        · go_wp2_with fail
          refine (sameInts_nil _).mono ?_
          rintro e w6 ⟨rfl, hb6⟩
          go_wp2
          go_ret
          exact ⟨rfl, keep_below b5 hb6⟩
        · obtain ⟨ga, ca, rfl⟩ := own_slice o1 hs0
          obtain ⟨gb, cb, rfl⟩ := own_slice o2 hs0
          have SI := sameInts_any ga gb ca cb s f (w4.alloc (ptObj x y)) (by omega) (fun k hk => pt_old _ _ (keep_cell HH.out (pt_old _ _ (numL_own o1 k hk)))) (fun k hk => pt_old _ _ (numL_own o2 k hk))
          clear o1 o2
          go_wp2_with fail
          refine SI.mono ?_
          rintro e w6 ⟨rfl, hb6⟩
          go_wp2
          go_ret
          exact ⟨rfl, keep_below b5 hb6⟩
  · have g3 : ¬ (n : Int) > 100 := by omega
    go_wp2_with fail
    refine (S1 w1 b1).mono ?_
    rintro e w2 ⟨dv, bv, E, rfl, X1, hb2⟩
    obtain ⟨x, y, rfl⟩ := exitS_pt X1
    have b2 := keep_below b1 hb2
    have HX1 := Lib.hid X1
    clear X1 S1
    have HBE : Hid (bv = .slice none 0 0 ∨ ∃ s f, w2.ownsRow w1.heap.size 3 1 bv s (numL s f)) := Lib.hid (by
      rcases HX1.out with ⟨_, _, _, h⟩ | ⟨_, _, h, _⟩ | ⟨_, _, _, _, s, f, _, h⟩
      · exact .inl h
      · exact .inl h
      · exact .inr ⟨s, f, h⟩)
    have q2 := Pb.new w2 x y
    have b3 := b2.alloc b2.size (ptObj x y)
    go_wp2_with fail
    refine (S2 _ b3).mono ?_
    rintro e w4 ⟨dv', bv', E', rfl, X2, hb4⟩
    obtain ⟨rfl, rfl, hrow⟩ := exitS_same HX1.out X2 (fun h => okN_nz h)
    have b4 := keep_below b3 hb4
    have q4 := q2.keep hb4
    have HR := Lib.hid hrow
    have zq := q4.lt
    clear X2 S2 hrow b3 q2 b1 b2
    have E1 := fun w => run_pt_eql x y x y w
    simp only [BEq.rfl, Bool.and_self] at E1
    have q5 := q4.alloc (ptObj x y)
    have q6 := Pb.new w4 x y
    have b5 := b4.alloc b4.size (ptObj x y)
    have c0 := q5.c0
    have c1 := q5.c1
    have d0 := q6.c0
    have d1 := q6.c1
    have HH := Lib.hid hb4
    have HH2 := Lib.hid hb2
    rcases HR.out with ⟨rfl, rfl⟩ | ⟨s, f, hs0, hs4, o1, o2⟩
    · go_wp2_with fail
      refine (sameInts_nil _).mono ?_
      rintro e w6 ⟨rfl, hb6⟩
      go_wp2
      go_ret
      exact ⟨rfl, keep_below b5 hb6⟩
    · obtain ⟨ga, ca, rfl⟩ := own_slice o1 hs0
      obtain ⟨gb, cb, rfl⟩ := own_slice o2 hs0
      have SI := sameInts_any ga gb ca cb s f (w4.alloc (ptObj x y)) (by omega) (fun k hk => pt_old _ _ (keep_cell HH.out (pt_old _ _ (numL_own o1 k hk)))) (fun k hk => pt_old _ _ (numL_own o2 k hk))
      clear o1 o2
      go_wp2_with fail
      refine SI.mono ?_
      rintro e w6 ⟨rfl, hb6⟩
      go_wp2
      go_ret
      exact ⟨rfl, keep_below b5 hb6⟩

end Go.Proofs.Ytlocdadkhdcedaa
