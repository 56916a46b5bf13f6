/- Walks: Scan. -/
import Derived.Test.YtcgmmfcphfkdhaaGreatB6
namespace Go.Proofs.YtcgmmfcphfkdhaaGreat
open Go Go.RowKit Go.Proofs Go.Torn Go.Abs

theorem getD_mem {R : List Nat} {i : Nat} (h : i < R.length) : R.getD i 0 ∈ R := by
  have : R.getD i 0 = R[i] := by simp [List.getD, h]
  rw [this]; exact List.getElem_mem h

set_option maxRecDepth 100000 in
set_option maxHeartbeats 4000000 in
theorem scan26_any (b off cap : Nat) (L : List Nat) (hN : L.length ≤ 100000) (hcap : L.length ≤ cap) (hc2 : cap ≤ 9223372036854775807) (hy : By L) (w : World) (hd : BtAt w b off L) :
    Calls Tryz.prog 26 #[.slice (some ⟨b, off, none⟩) L.length cap] w fun e w' => ∃ v Rs R, e = .returned (.tuple #[v, .int .i64 ((L.length - R.length : Nat) : Int)]) ∧ RowsB w' w.heap.size v Rs ∧ Below w.heap.size w w' ∧ R.length ≤ L.length ∧ (∀ n, scan 8192 (Rs.length + n) L = (Rs, R)) := by
  obtain ⟨N, hNN⟩ : ∃ N, L.length = N := ⟨_, rfl⟩
  have HN := Lib.hid hNN
  have HD := Lib.hid hd
  have HY := Lib.hid hy
  rw [hNN] at hN hcap ⊢
  clear hNN hd hy
  go_enter Tryz.func26, Tryz.ntmps26
  go_wp2
  go_step3
  go_wp2
  go_step3
  go_wp2
  go_loopw [4, 5] (fun v s wr => ∃ o c Rs R, s = .slice (some ⟨b, o, none⟩) R.length c ∧ R.length ≤ c ∧ c ≤ 9223372036854775807 ∧ Rs.length + R.length ≤ N ∧ By R ∧ BtAt wr b o R ∧ RowsB wr w.heap.size v Rs ∧ Below w.heap.size w wr ∧ (∀ n, scan 8192 (Rs.length + n) L = (Rs ++ (scan 8192 n R).1, (scan 8192 n R).2))) (fun _ s _ => lenV s)
  case atStart =>
    refine ⟨off, cap, [], L, by rw [HN.out], by rw [HN.out]; exact hcap, hc2, by rw [HN.out]; simp, HY.out, HD.out, ⟨[], World.ownsRow_nil _ _ _ _, fun k hk => by simp at hk⟩, Below.refl _ _, fun n => by simp⟩
  case round =>
    obtain ⟨o, c, Rs, R, rfl, hrc, hc1, hrn, hry, hdat, hrow, hbel, hscan⟩ := hrel
    have HS := Lib.hid hscan
    clear hscan
    have HC1 := Lib.hid (checked_any b o c 2 R (by omega) hrc (by decide) hry wr hdat)
    by_cases g1 : ckd R 2 = true
    · have h4 : 4 ≤ R.length := by
        unfold ckd at g1
        simp only [Bool.and_eq_true, decide_eq_true_eq] at g1
        omega
      rw [g1] at HC1
      have k0 := hdat 0 (by omega)
      have k1 := hdat 1 (by omega)
      have y0 := hry (R.getD 0 0) (getD_mem (by omega))
      have y1 := hry (R.getD 1 0) (getD_mem (by omega))
      obtain ⟨x0, hx0⟩ : ∃ x, R.getD 0 0 = x := ⟨_, rfl⟩
      obtain ⟨x1, hx1⟩ : ∃ x, R.getD 1 0 = x := ⟨_, rfl⟩
      obtain ⟨n0, hn0⟩ : ∃ n, len0 R = n := ⟨_, rfl⟩
      have HL0 := Lib.hid hn0
      have hn0' : x0 + 256 * x1 = n0 := by rw [← hx0, ← hx1, ← hn0]; rfl
      rw [hx0] at k0 y0
      rw [Nat.add_zero] at k0
      rw [hx1] at k1 y1
      clear hx0 hx1 hn0
      have HD4 := Lib.hid (show ∀ (w' : World), Below wr.heap.size wr w' → BtAt w' b (o + 4) (R.drop 4) from fun w' hb k hk => by
        rw [List.length_drop] at hk
        have := hdat.keep hb (4 + k) (by omega)
        rw [show o + 4 + k = o + (4 + k) by omega, this]
        simp [List.getD, List.getElem?_drop])
      go_wp2_with fail
      refine (HC1.out).mono ?_
      rintro e w1 ⟨rfl, hb1⟩
      have k0 := keep_cell hb1 k0
      have k1 := keep_cell hb1 k1
      have q0 := w64 (x0 : Int) (by omega)
      have q1 := w64 (x1 : Int) (by omega)
      have q2 := w64 (256 * (x1 : Int)) (by omega)
      have q3 : wrap64 ((x0 : Int) + 256 * (x1 : Int)) = (n0 : Int) := by rw [w64 ((x0 : Int) + 256 * (x1 : Int)) (by omega)]; omega
      clear HC1
      obtain ⟨m, hm⟩ : ∃ m, R.length = m := ⟨_, rfl⟩
      have HM := Lib.hid hm
      rw [hm] at h4 hrc hrn ⊢
      clear hm
      have p0 : 0 < m := by omega
      have p1 : 1 < m := by omega
      have p2 : (1 : Int) < (m : Int) := by omega
      have p3 : (0 : Int) < (m : Int) := by omega
      have t0 := wi64 (x0 : Int) (by omega)
      have t1 := wi64 (x1 : Int) (by omega)
      go_wp2_with fail
      go_quiet (fail)
      rw [show (x0 : Int) + 256 * (x1 : Int) = (n0 : Int) by omega]
      clear p0 p1 p2 p3 t0 t1 q0 q1 q2 q3 k0 k1
      by_cases hc4 : c = 4
      · subst hc4
        have hm4 : m = 4 := by omega
        subst hm4
        have gg : good 8192 R = false := by
          have h0 : (R.drop 4).length = 0 := by rw [List.length_drop, HM.out]
          have : ckd (R.drop 4) (len0 R) = false := by unfold ckd; rw [decide_eq_false (by omega), Bool.false_and]
          unfold good
          rw [this, Bool.and_false, Bool.and_false]
        have HC2 := Lib.hid (fun w' => checked_no b o 0 0 n0 (by decide) (by omega) (by omega) w')
        by_cases g8 : n0 ≤ 8192
        · have j8 : decide ((n0 : Int) ≤ 8192) = true := by simp; omega
          go_wp2_with fail
          refine (HC2.out _).mono ?_
          rintro e w2 ⟨rfl, hb2⟩
          have hb3 : Below wr.heap.size wr w2 := (below_drewN hb1 _).trans (hb2.mono (below_drewN hb1 _).size)
          clear hb1 hb2 HC2 HD4
          obtain ⟨m, hmm⟩ : ∃ m, m = 4 := ⟨_, rfl⟩
          have hrow1 := Lib.hid (hrow.keep hb3)
          have hbel1 := Lib.hid (hbel.trans (hb3.mono hbel.size))
          have HE := Lib.hid (scan_end HS.out gg)
          clear HS hrow hbel hdat hry gg g1
          have j7 : wrap64 ((N : Int) - ((4 : Nat) : Int)) = ((N - 4 : Nat) : Int) := by rw [w64 _ (by omega)]; omega
          go_wp2
          rw [Exit.noGoto_ret]
          go_ret2
          exact ⟨_, Rs, R, by rw [HM.out, show ((N - 4 : Nat) : Int) = (N : Int) - ((4 : Nat) : Int) by omega] <;> rfl, hrow1.out, hbel1.out, by rw [HM.out]; omega, HE.out⟩
        · have j8 : decide ((n0 : Int) ≤ 8192) = false := by simp; omega
          have hb3 := below_drewN hb1 nq
          clear hb1 HC2 HD4
          obtain ⟨m, hmm⟩ : ∃ m, m = 4 := ⟨_, rfl⟩
          have hrow1 := Lib.hid (hrow.keep hb3)
          have hbel1 := Lib.hid (hbel.trans (hb3.mono hbel.size))
          have HE := Lib.hid (scan_end HS.out gg)
          clear HS hrow hbel hdat hry gg g1
          have j7 : wrap64 ((N : Int) - ((4 : Nat) : Int)) = ((N - 4 : Nat) : Int) := by rw [w64 _ (by omega)]; omega
          go_wp2
          rw [Exit.noGoto_ret]
          go_ret2
          exact ⟨_, Rs, R, by rw [HM.out, show ((N - 4 : Nat) : Int) = (N : Int) - ((4 : Nat) : Int) by omega] <;> rfl, hrow1.out, hbel1.out, by rw [HM.out]; omega, HE.out⟩
      · have HL4 : (R.drop 4).length = m - 4 := by rw [List.length_drop, HM.out]
        have HC2 := Lib.hid (fun w' (hb : Below wr.heap.size wr w') => checked_any b (o + 4) (c - 4) n0 (R.drop 4) (by omega) (by omega) (by omega) (fun v hv => hry v (List.mem_of_mem_drop hv)) w' (HD4.out w' hb))
        rw [HL4] at HC2
        by_cases g2 : n0 ≤ 8192 ∧ ckd (R.drop 4) n0 = true
        · have gg : good 8192 R = true := by
            unfold good
            rw [g1, HL0.out, g2.2, decide_eq_true g2.1]
            rfl
          have j8 : decide ((n0 : Int) ≤ 8192) = true := by simp; omega
          have h6 : n0 + 2 ≤ m - 4 := by
            have := g2.2
            unfold ckd at this
            simp only [Bool.and_eq_true, decide_eq_true_eq] at this
            omega
          rw [g2.2] at HC2
          have hxl : ((R.drop 4).take n0).length = n0 := by rw [List.length_take]; omega
          have hx := Lib.hid (show (R.drop 4).take n0 = (R.drop 4).take (len0 R) by rw [HL0.out])
          have hR' := Lib.hid (show (R.drop 4).drop (n0 + 2) = (R.drop 4).drop (len0 R + 2) by rw [HL0.out])
          have hRl : ((R.drop 4).drop (n0 + 2)).length = m - 4 - (n0 + 2) := by rw [List.length_drop]; omega
          have HD8 := Lib.hid (show ∀ (w' : World), Below wr.heap.size wr w' → BtAt w' b (o + 4 + (n0 + 2)) ((R.drop 4).drop (n0 + 2)) from fun w' hb k hk => by
            have := HD4.out w' hb (n0 + 2 + k) (by omega)
            rw [show o + 4 + (n0 + 2) + k = o + 4 + (n0 + 2 + k) by omega, this]
            simp [List.getD, List.getElem?_drop]
            congr 3
            omega)
          have HC3 := Lib.hid (fun w' (hb : Below wr.heap.size wr w') => clone_any ⟨b, o + 4, none⟩ (c - 4) ((R.drop 4).take n0) (by omega) w' ⟨some ⟨b, o + 4, none⟩, c - 4, rfl, ⟨by omega, fun h => by cases h⟩, fun _ => ⟨b, o + 4, rfl, fun k hk => by
            have := HD4.out w' hb k (by omega)
            rw [this]
            simp [List.getD, show k < n0 by omega]⟩⟩)
          have HB := Lib.hid (show By ((R.drop 4).drop (n0 + 2)) from fun v hv => hry v (List.mem_of_mem_drop (List.mem_of_mem_drop hv)))
          have hgg := Lib.hid gg
          clear gg g2 hdat hry g1 HD4 HL4
          obtain ⟨x, hxx⟩ : ∃ x, (R.drop 4).take n0 = x := ⟨_, rfl⟩
          rw [hxx] at hxl hx HC3
          obtain ⟨R', hRR⟩ : ∃ x, (R.drop 4).drop (n0 + 2) = x := ⟨_, rfl⟩
          rw [hRR] at hR' hRl HD8 HB
          clear hxx hRR
          have hxl2 := Lib.hid hxl
          have hRl2 := Lib.hid hRl
          rw [hxl] at HC3
          clear hxl hRl
          go_wp2_with fail
          refine (HC2.out _ (below_drewN hb1 _)).mono ?_
          rintro e w2 ⟨rfl, hb2⟩
          have hb3 : Below wr.heap.size wr w2 := (below_drewN hb1 _).trans (hb2.mono (below_drewN hb1 _).size)
          clear hb1 hb2 HC2
          go_wp2_with fail
          refine (HC3.out _ hb3).mono ?_
          rintro e w3 ⟨cv, rfl, hown, hb4⟩
          have hb5 : Below wr.heap.size wr w3 := hb3.trans (hb4.mono hb3.size)
          rw [← hxl2.out] at hown
          obtain ⟨s1, s2, s3⟩ := own_SlB hown (by rw [hxl2.out]; omega)
          obtain ⟨ca, cc, hcv⟩ : ∃ ca cc, cv = .slice ca n0 cc := by
            obtain ⟨ca, cc, e, -⟩ := _root_.id s1
            exact ⟨ca, cc, by rw [e, hxl2.out]⟩
          subst hcv
          have hal : Below w3.heap.size w3 (w3.alloc (Obj.cells #[.slice ca n0 cc] 46)) := (Below.refl _ _).alloc (Nat.le_refl _) _
          have hb6 := hb5.trans (hal.mono hb5.size)
          have hbw := hbel.trans (hb6.mono hbel.size)
          have hulr : ∀ j, u4.ownBlock = some j → j < wr.heap.size := by
            obtain ⟨_, hq, -⟩ := _root_.id hrow
            exact fun j hj => (hq.lt j hj).2
          have hfar : (Value.slice ca n0 cc).ownBlock = none ∨ (Value.slice ca n0 cc).ownBlock ≠ u4.ownBlock := by
            cases hc : (Value.slice ca n0 cc).ownBlock with
            | none => exact .inl rfl
            | some j =>
              right
              have h1 := (s2 j hc).1
              intro e
              have h2 := hulr j e.symm
              have h3 := hb3.size
              omega
          obtain ⟨v', w4, run4, hrow4, hg4, hv4⟩ := RowsB.push 52 (hrow.keep hb6) (s1.keep hal) hfar (fun j hj => Nat.lt_of_lt_of_le (s2 j hj).2 hal.size) s3 (g := w3.heap.size) (by simp) hbw.size (by omega)
          have hbw4 := Lib.hid (hbw.grown hg4 hbw.size hv4)
          have hrow5 := Lib.hid hrow4
          have hbs : b < w.heap.size := lt_of_cell (HD.out 0 (by rw [HN.out]; omega))
          have hfin := Lib.hid (show BtAt w4 b (o + 4 + (n0 + 2)) R' from fun k hk => (hbw4.out.cell hbs).trans ((hbel.cell hbs).symm.trans (HD8.out wr (Below.refl _ _) k hk)))
          have hst := Lib.hid (scan_step HS.out hgg.out hx.out hR'.out)
          clear HS hgg hx hR' HD8 hbw hb6 hal s1 s2 s3 hown hb5 hb3 hb4 hrow hbel hfar hulr hg4 hv4 hrow4 HC3
          have j9 : wrap64 ((n0 : Int) + 2) = ((n0 + 2 : Nat) : Int) := by rw [w64 _ (by omega)]; omega
          obtain ⟨m4, hm4⟩ : ∃ x, m - 4 = x := ⟨_, rfl⟩
          obtain ⟨c4, hc4'⟩ : ∃ x, c - 4 = x := ⟨_, rfl⟩
          have hmc : m4 ≤ c4 := by omega
          have HM4 := Lib.hid (show m4 < m ∧ c4 ≤ 9223372036854775807 ∧ Rs.length + 1 + m4 ≤ N from by omega)
          rw [hm4] at h6 hRl2 ⊢
          rw [hc4']
          clear hm4 hc4' hn0' y0 y1 hc4 hrc h4 hrn hc1 hcap hN hc2 hbs
          by_cases hc8 : c4 = n0 + 2
          · have hm8 : m4 = n0 + 2 := Nat.le_antisymm (Nat.le_trans hmc (Nat.le_of_eq hc8)) h6
            clear h6 hmc
            subst hc8
            subst hm8
            go_wp2_with (at_builtin; refine Lib.wpList_append_run _ rfl _ _ _ _ rfl _ _ rfl rfl _ _ run4 ?_)
            refine ⟨⟨o + 4, n0 + 2 - (n0 + 2), Rs ++ [x], R', by rw [hRl2.out], Nat.le_of_eq hRl2.out, by omega, ?_, HB.out, fun k hk => by rw [hRl2.out] at hk; omega, hrow5.out, hbw4.out, hst.out⟩, ?_⟩
            · have := HM4.out
              rw [List.length_append, List.length_singleton, hRl2.out]
              omega
            · show n0 + 2 - (n0 + 2) < R.length
              rw [HM.out]
              have := HM4.out
              omega
          · have HMC := Lib.hid hmc
            go_wp2_with (at_builtin; refine Lib.wpList_append_run _ rfl _ _ _ _ rfl _ _ rfl rfl _ _ run4 ?_)
            refine ⟨⟨o + 4 + (n0 + 2), c4 - (n0 + 2), Rs ++ [x], R', by rw [hRl2.out], by rw [hRl2.out]; have := HMC.out; omega, by have := HM4.out; omega, ?_, HB.out, hfin.out, hrow5.out, hbw4.out, hst.out⟩, ?_⟩
            · have := HM4.out
              rw [List.length_append, List.length_singleton, hRl2.out]
              omega
            · show m4 - (n0 + 2) < R.length
              rw [HM.out]
              have := HM4.out
              omega
        · have gg : good 8192 R = false := by
            unfold good
            rw [g1, HL0.out, Bool.true_and]
            simp only [not_and, Bool.not_eq_true] at g2
            by_cases g8 : n0 ≤ 8192
            · rw [g2 g8, Bool.and_false]
            · rw [decide_eq_false g8, Bool.false_and]
          by_cases g8 : n0 ≤ 8192
          · have j8 : decide ((n0 : Int) ≤ 8192) = true := by simp; omega
            have g9 : ckd (R.drop 4) n0 = false := by
              simp only [not_and, Bool.not_eq_true] at g2
              exact g2 g8
            rw [g9] at HC2
            clear g2 g9
            go_wp2_with fail
            refine (HC2.out _ (below_drewN hb1 _)).mono ?_
            rintro e w2 ⟨rfl, hb2⟩
            have hb3 : Below wr.heap.size wr w2 := (below_drewN hb1 _).trans (hb2.mono (below_drewN hb1 _).size)
            clear hb1 hb2 HC2 HD4 HL4
            have hrow1 := Lib.hid (hrow.keep hb3)
            have hbel1 := Lib.hid (hbel.trans (hb3.mono hbel.size))
            have HE := Lib.hid (scan_end HS.out gg)
            clear HS hrow hbel hdat hry gg g1
            have j7 : wrap64 ((N : Int) - (m : Int)) = ((N - m : Nat) : Int) := by rw [w64 _ (by omega)]; omega
            go_wp2
            rw [Exit.noGoto_ret]
            go_ret2
            exact ⟨_, Rs, R, by rw [HM.out, show ((N - m : Nat) : Int) = (N : Int) - (m : Int) by omega] <;> rfl, hrow1.out, hbel1.out, by rw [HM.out]; omega, HE.out⟩
          · have j8 : decide ((n0 : Int) ≤ 8192) = false := by simp; omega
            have hb3 := below_drewN hb1 nq
            clear hb1 HC2 HD4 g2 HL4
            have hrow1 := Lib.hid (hrow.keep hb3)
            have hbel1 := Lib.hid (hbel.trans (hb3.mono hbel.size))
            have HE := Lib.hid (scan_end HS.out gg)
            clear HS hrow hbel hdat hry gg g1
            have j7 : wrap64 ((N : Int) - (m : Int)) = ((N - m : Nat) : Int) := by rw [w64 _ (by omega)]; omega
            go_wp2
            rw [Exit.noGoto_ret]
            go_ret2
            exact ⟨_, Rs, R, by rw [HM.out, show ((N - m : Nat) : Int) = (N : Int) - (m : Int) by omega] <;> rfl, hrow1.out, hbel1.out, by rw [HM.out]; omega, HE.out⟩
    · have gg : good 8192 R = false := by unfold good; rw [Bool.not_eq_true] at g1; rw [g1]; rfl
      rw [Bool.not_eq_true] at g1
      rw [g1] at HC1
      go_wp2_with fail
      refine (HC1.out).mono ?_
      rintro e w1 ⟨rfl, hb1⟩
      have hrow1 := Lib.hid (hrow.keep hb1)
      have hbel1 := Lib.hid (hbel.trans (hb1.mono hbel.size))
      have HE := Lib.hid (scan_end HS.out gg)
      clear HS HC1 hrow hbel hb1 hdat hry gg g1
      obtain ⟨m, hm⟩ : ∃ m, R.length = m := ⟨_, rfl⟩
      have HM := Lib.hid hm
      rw [hm] at hrc hrn ⊢
      clear hm
      have j7 : wrap64 ((N : Int) - (m : Int)) = ((N - m : Nat) : Int) := by rw [w64 _ (by omega)]; omega
      go_wp2
      rw [Exit.noGoto_ret]
      go_ret2
      exact ⟨_, Rs, R, by rw [HM.out, show ((N - m : Nat) : Int) = (N : Int) - (m : Int) by omega] <;> rfl, hrow1.out, hbel1.out, by rw [HM.out]; omega, HE.out⟩

end Go.Proofs.YtcgmmfcphfkdhaaGreat
