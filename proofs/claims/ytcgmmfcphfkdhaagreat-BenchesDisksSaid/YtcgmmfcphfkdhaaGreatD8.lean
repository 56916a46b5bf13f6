/- Walks: the law BenchesDisks. -/
import Derived.Test.YtcgmmfcphfkdhaaGreatD8a
import Derived.Test.YtcgmmfcphfkdhaaGreatVG
namespace Go.Proofs.YtcgmmfcphfkdhaaGreat
open Go Go.RowKit Go.Proofs Go.Torn Go.Abs

def DkV (A B n : Nat) (r : Int) (D : List Nat) : Nat → Value → World → Prop
  | 0, v, _ => v = .int .i64 r
  | 1, v, _ => v = .int .i64 r
  | 2, v, _ => v = .bool false
  | 3, v, _ => v = .bool false
  | 4, v, _ => v = .pointer (some ⟨A, 0, none⟩)
  | 5, v, _ => v = .int .i64 (n : Nat)
  | 6, v, _ => v = .pointer (some ⟨B, 0, none⟩)
  | 7, v, _ => v = .int .i64 (n : Nat)
  | 8, v, _ => v = .bool false
  | 9, v, _ => v = .bool false
  | 10, v, _ => v = .bool false
  | 11, v, _ => v = .pointer (some ⟨A, 0, none⟩)
  | 12, v, W => SlB W v D
  | 13, v, _ => v = .string (strB D)
  | 14, v, _ => v = .pointer (some ⟨B, 0, none⟩)
  | 15, v, W => SlB W v D
  | 16, v, _ => v = .string (strB D)
  | 17, v, _ => v = .bool false
  | _, v, _ => v = .bool false

theorem DkV.keep {A B n : Nat} {r : Int} {D : List Nat} : ∀ i v W W', DkV A B n r D i v W → Below W.heap.size W W' → DkV A B n r D i v W'
  | 0, _, _, _, h, _ => h
  | 1, _, _, _, h, _ => h
  | 2, _, _, _, h, _ => h
  | 3, _, _, _, h, _ => h
  | 4, _, _, _, h, _ => h
  | 5, _, _, _, h, _ => h
  | 6, _, _, _, h, _ => h
  | 7, _, _, _, h, _ => h
  | 8, _, _, _, h, _ => h
  | 9, _, _, _, h, _ => h
  | 10, _, _, _, h, _ => h
  | 11, _, _, _, h, _ => h
  | 12, _, _, _, h, hb => SlB.keep h hb
  | 13, _, _, _, h, _ => h
  | 14, _, _, _, h, _ => h
  | 15, _, _, _, h, hb => SlB.keep h hb
  | 16, _, _, _, h, _ => h
  | 17, _, _, _, h, _ => h
  | _ + 18, _, _, _, h, _ => h

set_option maxRecDepth 100000 in
set_option maxHeartbeats 16000000 in
theorem disks_law (v : Value) (As : List Ac) (w : World) (h : RowA w v As) (hy : ∀ A ∈ As, By A.d) (hlen : ∀ A ∈ As, A.d.length ≤ 9000000000000000000)
    (AW : Hid (∀ W, Calls Tryz.prog 10 #[] W fun e w' => e = .returned (.bool true) ∧ Below W.heap.size W w')) :
    Calls Tryz.prog 8 #[v] w fun e w' => e = .returned (.bool true) ∧ Below w.heap.size w w' := by
  have HR := Lib.hid h
  obtain ⟨a, cap, rfl, hd⟩ := h
  obtain ⟨M, hM⟩ : ∃ M, As.length = M := ⟨_, rfl⟩
  have HM := Lib.hid hM
  have HQ : Hid (∀ q, q < M → By (acq As q).d ∧ (acq As q).d.length ≤ 9000000000000000000) := Lib.hid (fun q hq => by
    have hq' : q < As.length := by rw [hM]; exact hq
    have e : acq As q = As[q] := by simp [acq, List.getD, hq']
    rw [e]
    exact ⟨hy _ (List.getElem_mem hq'), hlen _ (List.getElem_mem hq')⟩)
  rw [hM] at hd ⊢
  have HD := Lib.hid hd
  clear hd hM hy hlen
  by_cases l1 : (M : Int) > 100
  · have j1 : decide ((M : Int) > 100) = true := by simp; omega
    go_enter Tryz.func8, Tryz.ntmps8
    go_wp2_with fail
    refine (AW.out _).mono ?_
    rintro e w1 ⟨rfl, hb⟩
    go_wp2
    go_ret
    exact ⟨rfl, hb⟩
  · have j1 : decide ((M : Int) > 100) = false := by simp; omega
    have HS := Lib.hid (size28_any (.slice a As.length cap) As (by rw [HM.out]; omega) w HR.out)
    rw [HM.out] at HS
    go_enter Tryz.func8, Tryz.ntmps8
    go_wp2_with fail
    refine HS.out.mono ?_
    rintro e w1 ⟨s, rfl, hb1⟩
    clear HS
    by_cases l2 : s > 20000
    · have j2 : decide (s > 20000) = true := by simp; omega
      replace hb1 := Lib.hid hb1
      go_wp2_with fail
      refine (AW.out _).mono ?_
      rintro e w2 ⟨rfl, hb⟩
      have hb2 := Lib.hid (hb1.out.trans (hb.mono hb1.out.size))
      clear hb
      go_wp2
      go_ret
      exact ⟨rfl, hb2.out⟩
    · have j2 : decide (s > 20000) = false := by simp; omega
      replace hb1 := Lib.hid hb1
      go_wp2_with fail
      refine (new29 _).mono ?_
      rintro e w2 ⟨rfl, hA2, hb2⟩
      obtain ⟨A, hAA⟩ : ∃ A, w1.heap.size = A := ⟨_, rfl⟩
      rw [hAA] at hA2 ⊢
      have hA2H := Lib.hid hA2
      have hAL := Lib.hid (show w.heap.size ≤ A by rw [← hAA]; exact hb1.out.size)
      have hbel2 := Lib.hid (hb1.out.trans (hb2.mono hb1.out.size))
      clear hb2 hA2 hAA
      go_wp2_with fail
      refine (new30 _).mono ?_
      rintro e w3 ⟨rfl, hB3, hb3⟩
      obtain ⟨B, hBB⟩ : ∃ B, w2.heap.size = B := ⟨_, rfl⟩
      rw [hBB] at hB3 ⊢
      have hDk0 := Lib.hid (Dk.new (base := w.heap.size) hAL.out (by rw [← hBB]; exact hbel2.out.size) (by have := hA2H.out.lt; omega) hA2H.out hb3 hB3)
      have hbel3 := Lib.hid (hbel2.out.trans (hb3.mono hbel2.out.size))
      clear hb3 hB3 hBB hA2H hbel2 hAL hb1 l2 j2
      go_wp2_with fail
      go_loopw [5] (fun i wr => ∃ q : Nat, q ≤ M ∧ i = .int .i64 q ∧ Below w.heap.size w wr ∧ ∃ v x y X Y, Dk w.heap.size wr A B v x y X Y) (fun i _ => M - (intOf i).toNat)
      case atStart => exact ⟨0, by omega, rfl, hbel3.out, _, _, _, _, _, hDk0.out⟩
      case round =>
        clear hDk0 hbel3
        obtain ⟨q, hq, rfl, hbel, v, x, y, X, Y, hDk⟩ := hrel
        by_cases hqn : q < M
        · obtain ⟨b, off, rfl, hc⟩ := HD.out (by omega)
          have HAT := Lib.hid (fun W (hb : Below w.heap.size w W) => (hc q hqn).keep hb)
          have HQq := Lib.hid (HQ.out q hqn)
          clear hc
          generalize acq As q = ac at HAT HQq
          obtain ⟨kk, ke, kf, L⟩ := ac
          have j3 : decide ((q : Int) < (M : Int)) = true := by simp; omega
          have p0 : (q : Int) < (M : Int) := by omega
          have at0 := HAT.out wr hbel
          replace hDk := Lib.hid hDk
          replace hbel := Lib.hid hbel
          have hbw := hbel.out.size
          replace hbw := Lib.hid hbw
          have c0 := at0.c0
          have c1 := at0.c1
          have c2 := at0.c2
          obtain ⟨u, c3, hsu⟩ := at0.c3
          dsimp only at c0 c1 c2 c3 hsu
          have hsl := Lib.hid hsu
          obtain ⟨ua, uc, rfl, -, -⟩ := hsu
          clear at0
          by_cases h0 : kk = 0
          · subst h0
            by_cases hf : L.length + (X ++ Y).length ≤ 4194304
            · have hW31 := Lib.hid (write_room wr hbw.out hDk.out.p hsl.out hf HQq.out.1)
              replace hf := Lib.hid hf
              obtain ⟨m, hm⟩ : ∃ m, L.length = m := ⟨_, rfl⟩
              replace hm := Lib.hid hm
              rw [hm.out] at c3 hW31
              go_wp2_with fail
              refine hW31.out.mono ?_
              rintro e w4 ⟨rfl, v', hp, hg, hv⟩
              have hb4 := hbel.out.trans (hDk.out.bel hbw.out hg (Chg.refl w4 _))
              obtain ⟨u4, d3, hs4⟩ := (HAT.out w4 hb4).c3
              dsimp only at d3 hs4
              have hW32 := Lib.hid (rwrite_room w4 (Nat.le_trans hbw.out hg.size) (hDk.out.mid hg) hs4 (by have := hf.out; rw [List.length_append] at this; omega) HQq.out.1)
              obtain ⟨ua4, uc4, rfl, -, -⟩ := hs4
              rw [hm.out] at d3 hW32
              replace hp := Lib.hid hp
              replace hg := Lib.hid hg
              replace hv := Lib.hid hv
              clear hW31 hb4 c0 c1 c2 c3
              go_wp2_with fail
              refine hW32.out.mono ?_
              rintro e w5 ⟨rfl, y', hr, hg2, hy'⟩
              clear hW32 d3
              obtain ⟨v9, x9, y9, X9, Y9, hDk9⟩ : ∃ v x y X Y, Dk w.heap.size w5 A B v x y X Y := ⟨_, _, _, _, _, hDk.out.fin hp.out hv.out hr hg2 (.inl rfl) (.inr hy') (by rw [List.append_assoc]) rfl⟩
              replace hDk9 := Lib.hid hDk9
              have hb9 := Lib.hid (hbel.out.trans (hDk.out.bel hbw.out hg.out hg2))
              obtain ⟨w9, hw9⟩ : ∃ w9, w9 = w5 := ⟨_, rfl⟩
              subst hw9
              clear hDk
              clear hp hg hr hg2 hy' hv hf hm hbel
              obtain ⟨n, hn⟩ : ∃ n, Y9.length = n := ⟨_, rfl⟩
              obtain ⟨D, hDD⟩ : ∃ D, X9 ++ Y9 = D := ⟨_, rfl⟩
              have HP37 : Hid (∀ W, Below w9.heap.size w9 W → Calls Tryz.prog 37 #[.pointer (some ⟨A, 0, none⟩)] W fun e w' => e = .returned (.int .i64 (n : Nat)) ∧ Below W.heap.size W w') := Lib.hid (fun W hb => by
                              have := pending37 W (hDk9.out.low hb).p
                              rwa [List.length_append, Nat.add_sub_cancel_left, hn] at this)
              have HP38 : Hid (∀ W, Below w9.heap.size w9 W → Calls Tryz.prog 38 #[.pointer (some ⟨B, 0, none⟩)] W fun e w' => e = .returned (.int .i64 (n : Nat)) ∧ w' = W) := Lib.hid (fun W hb => by
                              have := pending38 W (hDk9.out.low hb).r
                              rwa [hn] at this)
              have HR39 : Hid (∀ W, Below w9.heap.size w9 W → Calls Tryz.prog 39 #[.pointer (some ⟨A, 0, none⟩)] W fun e w' => ∃ v', e = .returned v' ∧ SlB w' v' D ∧ Below W.heap.size W w') := Lib.hid (fun W hb => by
                              refine (read39 W (hDk9.out.low hb).p).mono ?_
                              rintro e w' ⟨v', rfl, ho, hb'⟩
                              rw [hDD] at ho
                              exact ⟨v', rfl, (own_SlB ho (by rw [← hDD, List.length_append]; have := hDk9.out.r.ml; omega)).1, hb'⟩)
              have HR40 : Hid (∀ W, Below w9.heap.size w9 W → Calls Tryz.prog 40 #[.pointer (some ⟨B, 0, none⟩)] W fun e w' => ∃ v', e = .returned v' ∧ SlB w' v' D ∧ Below W.heap.size W w') := Lib.hid (fun W hb => by
                              refine (rread40 W (hDk9.out.low hb).r).mono ?_
                              rintro e w' ⟨v', rfl, ho, hb'⟩
                              rw [hDD] at ho
                              exact ⟨v', rfl, (own_SlB ho (by rw [← hDD, List.length_append]; have := hDk9.out.r.ml; omega)).1, hb'⟩)
              clear hn hDD
              have hqn2 := Lib.hid hqn
              skip
              go_wp2_with fail
              refine wp_region_valsG (DkV A B n 0 D) (by kernel_rfl) (by kernel_rfl) DkV.keep ?_ ?_ ?_
              · intro i o g bb ho hg v W hv
                have hi : i < 19 := by have := (List.getElem?_eq_some_iff.1 ho).1; simpa using this
                obtain rfl | rfl | rfl | rfl | rfl | rfl | rfl | rfl | rfl | rfl | rfl | rfl | rfl | rfl | rfl | rfl | rfl | rfl | rfl : i = 0 ∨ i = 1 ∨ i = 2 ∨ i = 3 ∨ i = 4 ∨ i = 5 ∨ i = 6 ∨ i = 7 ∨ i = 8 ∨ i = 9 ∨ i = 10 ∨ i = 11 ∨ i = 12 ∨ i = 13 ∨ i = 14 ∨ i = 15 ∨ i = 16 ∨ i = 17 ∨ i = 18 := by omega
                all_goals simp only [List.getElem?_cons_zero, List.getElem?_cons_succ, Option.some.injEq] at ho
                all_goals subst ho
                all_goals simp only [Option.some.injEq, Prod.mk.injEq, reduceCtorEq] at hg
                all_goals (obtain ⟨rfl, rfl⟩ := hg; exact hv)
              · intro i o ho a' W hW hfr hdep
                have f3 : a'.tmps[3]?.getD undef = .pointer (some ⟨A, 0, none⟩) := Array.getD_eq_getD_getElem?.symm.trans (hfr 3 rfl)
                have f4 : a'.tmps[4]?.getD undef = .pointer (some ⟨B, 0, none⟩) := Array.getD_eq_getD_getElem?.symm.trans (hfr 4 rfl)
                have f6 : a'.tmps[6]?.getD undef = .int .i64 0 := Array.getD_eq_getD_getElem?.symm.trans (hfr 6 rfl)
                have f7 : a'.tmps[7]?.getD undef = .int .i64 0 := Array.getD_eq_getD_getElem?.symm.trans (hfr 7 rfl)
                clear hfr
                have hi : i < 19 := by have := (List.getElem?_eq_some_iff.1 ho).1; simpa using this
                obtain rfl | rfl | rfl | rfl | rfl | rfl | rfl | rfl | rfl | rfl | rfl | rfl | rfl | rfl | rfl | rfl | rfl | rfl | rfl : i = 0 ∨ i = 1 ∨ i = 2 ∨ i = 3 ∨ i = 4 ∨ i = 5 ∨ i = 6 ∨ i = 7 ∨ i = 8 ∨ i = 9 ∨ i = 10 ∨ i = 11 ∨ i = 12 ∨ i = 13 ∨ i = 14 ∨ i = 15 ∨ i = 16 ∨ i = 17 ∨ i = 18 := by omega
                all_goals simp only [List.getElem?_cons_zero, List.getElem?_cons_succ, Option.some.injEq] at ho
                all_goals subst ho
                · clear hdep
                  refine .inl ⟨_, W, ?_, Below.refl _ _, rfl⟩
                  go_simp
                · clear hdep
                  refine .inl ⟨_, W, ?_, Below.refl _ _, rfl⟩
                  go_simp
                · have d0 : a'.tmps[78]?.getD undef = .int .i64 0 := Array.getD_eq_getD_getElem?.symm.trans (hdep ⟨0, .data⟩ (by simp) rfl 78 rfl)
                  have d1 : a'.tmps[79]?.getD undef = .int .i64 0 := Array.getD_eq_getD_getElem?.symm.trans (hdep ⟨1, .data⟩ (by simp) rfl 79 rfl)
                  clear hdep
                  refine .inl ⟨_, W, ?_, Below.refl _ _, rfl⟩
                  go_simp
                · have d2 : a'.tmps[80]?.getD undef = .bool false := Array.getD_eq_getD_getElem?.symm.trans (hdep ⟨2, .data⟩ (by simp) rfl 80 rfl)
                  clear hdep
                  refine .inl ⟨_, W, ?_, Below.refl _ _, rfl⟩
                  go_simp
                · clear hdep
                  refine .inl ⟨_, W, ?_, Below.refl _ _, rfl⟩
                  go_simp
                · have d4 : a'.tmps[82]?.getD undef = .pointer (some ⟨A, 0, none⟩) := Array.getD_eq_getD_getElem?.symm.trans (hdep ⟨4, .data⟩ (by simp) rfl 82 rfl)
                  clear hdep
                  refine .inr ⟨37, #[.pointer (some ⟨A, 0, none⟩)], W, ?_, Below.refl _ _, (HP37.out W hW).mono ?_⟩
                  · go_simp
                  · rintro e W' ⟨rfl, hb⟩
                    exact ⟨_, rfl, hb, rfl⟩
                · clear hdep
                  refine .inl ⟨_, W, ?_, Below.refl _ _, rfl⟩
                  go_simp
                · have d6 : a'.tmps[84]?.getD undef = .pointer (some ⟨B, 0, none⟩) := Array.getD_eq_getD_getElem?.symm.trans (hdep ⟨6, .data⟩ (by simp) rfl 84 rfl)
                  clear hdep
                  refine .inr ⟨38, #[.pointer (some ⟨B, 0, none⟩)], W, ?_, Below.refl _ _, (HP38.out W hW).mono ?_⟩
                  · go_simp
                  · rintro e W' ⟨rfl, rfl⟩
                    exact ⟨_, rfl, Below.refl _ _, rfl⟩
                · have d5 : a'.tmps[83]?.getD undef = .int .i64 (n : Nat) := Array.getD_eq_getD_getElem?.symm.trans (hdep ⟨5, .data⟩ (by simp) rfl 83 rfl)
                  have d7 : a'.tmps[85]?.getD undef = .int .i64 (n : Nat) := Array.getD_eq_getD_getElem?.symm.trans (hdep ⟨7, .data⟩ (by simp) rfl 85 rfl)
                  clear hdep
                  refine .inl ⟨_, W, ?_, Below.refl _ _, rfl⟩
                  go_simp
                · have d3 : a'.tmps[81]?.getD undef = .bool false := Array.getD_eq_getD_getElem?.symm.trans (hdep ⟨3, .data⟩ (by simp) rfl 81 rfl)
                  have d8 : a'.tmps[86]?.getD undef = .bool false := Array.getD_eq_getD_getElem?.symm.trans (hdep ⟨8, .data⟩ (by simp) rfl 86 rfl)
                  clear hdep
                  refine .inl ⟨_, W, ?_, Below.refl _ _, rfl⟩
                  go_simp
                · have d9 : a'.tmps[87]?.getD undef = .bool false := Array.getD_eq_getD_getElem?.symm.trans (hdep ⟨9, .data⟩ (by simp) rfl 87 rfl)
                  clear hdep
                  refine .inl ⟨_, W, ?_, Below.refl _ _, rfl⟩
                  go_simp
                · clear hdep
                  refine .inl ⟨_, W, ?_, Below.refl _ _, rfl⟩
                  go_simp
                · have d11 : a'.tmps[89]?.getD undef = .pointer (some ⟨A, 0, none⟩) := Array.getD_eq_getD_getElem?.symm.trans (hdep ⟨11, .data⟩ (by simp) rfl 89 rfl)
                  clear hdep
                  refine .inr ⟨39, #[.pointer (some ⟨A, 0, none⟩)], W, ?_, Below.refl _ _, (HR39.out W hW).mono ?_⟩
                  · go_simp
                  · rintro e W' ⟨v', rfl, hs, hb⟩
                    exact ⟨_, rfl, hb, hs⟩
                · have d12 : SlB W (a'.tmps[90]?.getD undef) D := by have := hdep ⟨12, .data⟩ (by simp) rfl 90 rfl; rw [← Array.getD_eq_getD_getElem?]; exact this
                  clear hdep
                  have R := run_str d12
                  refine .inl ⟨_, W, ?_, Below.refl _ _, rfl⟩
                  simp only [execOp, Sem.run_bind, Sem.run_pure, Act.eval, Array.getD_eq_getD_getElem?, R, Result.andThen_ok]
                · clear hdep
                  refine .inl ⟨_, W, ?_, Below.refl _ _, rfl⟩
                  go_simp
                · have d14 : a'.tmps[92]?.getD undef = .pointer (some ⟨B, 0, none⟩) := Array.getD_eq_getD_getElem?.symm.trans (hdep ⟨14, .data⟩ (by simp) rfl 92 rfl)
                  clear hdep
                  refine .inr ⟨40, #[.pointer (some ⟨B, 0, none⟩)], W, ?_, Below.refl _ _, (HR40.out W hW).mono ?_⟩
                  · go_simp
                  · rintro e W' ⟨v', rfl, hs, hb⟩
                    exact ⟨_, rfl, hb, hs⟩
                · have d15 : SlB W (a'.tmps[93]?.getD undef) D := by have := hdep ⟨15, .data⟩ (by simp) rfl 93 rfl; rw [← Array.getD_eq_getD_getElem?]; exact this
                  clear hdep
                  have R := run_str d15
                  refine .inl ⟨_, W, ?_, Below.refl _ _, rfl⟩
                  simp only [execOp, Sem.run_bind, Sem.run_pure, Act.eval, Array.getD_eq_getD_getElem?, R, Result.andThen_ok]
                · have d13 : a'.tmps[91]?.getD undef = .string (strB D) := Array.getD_eq_getD_getElem?.symm.trans (hdep ⟨13, .data⟩ (by simp) rfl 91 rfl)
                  have d16 : a'.tmps[94]?.getD undef = .string (strB D) := Array.getD_eq_getD_getElem?.symm.trans (hdep ⟨16, .data⟩ (by simp) rfl 94 rfl)
                  clear hdep
                  refine .inl ⟨_, W, ?_, Below.refl _ _, rfl⟩
                  go_simp
                · have d10 : a'.tmps[88]?.getD undef = .bool false := Array.getD_eq_getD_getElem?.symm.trans (hdep ⟨10, .data⟩ (by simp) rfl 88 rfl)
                  have d17 : a'.tmps[95]?.getD undef = .bool false := Array.getD_eq_getD_getElem?.symm.trans (hdep ⟨17, .data⟩ (by simp) rfl 95 rfl)
                  clear hdep
                  refine .inl ⟨_, W, ?_, Below.refl _ _, rfl⟩
                  go_simp
              · intro W hW
                simp only [List.map_cons, List.map_nil, VQG, DkV]
                rintro _ rfl _ rfl _ rfl _ rfl _ rfl _ rfl _ rfl _ rfl _ rfl _ rfl _ rfl _ rfl v12 s12 _ rfl _ rfl v15 s15 _ rfl _ rfl _ rfl
                simp only [List.setIfInBounds_toArray, List.set_cons_succ, List.set_cons_zero]
                have hfin := Lib.hid (And.intro (hb9.out.trans (hW.mono hb9.out.size)) (hDk9.out.low hW))
                clear hW HP37 HP38 HR39 HR40 s12 s15 hDk9 hb9
                have k7 := w64 ((q : Int) + 1) (by omega)
                go_wp2
                exact ⟨⟨q + 1, hqn2.out, by simp, hfin.out.1, _, _, _, _, _, hfin.out.2⟩, by simp [intOf]; have := hqn2.out; omega⟩
            · have hW31 := Lib.hid (write_full wr hDk.out.p hsl.out hf)
              have hW32 := Lib.hid (rwrite_full wr hDk.out.r hsl.out (by rw [List.length_append] at hf; omega) HQq.out.2)
              obtain ⟨m, hm⟩ : ∃ m, L.length = m := ⟨_, rfl⟩
              replace hm := Lib.hid hm
              rw [hm.out] at c3 hW31 hW32
              clear hf
              go_wp2_with fail
              refine hW31.out.mono ?_
              rintro e w4 ⟨rfl, rfl⟩
              go_wp2_with fail
              refine hW32.out.mono ?_
              rintro e w5 ⟨rfl, hb5⟩
              obtain ⟨v9, x9, y9, X9, Y9, hDk9⟩ : ∃ v x y X Y, Dk w.heap.size w5 A B v x y X Y := ⟨_, _, _, _, _, hDk.out.low hb5⟩
              replace hDk9 := Lib.hid hDk9
              have hb9 := Lib.hid (hbel.out.trans (hb5.mono hbw.out))
              obtain ⟨w9, hw9⟩ : ∃ w9, w9 = w5 := ⟨_, rfl⟩
              subst hw9
              clear hDk
              clear hb5 hW31 hW32 hm hbel c0 c1 c2 c3
              obtain ⟨n, hn⟩ : ∃ n, Y9.length = n := ⟨_, rfl⟩
              obtain ⟨D, hDD⟩ : ∃ D, X9 ++ Y9 = D := ⟨_, rfl⟩
              have HP37 : Hid (∀ W, Below w9.heap.size w9 W → Calls Tryz.prog 37 #[.pointer (some ⟨A, 0, none⟩)] W fun e w' => e = .returned (.int .i64 (n : Nat)) ∧ Below W.heap.size W w') := Lib.hid (fun W hb => by
                              have := pending37 W (hDk9.out.low hb).p
                              rwa [List.length_append, Nat.add_sub_cancel_left, hn] at this)
              have HP38 : Hid (∀ W, Below w9.heap.size w9 W → Calls Tryz.prog 38 #[.pointer (some ⟨B, 0, none⟩)] W fun e w' => e = .returned (.int .i64 (n : Nat)) ∧ w' = W) := Lib.hid (fun W hb => by
                              have := pending38 W (hDk9.out.low hb).r
                              rwa [hn] at this)
              have HR39 : Hid (∀ W, Below w9.heap.size w9 W → Calls Tryz.prog 39 #[.pointer (some ⟨A, 0, none⟩)] W fun e w' => ∃ v', e = .returned v' ∧ SlB w' v' D ∧ Below W.heap.size W w') := Lib.hid (fun W hb => by
                              refine (read39 W (hDk9.out.low hb).p).mono ?_
                              rintro e w' ⟨v', rfl, ho, hb'⟩
                              rw [hDD] at ho
                              exact ⟨v', rfl, (own_SlB ho (by rw [← hDD, List.length_append]; have := hDk9.out.r.ml; omega)).1, hb'⟩)
              have HR40 : Hid (∀ W, Below w9.heap.size w9 W → Calls Tryz.prog 40 #[.pointer (some ⟨B, 0, none⟩)] W fun e w' => ∃ v', e = .returned v' ∧ SlB w' v' D ∧ Below W.heap.size W w') := Lib.hid (fun W hb => by
                              refine (rread40 W (hDk9.out.low hb).r).mono ?_
                              rintro e w' ⟨v', rfl, ho, hb'⟩
                              rw [hDD] at ho
                              exact ⟨v', rfl, (own_SlB ho (by rw [← hDD, List.length_append]; have := hDk9.out.r.ml; omega)).1, hb'⟩)
              clear hn hDD
              have hqn2 := Lib.hid hqn
              skip
              go_wp2_with fail
              refine wp_region_valsG (DkV A B n 2 D) (by kernel_rfl) (by kernel_rfl) DkV.keep ?_ ?_ ?_
              · intro i o g bb ho hg v W hv
                have hi : i < 19 := by have := (List.getElem?_eq_some_iff.1 ho).1; simpa using this
                obtain rfl | rfl | rfl | rfl | rfl | rfl | rfl | rfl | rfl | rfl | rfl | rfl | rfl | rfl | rfl | rfl | rfl | rfl | rfl : i = 0 ∨ i = 1 ∨ i = 2 ∨ i = 3 ∨ i = 4 ∨ i = 5 ∨ i = 6 ∨ i = 7 ∨ i = 8 ∨ i = 9 ∨ i = 10 ∨ i = 11 ∨ i = 12 ∨ i = 13 ∨ i = 14 ∨ i = 15 ∨ i = 16 ∨ i = 17 ∨ i = 18 := by omega
                all_goals simp only [List.getElem?_cons_zero, List.getElem?_cons_succ, Option.some.injEq] at ho
                all_goals subst ho
                all_goals simp only [Option.some.injEq, Prod.mk.injEq, reduceCtorEq] at hg
                all_goals (obtain ⟨rfl, rfl⟩ := hg; exact hv)
              · intro i o ho a' W hW hfr hdep
                have f3 : a'.tmps[3]?.getD undef = .pointer (some ⟨A, 0, none⟩) := Array.getD_eq_getD_getElem?.symm.trans (hfr 3 rfl)
                have f4 : a'.tmps[4]?.getD undef = .pointer (some ⟨B, 0, none⟩) := Array.getD_eq_getD_getElem?.symm.trans (hfr 4 rfl)
                have f6 : a'.tmps[6]?.getD undef = .int .i64 2 := Array.getD_eq_getD_getElem?.symm.trans (hfr 6 rfl)
                have f7 : a'.tmps[7]?.getD undef = .int .i64 2 := Array.getD_eq_getD_getElem?.symm.trans (hfr 7 rfl)
                clear hfr
                have hi : i < 19 := by have := (List.getElem?_eq_some_iff.1 ho).1; simpa using this
                obtain rfl | rfl | rfl | rfl | rfl | rfl | rfl | rfl | rfl | rfl | rfl | rfl | rfl | rfl | rfl | rfl | rfl | rfl | rfl : i = 0 ∨ i = 1 ∨ i = 2 ∨ i = 3 ∨ i = 4 ∨ i = 5 ∨ i = 6 ∨ i = 7 ∨ i = 8 ∨ i = 9 ∨ i = 10 ∨ i = 11 ∨ i = 12 ∨ i = 13 ∨ i = 14 ∨ i = 15 ∨ i = 16 ∨ i = 17 ∨ i = 18 := by omega
                all_goals simp only [List.getElem?_cons_zero, List.getElem?_cons_succ, Option.some.injEq] at ho
                all_goals subst ho
                · clear hdep
                  refine .inl ⟨_, W, ?_, Below.refl _ _, rfl⟩
                  go_simp
                · clear hdep
                  refine .inl ⟨_, W, ?_, Below.refl _ _, rfl⟩
                  go_simp
                · have d0 : a'.tmps[78]?.getD undef = .int .i64 2 := Array.getD_eq_getD_getElem?.symm.trans (hdep ⟨0, .data⟩ (by simp) rfl 78 rfl)
                  have d1 : a'.tmps[79]?.getD undef = .int .i64 2 := Array.getD_eq_getD_getElem?.symm.trans (hdep ⟨1, .data⟩ (by simp) rfl 79 rfl)
                  clear hdep
                  refine .inl ⟨_, W, ?_, Below.refl _ _, rfl⟩
                  go_simp
                · have d2 : a'.tmps[80]?.getD undef = .bool false := Array.getD_eq_getD_getElem?.symm.trans (hdep ⟨2, .data⟩ (by simp) rfl 80 rfl)
                  clear hdep
                  refine .inl ⟨_, W, ?_, Below.refl _ _, rfl⟩
                  go_simp
                · clear hdep
                  refine .inl ⟨_, W, ?_, Below.refl _ _, rfl⟩
                  go_simp
                · have d4 : a'.tmps[82]?.getD undef = .pointer (some ⟨A, 0, none⟩) := Array.getD_eq_getD_getElem?.symm.trans (hdep ⟨4, .data⟩ (by simp) rfl 82 rfl)
                  clear hdep
                  refine .inr ⟨37, #[.pointer (some ⟨A, 0, none⟩)], W, ?_, Below.refl _ _, (HP37.out W hW).mono ?_⟩
                  · go_simp
                  · rintro e W' ⟨rfl, hb⟩
                    exact ⟨_, rfl, hb, rfl⟩
                · clear hdep
                  refine .inl ⟨_, W, ?_, Below.refl _ _, rfl⟩
                  go_simp
                · have d6 : a'.tmps[84]?.getD undef = .pointer (some ⟨B, 0, none⟩) := Array.getD_eq_getD_getElem?.symm.trans (hdep ⟨6, .data⟩ (by simp) rfl 84 rfl)
                  clear hdep
                  refine .inr ⟨38, #[.pointer (some ⟨B, 0, none⟩)], W, ?_, Below.refl _ _, (HP38.out W hW).mono ?_⟩
                  · go_simp
                  · rintro e W' ⟨rfl, rfl⟩
                    exact ⟨_, rfl, Below.refl _ _, rfl⟩
                · have d5 : a'.tmps[83]?.getD undef = .int .i64 (n : Nat) := Array.getD_eq_getD_getElem?.symm.trans (hdep ⟨5, .data⟩ (by simp) rfl 83 rfl)
                  have d7 : a'.tmps[85]?.getD undef = .int .i64 (n : Nat) := Array.getD_eq_getD_getElem?.symm.trans (hdep ⟨7, .data⟩ (by simp) rfl 85 rfl)
                  clear hdep
                  refine .inl ⟨_, W, ?_, Below.refl _ _, rfl⟩
                  go_simp
                · have d3 : a'.tmps[81]?.getD undef = .bool false := Array.getD_eq_getD_getElem?.symm.trans (hdep ⟨3, .data⟩ (by simp) rfl 81 rfl)
                  have d8 : a'.tmps[86]?.getD undef = .bool false := Array.getD_eq_getD_getElem?.symm.trans (hdep ⟨8, .data⟩ (by simp) rfl 86 rfl)
                  clear hdep
                  refine .inl ⟨_, W, ?_, Below.refl _ _, rfl⟩
                  go_simp
                · have d9 : a'.tmps[87]?.getD undef = .bool false := Array.getD_eq_getD_getElem?.symm.trans (hdep ⟨9, .data⟩ (by simp) rfl 87 rfl)
                  clear hdep
                  refine .inl ⟨_, W, ?_, Below.refl _ _, rfl⟩
                  go_simp
                · clear hdep
                  refine .inl ⟨_, W, ?_, Below.refl _ _, rfl⟩
                  go_simp
                · have d11 : a'.tmps[89]?.getD undef = .pointer (some ⟨A, 0, none⟩) := Array.getD_eq_getD_getElem?.symm.trans (hdep ⟨11, .data⟩ (by simp) rfl 89 rfl)
                  clear hdep
                  refine .inr ⟨39, #[.pointer (some ⟨A, 0, none⟩)], W, ?_, Below.refl _ _, (HR39.out W hW).mono ?_⟩
                  · go_simp
                  · rintro e W' ⟨v', rfl, hs, hb⟩
                    exact ⟨_, rfl, hb, hs⟩
                · have d12 : SlB W (a'.tmps[90]?.getD undef) D := by have := hdep ⟨12, .data⟩ (by simp) rfl 90 rfl; rw [← Array.getD_eq_getD_getElem?]; exact this
                  clear hdep
                  have R := run_str d12
                  refine .inl ⟨_, W, ?_, Below.refl _ _, rfl⟩
                  simp only [execOp, Sem.run_bind, Sem.run_pure, Act.eval, Array.getD_eq_getD_getElem?, R, Result.andThen_ok]
                · clear hdep
                  refine .inl ⟨_, W, ?_, Below.refl _ _, rfl⟩
                  go_simp
                · have d14 : a'.tmps[92]?.getD undef = .pointer (some ⟨B, 0, none⟩) := Array.getD_eq_getD_getElem?.symm.trans (hdep ⟨14, .data⟩ (by simp) rfl 92 rfl)
                  clear hdep
                  refine .inr ⟨40, #[.pointer (some ⟨B, 0, none⟩)], W, ?_, Below.refl _ _, (HR40.out W hW).mono ?_⟩
                  · go_simp
                  · rintro e W' ⟨v', rfl, hs, hb⟩
                    exact ⟨_, rfl, hb, hs⟩
                · have d15 : SlB W (a'.tmps[93]?.getD undef) D := by have := hdep ⟨15, .data⟩ (by simp) rfl 93 rfl; rw [← Array.getD_eq_getD_getElem?]; exact this
                  clear hdep
                  have R := run_str d15
                  refine .inl ⟨_, W, ?_, Below.refl _ _, rfl⟩
                  simp only [execOp, Sem.run_bind, Sem.run_pure, Act.eval, Array.getD_eq_getD_getElem?, R, Result.andThen_ok]
                · have d13 : a'.tmps[91]?.getD undef = .string (strB D) := Array.getD_eq_getD_getElem?.symm.trans (hdep ⟨13, .data⟩ (by simp) rfl 91 rfl)
                  have d16 : a'.tmps[94]?.getD undef = .string (strB D) := Array.getD_eq_getD_getElem?.symm.trans (hdep ⟨16, .data⟩ (by simp) rfl 94 rfl)
                  clear hdep
                  refine .inl ⟨_, W, ?_, Below.refl _ _, rfl⟩
                  go_simp
                · have d10 : a'.tmps[88]?.getD undef = .bool false := Array.getD_eq_getD_getElem?.symm.trans (hdep ⟨10, .data⟩ (by simp) rfl 88 rfl)
                  have d17 : a'.tmps[95]?.getD undef = .bool false := Array.getD_eq_getD_getElem?.symm.trans (hdep ⟨17, .data⟩ (by simp) rfl 95 rfl)
                  clear hdep
                  refine .inl ⟨_, W, ?_, Below.refl _ _, rfl⟩
                  go_simp
              · intro W hW
                simp only [List.map_cons, List.map_nil, VQG, DkV]
                rintro _ rfl _ rfl _ rfl _ rfl _ rfl _ rfl _ rfl _ rfl _ rfl _ rfl _ rfl _ rfl v12 s12 _ rfl _ rfl v15 s15 _ rfl _ rfl _ rfl
                simp only [List.setIfInBounds_toArray, List.set_cons_succ, List.set_cons_zero]
                have hfin := Lib.hid (And.intro (hb9.out.trans (hW.mono hb9.out.size)) (hDk9.out.low hW))
                clear hW HP37 HP38 HR39 HR40 s12 s15 hDk9 hb9
                have k7 := w64 ((q : Int) + 1) (by omega)
                go_wp2
                exact ⟨⟨q + 1, hqn2.out, by simp, hfin.out.1, _, _, _, _, _, hfin.out.2⟩, by simp [intOf]; have := hqn2.out; omega⟩
          · have z0 : ((kk : Int) == 0) = false := by simpa using h0
            by_cases h1 : kk = 1
            · subst h1
              clear h0 z0
              go_wp2_with fail
              refine (sync33 _ hDk.out.p).mono ?_
              rintro e w4 ⟨rfl, hp, hg⟩
              have hg' : Chg wr w4 (fun k => k = A ∨ v.ownBlock = some k) := hg.mono (fun _ e => .inl e)
              have hS34 := Lib.hid (rsync34 w4 (Nat.le_trans hbw.out hg.size) (hDk.out.mid hg'))
              replace hp := Lib.hid hp
              replace hg := Lib.hid hg'
              clear hg' c0 c1 c2 c3
              go_wp2_with fail
              refine hS34.out.mono ?_
              rintro e w5 ⟨rfl, x', hr, hg2, hx⟩
              clear hS34
              obtain ⟨v9, x9, y9, X9, Y9, hDk9⟩ : ∃ v x y X Y, Dk w.heap.size w5 A B v x y X Y := ⟨_, _, _, _, _, hDk.out.fin hp.out (.inl rfl) hr hg2 (.inr hx) (.inr (fun k e => by cases e)) (by rw [List.append_nil]) rfl⟩
              replace hDk9 := Lib.hid hDk9
              have hb9 := Lib.hid (hbel.out.trans (hDk.out.bel hbw.out hg.out hg2))
              obtain ⟨w9, hw9⟩ : ∃ w9, w9 = w5 := ⟨_, rfl⟩
              subst hw9
              clear hDk
              clear hp hg hr hg2 hx hbel
              obtain ⟨n, hn⟩ : ∃ n, Y9.length = n := ⟨_, rfl⟩
              obtain ⟨D, hDD⟩ : ∃ D, X9 ++ Y9 = D := ⟨_, rfl⟩
              have HP37 : Hid (∀ W, Below w9.heap.size w9 W → Calls Tryz.prog 37 #[.pointer (some ⟨A, 0, none⟩)] W fun e w' => e = .returned (.int .i64 (n : Nat)) ∧ Below W.heap.size W w') := Lib.hid (fun W hb => by
                              have := pending37 W (hDk9.out.low hb).p
                              rwa [List.length_append, Nat.add_sub_cancel_left, hn] at this)
              have HP38 : Hid (∀ W, Below w9.heap.size w9 W → Calls Tryz.prog 38 #[.pointer (some ⟨B, 0, none⟩)] W fun e w' => e = .returned (.int .i64 (n : Nat)) ∧ w' = W) := Lib.hid (fun W hb => by
                              have := pending38 W (hDk9.out.low hb).r
                              rwa [hn] at this)
              have HR39 : Hid (∀ W, Below w9.heap.size w9 W → Calls Tryz.prog 39 #[.pointer (some ⟨A, 0, none⟩)] W fun e w' => ∃ v', e = .returned v' ∧ SlB w' v' D ∧ Below W.heap.size W w') := Lib.hid (fun W hb => by
                              refine (read39 W (hDk9.out.low hb).p).mono ?_
                              rintro e w' ⟨v', rfl, ho, hb'⟩
                              rw [hDD] at ho
                              exact ⟨v', rfl, (own_SlB ho (by rw [← hDD, List.length_append]; have := hDk9.out.r.ml; omega)).1, hb'⟩)
              have HR40 : Hid (∀ W, Below w9.heap.size w9 W → Calls Tryz.prog 40 #[.pointer (some ⟨B, 0, none⟩)] W fun e w' => ∃ v', e = .returned v' ∧ SlB w' v' D ∧ Below W.heap.size W w') := Lib.hid (fun W hb => by
                              refine (rread40 W (hDk9.out.low hb).r).mono ?_
                              rintro e w' ⟨v', rfl, ho, hb'⟩
                              rw [hDD] at ho
                              exact ⟨v', rfl, (own_SlB ho (by rw [← hDD, List.length_append]; have := hDk9.out.r.ml; omega)).1, hb'⟩)
              clear hn hDD
              have hqn2 := Lib.hid hqn
              skip
              go_wp2_with fail
              refine wp_region_valsG (DkV A B n 0 D) (by kernel_rfl) (by kernel_rfl) DkV.keep ?_ ?_ ?_
              · intro i o g bb ho hg v W hv
                have hi : i < 19 := by have := (List.getElem?_eq_some_iff.1 ho).1; simpa using this
                obtain rfl | rfl | rfl | rfl | rfl | rfl | rfl | rfl | rfl | rfl | rfl | rfl | rfl | rfl | rfl | rfl | rfl | rfl | rfl : i = 0 ∨ i = 1 ∨ i = 2 ∨ i = 3 ∨ i = 4 ∨ i = 5 ∨ i = 6 ∨ i = 7 ∨ i = 8 ∨ i = 9 ∨ i = 10 ∨ i = 11 ∨ i = 12 ∨ i = 13 ∨ i = 14 ∨ i = 15 ∨ i = 16 ∨ i = 17 ∨ i = 18 := by omega
                all_goals simp only [List.getElem?_cons_zero, List.getElem?_cons_succ, Option.some.injEq] at ho
                all_goals subst ho
                all_goals simp only [Option.some.injEq, Prod.mk.injEq, reduceCtorEq] at hg
                all_goals (obtain ⟨rfl, rfl⟩ := hg; exact hv)
              · intro i o ho a' W hW hfr hdep
                have f3 : a'.tmps[3]?.getD undef = .pointer (some ⟨A, 0, none⟩) := Array.getD_eq_getD_getElem?.symm.trans (hfr 3 rfl)
                have f4 : a'.tmps[4]?.getD undef = .pointer (some ⟨B, 0, none⟩) := Array.getD_eq_getD_getElem?.symm.trans (hfr 4 rfl)
                have f6 : a'.tmps[6]?.getD undef = .int .i64 0 := Array.getD_eq_getD_getElem?.symm.trans (hfr 6 rfl)
                have f7 : a'.tmps[7]?.getD undef = .int .i64 0 := Array.getD_eq_getD_getElem?.symm.trans (hfr 7 rfl)
                clear hfr
                have hi : i < 19 := by have := (List.getElem?_eq_some_iff.1 ho).1; simpa using this
                obtain rfl | rfl | rfl | rfl | rfl | rfl | rfl | rfl | rfl | rfl | rfl | rfl | rfl | rfl | rfl | rfl | rfl | rfl | rfl : i = 0 ∨ i = 1 ∨ i = 2 ∨ i = 3 ∨ i = 4 ∨ i = 5 ∨ i = 6 ∨ i = 7 ∨ i = 8 ∨ i = 9 ∨ i = 10 ∨ i = 11 ∨ i = 12 ∨ i = 13 ∨ i = 14 ∨ i = 15 ∨ i = 16 ∨ i = 17 ∨ i = 18 := by omega
                all_goals simp only [List.getElem?_cons_zero, List.getElem?_cons_succ, Option.some.injEq] at ho
                all_goals subst ho
                · clear hdep
                  refine .inl ⟨_, W, ?_, Below.refl _ _, rfl⟩
                  go_simp
                · clear hdep
                  refine .inl ⟨_, W, ?_, Below.refl _ _, rfl⟩
                  go_simp
                · have d0 : a'.tmps[78]?.getD undef = .int .i64 0 := Array.getD_eq_getD_getElem?.symm.trans (hdep ⟨0, .data⟩ (by simp) rfl 78 rfl)
                  have d1 : a'.tmps[79]?.getD undef = .int .i64 0 := Array.getD_eq_getD_getElem?.symm.trans (hdep ⟨1, .data⟩ (by simp) rfl 79 rfl)
                  clear hdep
                  refine .inl ⟨_, W, ?_, Below.refl _ _, rfl⟩
                  go_simp
                · have d2 : a'.tmps[80]?.getD undef = .bool false := Array.getD_eq_getD_getElem?.symm.trans (hdep ⟨2, .data⟩ (by simp) rfl 80 rfl)
                  clear hdep
                  refine .inl ⟨_, W, ?_, Below.refl _ _, rfl⟩
                  go_simp
                · clear hdep
                  refine .inl ⟨_, W, ?_, Below.refl _ _, rfl⟩
                  go_simp
                · have d4 : a'.tmps[82]?.getD undef = .pointer (some ⟨A, 0, none⟩) := Array.getD_eq_getD_getElem?.symm.trans (hdep ⟨4, .data⟩ (by simp) rfl 82 rfl)
                  clear hdep
                  refine .inr ⟨37, #[.pointer (some ⟨A, 0, none⟩)], W, ?_, Below.refl _ _, (HP37.out W hW).mono ?_⟩
                  · go_simp
                  · rintro e W' ⟨rfl, hb⟩
                    exact ⟨_, rfl, hb, rfl⟩
                · clear hdep
                  refine .inl ⟨_, W, ?_, Below.refl _ _, rfl⟩
                  go_simp
                · have d6 : a'.tmps[84]?.getD undef = .pointer (some ⟨B, 0, none⟩) := Array.getD_eq_getD_getElem?.symm.trans (hdep ⟨6, .data⟩ (by simp) rfl 84 rfl)
                  clear hdep
                  refine .inr ⟨38, #[.pointer (some ⟨B, 0, none⟩)], W, ?_, Below.refl _ _, (HP38.out W hW).mono ?_⟩
                  · go_simp
                  · rintro e W' ⟨rfl, rfl⟩
                    exact ⟨_, rfl, Below.refl _ _, rfl⟩
                · have d5 : a'.tmps[83]?.getD undef = .int .i64 (n : Nat) := Array.getD_eq_getD_getElem?.symm.trans (hdep ⟨5, .data⟩ (by simp) rfl 83 rfl)
                  have d7 : a'.tmps[85]?.getD undef = .int .i64 (n : Nat) := Array.getD_eq_getD_getElem?.symm.trans (hdep ⟨7, .data⟩ (by simp) rfl 85 rfl)
                  clear hdep
                  refine .inl ⟨_, W, ?_, Below.refl _ _, rfl⟩
                  go_simp
                · have d3 : a'.tmps[81]?.getD undef = .bool false := Array.getD_eq_getD_getElem?.symm.trans (hdep ⟨3, .data⟩ (by simp) rfl 81 rfl)
                  have d8 : a'.tmps[86]?.getD undef = .bool false := Array.getD_eq_getD_getElem?.symm.trans (hdep ⟨8, .data⟩ (by simp) rfl 86 rfl)
                  clear hdep
                  refine .inl ⟨_, W, ?_, Below.refl _ _, rfl⟩
                  go_simp
                · have d9 : a'.tmps[87]?.getD undef = .bool false := Array.getD_eq_getD_getElem?.symm.trans (hdep ⟨9, .data⟩ (by simp) rfl 87 rfl)
                  clear hdep
                  refine .inl ⟨_, W, ?_, Below.refl _ _, rfl⟩
                  go_simp
                · clear hdep
                  refine .inl ⟨_, W, ?_, Below.refl _ _, rfl⟩
                  go_simp
                · have d11 : a'.tmps[89]?.getD undef = .pointer (some ⟨A, 0, none⟩) := Array.getD_eq_getD_getElem?.symm.trans (hdep ⟨11, .data⟩ (by simp) rfl 89 rfl)
                  clear hdep
                  refine .inr ⟨39, #[.pointer (some ⟨A, 0, none⟩)], W, ?_, Below.refl _ _, (HR39.out W hW).mono ?_⟩
                  · go_simp
                  · rintro e W' ⟨v', rfl, hs, hb⟩
                    exact ⟨_, rfl, hb, hs⟩
                · have d12 : SlB W (a'.tmps[90]?.getD undef) D := by have := hdep ⟨12, .data⟩ (by simp) rfl 90 rfl; rw [← Array.getD_eq_getD_getElem?]; exact this
                  clear hdep
                  have R := run_str d12
                  refine .inl ⟨_, W, ?_, Below.refl _ _, rfl⟩
                  simp only [execOp, Sem.run_bind, Sem.run_pure, Act.eval, Array.getD_eq_getD_getElem?, R, Result.andThen_ok]
                · clear hdep
                  refine .inl ⟨_, W, ?_, Below.refl _ _, rfl⟩
                  go_simp
                · have d14 : a'.tmps[92]?.getD undef = .pointer (some ⟨B, 0, none⟩) := Array.getD_eq_getD_getElem?.symm.trans (hdep ⟨14, .data⟩ (by simp) rfl 92 rfl)
                  clear hdep
                  refine .inr ⟨40, #[.pointer (some ⟨B, 0, none⟩)], W, ?_, Below.refl _ _, (HR40.out W hW).mono ?_⟩
                  · go_simp
                  · rintro e W' ⟨v', rfl, hs, hb⟩
                    exact ⟨_, rfl, hb, hs⟩
                · have d15 : SlB W (a'.tmps[93]?.getD undef) D := by have := hdep ⟨15, .data⟩ (by simp) rfl 93 rfl; rw [← Array.getD_eq_getD_getElem?]; exact this
                  clear hdep
                  have R := run_str d15
                  refine .inl ⟨_, W, ?_, Below.refl _ _, rfl⟩
                  simp only [execOp, Sem.run_bind, Sem.run_pure, Act.eval, Array.getD_eq_getD_getElem?, R, Result.andThen_ok]
                · have d13 : a'.tmps[91]?.getD undef = .string (strB D) := Array.getD_eq_getD_getElem?.symm.trans (hdep ⟨13, .data⟩ (by simp) rfl 91 rfl)
                  have d16 : a'.tmps[94]?.getD undef = .string (strB D) := Array.getD_eq_getD_getElem?.symm.trans (hdep ⟨16, .data⟩ (by simp) rfl 94 rfl)
                  clear hdep
                  refine .inl ⟨_, W, ?_, Below.refl _ _, rfl⟩
                  go_simp
                · have d10 : a'.tmps[88]?.getD undef = .bool false := Array.getD_eq_getD_getElem?.symm.trans (hdep ⟨10, .data⟩ (by simp) rfl 88 rfl)
                  have d17 : a'.tmps[95]?.getD undef = .bool false := Array.getD_eq_getD_getElem?.symm.trans (hdep ⟨17, .data⟩ (by simp) rfl 95 rfl)
                  clear hdep
                  refine .inl ⟨_, W, ?_, Below.refl _ _, rfl⟩
                  go_simp
              · intro W hW
                simp only [List.map_cons, List.map_nil, VQG, DkV]
                rintro _ rfl _ rfl _ rfl _ rfl _ rfl _ rfl _ rfl _ rfl _ rfl _ rfl _ rfl _ rfl v12 s12 _ rfl _ rfl v15 s15 _ rfl _ rfl _ rfl
                simp only [List.setIfInBounds_toArray, List.set_cons_succ, List.set_cons_zero]
                have hfin := Lib.hid (And.intro (hb9.out.trans (hW.mono hb9.out.size)) (hDk9.out.low hW))
                clear hW HP37 HP38 HR39 HR40 s12 s15 hDk9 hb9
                have k7 := w64 ((q : Int) + 1) (by omega)
                go_wp2
                exact ⟨⟨q + 1, hqn2.out, by simp, hfin.out.1, _, _, _, _, _, hfin.out.2⟩, by simp [intOf]; have := hqn2.out; omega⟩
            · have z1 : ((kk : Int) == 1) = false := by simpa using h1
              by_cases h2 : kk = 2
              · subst h2
                go_wp2_with fail
                go_still_tail 11, (by kernel_rfl)
                change wpList _ _ _ _ _ wr.drew
                obtain ⟨w4, hw_w4⟩ : ∃ x, wr.drew = x := ⟨_, rfl⟩
                rw [hw_w4]
                have hbd_w4 : Below wr.heap.size wr w4 := by rw [← hw_w4]; exact ⟨rfl, rfl, rfl, Nat.le_refl _, fun _ _ => rfl⟩
                clear hw_w4
                have hDk4 := Lib.hid (hDk.out.low hbd_w4)
                have hbel4 := Lib.hid (hbel.out.trans (hbd_w4.mono hbw.out))
                replace hbw := Lib.hid (Nat.le_trans hbw.out hbd_w4.size)
                clear hDk hbel hbd_w4 c0 c1 c2 c3
                have hDk := hDk4
                have hbel := hbel4
                clear hDk4 hbel4
                by_cases hk1 : 0 ≤ ke ∧ ke ≤ (Y.length : Int)
                · obtain ⟨keep, rfl⟩ : ∃ n : Nat, ke = (n : Int) := ⟨ke.toNat, by omega⟩
                  have hk2 : keep ≤ Y.length := by omega
                  have hk3 : X.length + keep ≤ (X ++ Y).length := by rw [List.length_append]; omega
                  by_cases hk4 : -1 ≤ kf ∧ kf ≤ 8 * (keep : Int) - 1
                  · by_cases hk5 : kf = -1
                    · subst hk5
                      have hC := Lib.hid (crash_plain keep w4 hDk.out.p hk3)
                      replace hk2 := Lib.hid hk2
                      skip
                      clear hk1 hk3 hk4
                      go_wp2_with fail
                      refine hC.out.mono ?_
                      rintro e w5 ⟨rfl, v', hp, hg, hv⟩
                      have hb5 := hbel.out.trans (hDk.out.bel hbw.out hg (Chg.refl w5 _))
                      have at5 := HAT.out w5 hb5
                      have d1 := at5.c1
                      have d2 := at5.c2
                      dsimp only at d1 d2
                      have hR := Lib.hid (fun W (hb : Below w5.heap.size w5 W) => rcrash_plain keep W (Nat.le_trans (Nat.le_trans hbw.out hg.size) hb.size) ((hDk.out.mid hg).low hb) hk2.out)
                      replace hp := Lib.hid hp
                      replace hg := Lib.hid hg
                      replace hv := Lib.hid hv
                      clear at5 hb5 hC
                      go_wp2_with fail
                      go_still_tail 11, (by kernel_rfl)
                      change wpList _ _ _ _ _ w5.drew
                      obtain ⟨w6, hw_w6⟩ : ∃ x, w5.drew = x := ⟨_, rfl⟩
                      rw [hw_w6]
                      have hbd_w6 : Below w5.heap.size w5 w6 := by rw [← hw_w6]; exact ⟨rfl, rfl, rfl, Nat.le_refl _, fun _ _ => rfl⟩
                      clear hw_w6
                      have hR6 := Lib.hid (hR.out w6 hbd_w6)
                      have hbd6 := Lib.hid hbd_w6
                      clear hbd_w6 hR d1 d2
                      go_wp2_with fail
                      refine hR6.out.mono ?_
                      rintro e w7 ⟨rfl, x', hr, hg2, hx⟩
                      have hg3 : Chg w5 w7 (fun k => k = B) := (Chg.of_below (fun k => k = B) hbd6.out).trans hg2 (fun _ _ h => h)
                      have hx3 : ∀ k, x'.ownBlock = some k → w5.heap.size ≤ k := fun k e => Nat.le_trans hbd6.out.size (hx k e)
                      clear hR6 hg2 hx hbd6
                      obtain ⟨v9, x9, y9, X9, Y9, hDk9⟩ : ∃ v x y X Y, Dk w.heap.size w7 A B v x y X Y := ⟨_, _, _, _, _, hDk.out.fin hp.out (.inl hv.out) hr hg3 (.inr hx3) (.inr (fun k e => by cases e)) (by rw [List.append_nil]; exact (crash_take X Y keep)) (by rw [List.length_append, List.length_take]; have := hk2.out; omega)⟩
                      replace hDk9 := Lib.hid hDk9
                      have hb9 := Lib.hid (hbel.out.trans (hDk.out.bel hbw.out hg.out hg3))
                      obtain ⟨w9, hw9⟩ : ∃ w9, w9 = w7 := ⟨_, rfl⟩
                      subst hw9
                      clear hDk
                      clear hp hg hv hr hg3 hx3 hbel hk2
                      obtain ⟨n, hn⟩ : ∃ n, Y9.length = n := ⟨_, rfl⟩
                      obtain ⟨D, hDD⟩ : ∃ D, X9 ++ Y9 = D := ⟨_, rfl⟩
                      have HP37 : Hid (∀ W, Below w9.heap.size w9 W → Calls Tryz.prog 37 #[.pointer (some ⟨A, 0, none⟩)] W fun e w' => e = .returned (.int .i64 (n : Nat)) ∧ Below W.heap.size W w') := Lib.hid (fun W hb => by
                                              have := pending37 W (hDk9.out.low hb).p
                                              rwa [List.length_append, Nat.add_sub_cancel_left, hn] at this)
                      have HP38 : Hid (∀ W, Below w9.heap.size w9 W → Calls Tryz.prog 38 #[.pointer (some ⟨B, 0, none⟩)] W fun e w' => e = .returned (.int .i64 (n : Nat)) ∧ w' = W) := Lib.hid (fun W hb => by
                                              have := pending38 W (hDk9.out.low hb).r
                                              rwa [hn] at this)
                      have HR39 : Hid (∀ W, Below w9.heap.size w9 W → Calls Tryz.prog 39 #[.pointer (some ⟨A, 0, none⟩)] W fun e w' => ∃ v', e = .returned v' ∧ SlB w' v' D ∧ Below W.heap.size W w') := Lib.hid (fun W hb => by
                                              refine (read39 W (hDk9.out.low hb).p).mono ?_
                                              rintro e w' ⟨v', rfl, ho, hb'⟩
                                              rw [hDD] at ho
                                              exact ⟨v', rfl, (own_SlB ho (by rw [← hDD, List.length_append]; have := hDk9.out.r.ml; omega)).1, hb'⟩)
                      have HR40 : Hid (∀ W, Below w9.heap.size w9 W → Calls Tryz.prog 40 #[.pointer (some ⟨B, 0, none⟩)] W fun e w' => ∃ v', e = .returned v' ∧ SlB w' v' D ∧ Below W.heap.size W w') := Lib.hid (fun W hb => by
                                              refine (rread40 W (hDk9.out.low hb).r).mono ?_
                                              rintro e w' ⟨v', rfl, ho, hb'⟩
                                              rw [hDD] at ho
                                              exact ⟨v', rfl, (own_SlB ho (by rw [← hDD, List.length_append]; have := hDk9.out.r.ml; omega)).1, hb'⟩)
                      clear hn hDD
                      have hqn2 := Lib.hid hqn
                      skip
                      go_wp2_with fail
                      refine wp_region_valsG (DkV A B n 0 D) (by kernel_rfl) (by kernel_rfl) DkV.keep ?_ ?_ ?_
                      · intro i o g bb ho hg v W hv
                        have hi : i < 19 := by have := (List.getElem?_eq_some_iff.1 ho).1; simpa using this
                        obtain rfl | rfl | rfl | rfl | rfl | rfl | rfl | rfl | rfl | rfl | rfl | rfl | rfl | rfl | rfl | rfl | rfl | rfl | rfl : i = 0 ∨ i = 1 ∨ i = 2 ∨ i = 3 ∨ i = 4 ∨ i = 5 ∨ i = 6 ∨ i = 7 ∨ i = 8 ∨ i = 9 ∨ i = 10 ∨ i = 11 ∨ i = 12 ∨ i = 13 ∨ i = 14 ∨ i = 15 ∨ i = 16 ∨ i = 17 ∨ i = 18 := by omega
                        all_goals simp only [List.getElem?_cons_zero, List.getElem?_cons_succ, Option.some.injEq] at ho
                        all_goals subst ho
                        all_goals simp only [Option.some.injEq, Prod.mk.injEq, reduceCtorEq] at hg
                        all_goals (obtain ⟨rfl, rfl⟩ := hg; exact hv)
                      · intro i o ho a' W hW hfr hdep
                        have f3 : a'.tmps[3]?.getD undef = .pointer (some ⟨A, 0, none⟩) := Array.getD_eq_getD_getElem?.symm.trans (hfr 3 rfl)
                        have f4 : a'.tmps[4]?.getD undef = .pointer (some ⟨B, 0, none⟩) := Array.getD_eq_getD_getElem?.symm.trans (hfr 4 rfl)
                        have f6 : a'.tmps[6]?.getD undef = .int .i64 0 := Array.getD_eq_getD_getElem?.symm.trans (hfr 6 rfl)
                        have f7 : a'.tmps[7]?.getD undef = .int .i64 0 := Array.getD_eq_getD_getElem?.symm.trans (hfr 7 rfl)
                        clear hfr
                        have hi : i < 19 := by have := (List.getElem?_eq_some_iff.1 ho).1; simpa using this
                        obtain rfl | rfl | rfl | rfl | rfl | rfl | rfl | rfl | rfl | rfl | rfl | rfl | rfl | rfl | rfl | rfl | rfl | rfl | rfl : i = 0 ∨ i = 1 ∨ i = 2 ∨ i = 3 ∨ i = 4 ∨ i = 5 ∨ i = 6 ∨ i = 7 ∨ i = 8 ∨ i = 9 ∨ i = 10 ∨ i = 11 ∨ i = 12 ∨ i = 13 ∨ i = 14 ∨ i = 15 ∨ i = 16 ∨ i = 17 ∨ i = 18 := by omega
                        all_goals simp only [List.getElem?_cons_zero, List.getElem?_cons_succ, Option.some.injEq] at ho
                        all_goals subst ho
                        · clear hdep
                          refine .inl ⟨_, W, ?_, Below.refl _ _, rfl⟩
                          go_simp
                        · clear hdep
                          refine .inl ⟨_, W, ?_, Below.refl _ _, rfl⟩
                          go_simp
                        · have d0 : a'.tmps[78]?.getD undef = .int .i64 0 := Array.getD_eq_getD_getElem?.symm.trans (hdep ⟨0, .data⟩ (by simp) rfl 78 rfl)
                          have d1 : a'.tmps[79]?.getD undef = .int .i64 0 := Array.getD_eq_getD_getElem?.symm.trans (hdep ⟨1, .data⟩ (by simp) rfl 79 rfl)
                          clear hdep
                          refine .inl ⟨_, W, ?_, Below.refl _ _, rfl⟩
                          go_simp
                        · have d2 : a'.tmps[80]?.getD undef = .bool false := Array.getD_eq_getD_getElem?.symm.trans (hdep ⟨2, .data⟩ (by simp) rfl 80 rfl)
                          clear hdep
                          refine .inl ⟨_, W, ?_, Below.refl _ _, rfl⟩
                          go_simp
                        · clear hdep
                          refine .inl ⟨_, W, ?_, Below.refl _ _, rfl⟩
                          go_simp
                        · have d4 : a'.tmps[82]?.getD undef = .pointer (some ⟨A, 0, none⟩) := Array.getD_eq_getD_getElem?.symm.trans (hdep ⟨4, .data⟩ (by simp) rfl 82 rfl)
                          clear hdep
                          refine .inr ⟨37, #[.pointer (some ⟨A, 0, none⟩)], W, ?_, Below.refl _ _, (HP37.out W hW).mono ?_⟩
                          · go_simp
                          · rintro e W' ⟨rfl, hb⟩
                            exact ⟨_, rfl, hb, rfl⟩
                        · clear hdep
                          refine .inl ⟨_, W, ?_, Below.refl _ _, rfl⟩
                          go_simp
                        · have d6 : a'.tmps[84]?.getD undef = .pointer (some ⟨B, 0, none⟩) := Array.getD_eq_getD_getElem?.symm.trans (hdep ⟨6, .data⟩ (by simp) rfl 84 rfl)
                          clear hdep
                          refine .inr ⟨38, #[.pointer (some ⟨B, 0, none⟩)], W, ?_, Below.refl _ _, (HP38.out W hW).mono ?_⟩
                          · go_simp
                          · rintro e W' ⟨rfl, rfl⟩
                            exact ⟨_, rfl, Below.refl _ _, rfl⟩
                        · have d5 : a'.tmps[83]?.getD undef = .int .i64 (n : Nat) := Array.getD_eq_getD_getElem?.symm.trans (hdep ⟨5, .data⟩ (by simp) rfl 83 rfl)
                          have d7 : a'.tmps[85]?.getD undef = .int .i64 (n : Nat) := Array.getD_eq_getD_getElem?.symm.trans (hdep ⟨7, .data⟩ (by simp) rfl 85 rfl)
                          clear hdep
                          refine .inl ⟨_, W, ?_, Below.refl _ _, rfl⟩
                          go_simp
                        · have d3 : a'.tmps[81]?.getD undef = .bool false := Array.getD_eq_getD_getElem?.symm.trans (hdep ⟨3, .data⟩ (by simp) rfl 81 rfl)
                          have d8 : a'.tmps[86]?.getD undef = .bool false := Array.getD_eq_getD_getElem?.symm.trans (hdep ⟨8, .data⟩ (by simp) rfl 86 rfl)
                          clear hdep
                          refine .inl ⟨_, W, ?_, Below.refl _ _, rfl⟩
                          go_simp
                        · have d9 : a'.tmps[87]?.getD undef = .bool false := Array.getD_eq_getD_getElem?.symm.trans (hdep ⟨9, .data⟩ (by simp) rfl 87 rfl)
                          clear hdep
                          refine .inl ⟨_, W, ?_, Below.refl _ _, rfl⟩
                          go_simp
                        · clear hdep
                          refine .inl ⟨_, W, ?_, Below.refl _ _, rfl⟩
                          go_simp
                        · have d11 : a'.tmps[89]?.getD undef = .pointer (some ⟨A, 0, none⟩) := Array.getD_eq_getD_getElem?.symm.trans (hdep ⟨11, .data⟩ (by simp) rfl 89 rfl)
                          clear hdep
                          refine .inr ⟨39, #[.pointer (some ⟨A, 0, none⟩)], W, ?_, Below.refl _ _, (HR39.out W hW).mono ?_⟩
                          · go_simp
                          · rintro e W' ⟨v', rfl, hs, hb⟩
                            exact ⟨_, rfl, hb, hs⟩
                        · have d12 : SlB W (a'.tmps[90]?.getD undef) D := by have := hdep ⟨12, .data⟩ (by simp) rfl 90 rfl; rw [← Array.getD_eq_getD_getElem?]; exact this
                          clear hdep
                          have R := run_str d12
                          refine .inl ⟨_, W, ?_, Below.refl _ _, rfl⟩
                          simp only [execOp, Sem.run_bind, Sem.run_pure, Act.eval, Array.getD_eq_getD_getElem?, R, Result.andThen_ok]
                        · clear hdep
                          refine .inl ⟨_, W, ?_, Below.refl _ _, rfl⟩
                          go_simp
                        · have d14 : a'.tmps[92]?.getD undef = .pointer (some ⟨B, 0, none⟩) := Array.getD_eq_getD_getElem?.symm.trans (hdep ⟨14, .data⟩ (by simp) rfl 92 rfl)
                          clear hdep
                          refine .inr ⟨40, #[.pointer (some ⟨B, 0, none⟩)], W, ?_, Below.refl _ _, (HR40.out W hW).mono ?_⟩
                          · go_simp
                          · rintro e W' ⟨v', rfl, hs, hb⟩
                            exact ⟨_, rfl, hb, hs⟩
                        · have d15 : SlB W (a'.tmps[93]?.getD undef) D := by have := hdep ⟨15, .data⟩ (by simp) rfl 93 rfl; rw [← Array.getD_eq_getD_getElem?]; exact this
                          clear hdep
                          have R := run_str d15
                          refine .inl ⟨_, W, ?_, Below.refl _ _, rfl⟩
                          simp only [execOp, Sem.run_bind, Sem.run_pure, Act.eval, Array.getD_eq_getD_getElem?, R, Result.andThen_ok]
                        · have d13 : a'.tmps[91]?.getD undef = .string (strB D) := Array.getD_eq_getD_getElem?.symm.trans (hdep ⟨13, .data⟩ (by simp) rfl 91 rfl)
                          have d16 : a'.tmps[94]?.getD undef = .string (strB D) := Array.getD_eq_getD_getElem?.symm.trans (hdep ⟨16, .data⟩ (by simp) rfl 94 rfl)
                          clear hdep
                          refine .inl ⟨_, W, ?_, Below.refl _ _, rfl⟩
                          go_simp
                        · have d10 : a'.tmps[88]?.getD undef = .bool false := Array.getD_eq_getD_getElem?.symm.trans (hdep ⟨10, .data⟩ (by simp) rfl 88 rfl)
                          have d17 : a'.tmps[95]?.getD undef = .bool false := Array.getD_eq_getD_getElem?.symm.trans (hdep ⟨17, .data⟩ (by simp) rfl 95 rfl)
                          clear hdep
                          refine .inl ⟨_, W, ?_, Below.refl _ _, rfl⟩
                          go_simp
                      · intro W hW
                        simp only [List.map_cons, List.map_nil, VQG, DkV]
                        rintro _ rfl _ rfl _ rfl _ rfl _ rfl _ rfl _ rfl _ rfl _ rfl _ rfl _ rfl _ rfl v12 s12 _ rfl _ rfl v15 s15 _ rfl _ rfl _ rfl
                        simp only [List.setIfInBounds_toArray, List.set_cons_succ, List.set_cons_zero]
                        have hfin := Lib.hid (And.intro (hb9.out.trans (hW.mono hb9.out.size)) (hDk9.out.low hW))
                        clear hW HP37 HP38 HR39 HR40 s12 s15 hDk9 hb9
                        have k7 := w64 ((q : Int) + 1) (by omega)
                        go_wp2
                        exact ⟨⟨q + 1, hqn2.out, by simp, hfin.out.1, _, _, _, _, _, hfin.out.2⟩, by simp [intOf]; have := hqn2.out; omega⟩

                    · obtain ⟨fn, rfl⟩ : ∃ n : Nat, kf = (n : Int) := ⟨kf.toNat, by omega⟩
                      have hk6 : fn < 8 * keep := by omega
                      have hC := Lib.hid (crash_flip keep fn w4 hDk.out.p hk3 hk6)
                      replace hk2 := Lib.hid hk2
                      replace hk6 := Lib.hid hk6
                      clear hk1 hk3 hk4 hk5
                      go_wp2_with fail
                      refine hC.out.mono ?_
                      rintro e w5 ⟨rfl, v', hp, hg, hv⟩
                      have hb5 := hbel.out.trans (hDk.out.bel hbw.out hg (Chg.refl w5 _))
                      have at5 := HAT.out w5 hb5
                      have d1 := at5.c1
                      have d2 := at5.c2
                      dsimp only at d1 d2
                      have hR := Lib.hid (fun W (hb : Below w5.heap.size w5 W) => rcrash_flip keep fn W (Nat.le_trans (Nat.le_trans hbw.out hg.size) hb.size) ((hDk.out.mid hg).low hb) hk2.out hk6.out)
                      replace hp := Lib.hid hp
                      replace hg := Lib.hid hg
                      replace hv := Lib.hid hv
                      clear at5 hb5 hC
                      go_wp2_with fail
                      go_still_tail 11, (by kernel_rfl)
                      change wpList _ _ _ _ _ w5.drew
                      obtain ⟨w6, hw_w6⟩ : ∃ x, w5.drew = x := ⟨_, rfl⟩
                      rw [hw_w6]
                      have hbd_w6 : Below w5.heap.size w5 w6 := by rw [← hw_w6]; exact ⟨rfl, rfl, rfl, Nat.le_refl _, fun _ _ => rfl⟩
                      clear hw_w6
                      have hR6 := Lib.hid (hR.out w6 hbd_w6)
                      have hbd6 := Lib.hid hbd_w6
                      clear hbd_w6 hR d1 d2
                      go_wp2_with fail
                      refine hR6.out.mono ?_
                      rintro e w7 ⟨rfl, x', hr, hg2, hx⟩
                      have hg3 : Chg w5 w7 (fun k => k = B) := (Chg.of_below (fun k => k = B) hbd6.out).trans hg2 (fun _ _ h => h)
                      have hx3 : ∀ k, x'.ownBlock = some k → w5.heap.size ≤ k := fun k e => Nat.le_trans hbd6.out.size (hx k e)
                      clear hR6 hg2 hx hbd6
                      obtain ⟨v9, x9, y9, X9, Y9, hDk9⟩ : ∃ v x y X Y, Dk w.heap.size w7 A B v x y X Y := ⟨_, _, _, _, _, hDk.out.fin hp.out (.inl hv.out) hr hg3 (.inr hx3) (.inr (fun k e => by cases e)) (by rw [List.append_nil]; exact (crash_set X Y keep (fn / 8) _ (by have := hk6.out; omega) (fun z => z ^^^ 2 ^ (fn % 8)) rfl)) (by rw [List.length_append, List.length_set, List.length_take]; have := hk2.out; omega)⟩
                      replace hDk9 := Lib.hid hDk9
                      have hb9 := Lib.hid (hbel.out.trans (hDk.out.bel hbw.out hg.out hg3))
                      obtain ⟨w9, hw9⟩ : ∃ w9, w9 = w7 := ⟨_, rfl⟩
                      subst hw9
                      clear hDk
                      clear hp hg hv hr hg3 hx3 hbel hk2 hk6
                      obtain ⟨n, hn⟩ : ∃ n, Y9.length = n := ⟨_, rfl⟩
                      obtain ⟨D, hDD⟩ : ∃ D, X9 ++ Y9 = D := ⟨_, rfl⟩
                      have HP37 : Hid (∀ W, Below w9.heap.size w9 W → Calls Tryz.prog 37 #[.pointer (some ⟨A, 0, none⟩)] W fun e w' => e = .returned (.int .i64 (n : Nat)) ∧ Below W.heap.size W w') := Lib.hid (fun W hb => by
                                              have := pending37 W (hDk9.out.low hb).p
                                              rwa [List.length_append, Nat.add_sub_cancel_left, hn] at this)
                      have HP38 : Hid (∀ W, Below w9.heap.size w9 W → Calls Tryz.prog 38 #[.pointer (some ⟨B, 0, none⟩)] W fun e w' => e = .returned (.int .i64 (n : Nat)) ∧ w' = W) := Lib.hid (fun W hb => by
                                              have := pending38 W (hDk9.out.low hb).r
                                              rwa [hn] at this)
                      have HR39 : Hid (∀ W, Below w9.heap.size w9 W → Calls Tryz.prog 39 #[.pointer (some ⟨A, 0, none⟩)] W fun e w' => ∃ v', e = .returned v' ∧ SlB w' v' D ∧ Below W.heap.size W w') := Lib.hid (fun W hb => by
                                              refine (read39 W (hDk9.out.low hb).p).mono ?_
                                              rintro e w' ⟨v', rfl, ho, hb'⟩
                                              rw [hDD] at ho
                                              exact ⟨v', rfl, (own_SlB ho (by rw [← hDD, List.length_append]; have := hDk9.out.r.ml; omega)).1, hb'⟩)
                      have HR40 : Hid (∀ W, Below w9.heap.size w9 W → Calls Tryz.prog 40 #[.pointer (some ⟨B, 0, none⟩)] W fun e w' => ∃ v', e = .returned v' ∧ SlB w' v' D ∧ Below W.heap.size W w') := Lib.hid (fun W hb => by
                                              refine (rread40 W (hDk9.out.low hb).r).mono ?_
                                              rintro e w' ⟨v', rfl, ho, hb'⟩
                                              rw [hDD] at ho
                                              exact ⟨v', rfl, (own_SlB ho (by rw [← hDD, List.length_append]; have := hDk9.out.r.ml; omega)).1, hb'⟩)
                      clear hn hDD
                      have hqn2 := Lib.hid hqn
                      skip
                      go_wp2_with fail
                      refine wp_region_valsG (DkV A B n 0 D) (by kernel_rfl) (by kernel_rfl) DkV.keep ?_ ?_ ?_
                      · intro i o g bb ho hg v W hv
                        have hi : i < 19 := by have := (List.getElem?_eq_some_iff.1 ho).1; simpa using this
                        obtain rfl | rfl | rfl | rfl | rfl | rfl | rfl | rfl | rfl | rfl | rfl | rfl | rfl | rfl | rfl | rfl | rfl | rfl | rfl : i = 0 ∨ i = 1 ∨ i = 2 ∨ i = 3 ∨ i = 4 ∨ i = 5 ∨ i = 6 ∨ i = 7 ∨ i = 8 ∨ i = 9 ∨ i = 10 ∨ i = 11 ∨ i = 12 ∨ i = 13 ∨ i = 14 ∨ i = 15 ∨ i = 16 ∨ i = 17 ∨ i = 18 := by omega
                        all_goals simp only [List.getElem?_cons_zero, List.getElem?_cons_succ, Option.some.injEq] at ho
                        all_goals subst ho
                        all_goals simp only [Option.some.injEq, Prod.mk.injEq, reduceCtorEq] at hg
                        all_goals (obtain ⟨rfl, rfl⟩ := hg; exact hv)
                      · intro i o ho a' W hW hfr hdep
                        have f3 : a'.tmps[3]?.getD undef = .pointer (some ⟨A, 0, none⟩) := Array.getD_eq_getD_getElem?.symm.trans (hfr 3 rfl)
                        have f4 : a'.tmps[4]?.getD undef = .pointer (some ⟨B, 0, none⟩) := Array.getD_eq_getD_getElem?.symm.trans (hfr 4 rfl)
                        have f6 : a'.tmps[6]?.getD undef = .int .i64 0 := Array.getD_eq_getD_getElem?.symm.trans (hfr 6 rfl)
                        have f7 : a'.tmps[7]?.getD undef = .int .i64 0 := Array.getD_eq_getD_getElem?.symm.trans (hfr 7 rfl)
                        clear hfr
                        have hi : i < 19 := by have := (List.getElem?_eq_some_iff.1 ho).1; simpa using this
                        obtain rfl | rfl | rfl | rfl | rfl | rfl | rfl | rfl | rfl | rfl | rfl | rfl | rfl | rfl | rfl | rfl | rfl | rfl | rfl : i = 0 ∨ i = 1 ∨ i = 2 ∨ i = 3 ∨ i = 4 ∨ i = 5 ∨ i = 6 ∨ i = 7 ∨ i = 8 ∨ i = 9 ∨ i = 10 ∨ i = 11 ∨ i = 12 ∨ i = 13 ∨ i = 14 ∨ i = 15 ∨ i = 16 ∨ i = 17 ∨ i = 18 := by omega
                        all_goals simp only [List.getElem?_cons_zero, List.getElem?_cons_succ, Option.some.injEq] at ho
                        all_goals subst ho
                        · clear hdep
                          refine .inl ⟨_, W, ?_, Below.refl _ _, rfl⟩
                          go_simp
                        · clear hdep
                          refine .inl ⟨_, W, ?_, Below.refl _ _, rfl⟩
                          go_simp
                        · have d0 : a'.tmps[78]?.getD undef = .int .i64 0 := Array.getD_eq_getD_getElem?.symm.trans (hdep ⟨0, .data⟩ (by simp) rfl 78 rfl)
                          have d1 : a'.tmps[79]?.getD undef = .int .i64 0 := Array.getD_eq_getD_getElem?.symm.trans (hdep ⟨1, .data⟩ (by simp) rfl 79 rfl)
                          clear hdep
                          refine .inl ⟨_, W, ?_, Below.refl _ _, rfl⟩
                          go_simp
                        · have d2 : a'.tmps[80]?.getD undef = .bool false := Array.getD_eq_getD_getElem?.symm.trans (hdep ⟨2, .data⟩ (by simp) rfl 80 rfl)
                          clear hdep
                          refine .inl ⟨_, W, ?_, Below.refl _ _, rfl⟩
                          go_simp
                        · clear hdep
                          refine .inl ⟨_, W, ?_, Below.refl _ _, rfl⟩
                          go_simp
                        · have d4 : a'.tmps[82]?.getD undef = .pointer (some ⟨A, 0, none⟩) := Array.getD_eq_getD_getElem?.symm.trans (hdep ⟨4, .data⟩ (by simp) rfl 82 rfl)
                          clear hdep
                          refine .inr ⟨37, #[.pointer (some ⟨A, 0, none⟩)], W, ?_, Below.refl _ _, (HP37.out W hW).mono ?_⟩
                          · go_simp
                          · rintro e W' ⟨rfl, hb⟩
                            exact ⟨_, rfl, hb, rfl⟩
                        · clear hdep
                          refine .inl ⟨_, W, ?_, Below.refl _ _, rfl⟩
                          go_simp
                        · have d6 : a'.tmps[84]?.getD undef = .pointer (some ⟨B, 0, none⟩) := Array.getD_eq_getD_getElem?.symm.trans (hdep ⟨6, .data⟩ (by simp) rfl 84 rfl)
                          clear hdep
                          refine .inr ⟨38, #[.pointer (some ⟨B, 0, none⟩)], W, ?_, Below.refl _ _, (HP38.out W hW).mono ?_⟩
                          · go_simp
                          · rintro e W' ⟨rfl, rfl⟩
                            exact ⟨_, rfl, Below.refl _ _, rfl⟩
                        · have d5 : a'.tmps[83]?.getD undef = .int .i64 (n : Nat) := Array.getD_eq_getD_getElem?.symm.trans (hdep ⟨5, .data⟩ (by simp) rfl 83 rfl)
                          have d7 : a'.tmps[85]?.getD undef = .int .i64 (n : Nat) := Array.getD_eq_getD_getElem?.symm.trans (hdep ⟨7, .data⟩ (by simp) rfl 85 rfl)
                          clear hdep
                          refine .inl ⟨_, W, ?_, Below.refl _ _, rfl⟩
                          go_simp
                        · have d3 : a'.tmps[81]?.getD undef = .bool false := Array.getD_eq_getD_getElem?.symm.trans (hdep ⟨3, .data⟩ (by simp) rfl 81 rfl)
                          have d8 : a'.tmps[86]?.getD undef = .bool false := Array.getD_eq_getD_getElem?.symm.trans (hdep ⟨8, .data⟩ (by simp) rfl 86 rfl)
                          clear hdep
                          refine .inl ⟨_, W, ?_, Below.refl _ _, rfl⟩
                          go_simp
                        · have d9 : a'.tmps[87]?.getD undef = .bool false := Array.getD_eq_getD_getElem?.symm.trans (hdep ⟨9, .data⟩ (by simp) rfl 87 rfl)
                          clear hdep
                          refine .inl ⟨_, W, ?_, Below.refl _ _, rfl⟩
                          go_simp
                        · clear hdep
                          refine .inl ⟨_, W, ?_, Below.refl _ _, rfl⟩
                          go_simp
                        · have d11 : a'.tmps[89]?.getD undef = .pointer (some ⟨A, 0, none⟩) := Array.getD_eq_getD_getElem?.symm.trans (hdep ⟨11, .data⟩ (by simp) rfl 89 rfl)
                          clear hdep
                          refine .inr ⟨39, #[.pointer (some ⟨A, 0, none⟩)], W, ?_, Below.refl _ _, (HR39.out W hW).mono ?_⟩
                          · go_simp
                          · rintro e W' ⟨v', rfl, hs, hb⟩
                            exact ⟨_, rfl, hb, hs⟩
                        · have d12 : SlB W (a'.tmps[90]?.getD undef) D := by have := hdep ⟨12, .data⟩ (by simp) rfl 90 rfl; rw [← Array.getD_eq_getD_getElem?]; exact this
                          clear hdep
                          have R := run_str d12
                          refine .inl ⟨_, W, ?_, Below.refl _ _, rfl⟩
                          simp only [execOp, Sem.run_bind, Sem.run_pure, Act.eval, Array.getD_eq_getD_getElem?, R, Result.andThen_ok]
                        · clear hdep
                          refine .inl ⟨_, W, ?_, Below.refl _ _, rfl⟩
                          go_simp
                        · have d14 : a'.tmps[92]?.getD undef = .pointer (some ⟨B, 0, none⟩) := Array.getD_eq_getD_getElem?.symm.trans (hdep ⟨14, .data⟩ (by simp) rfl 92 rfl)
                          clear hdep
                          refine .inr ⟨40, #[.pointer (some ⟨B, 0, none⟩)], W, ?_, Below.refl _ _, (HR40.out W hW).mono ?_⟩
                          · go_simp
                          · rintro e W' ⟨v', rfl, hs, hb⟩
                            exact ⟨_, rfl, hb, hs⟩
                        · have d15 : SlB W (a'.tmps[93]?.getD undef) D := by have := hdep ⟨15, .data⟩ (by simp) rfl 93 rfl; rw [← Array.getD_eq_getD_getElem?]; exact this
                          clear hdep
                          have R := run_str d15
                          refine .inl ⟨_, W, ?_, Below.refl _ _, rfl⟩
                          simp only [execOp, Sem.run_bind, Sem.run_pure, Act.eval, Array.getD_eq_getD_getElem?, R, Result.andThen_ok]
                        · have d13 : a'.tmps[91]?.getD undef = .string (strB D) := Array.getD_eq_getD_getElem?.symm.trans (hdep ⟨13, .data⟩ (by simp) rfl 91 rfl)
                          have d16 : a'.tmps[94]?.getD undef = .string (strB D) := Array.getD_eq_getD_getElem?.symm.trans (hdep ⟨16, .data⟩ (by simp) rfl 94 rfl)
                          clear hdep
                          refine .inl ⟨_, W, ?_, Below.refl _ _, rfl⟩
                          go_simp
                        · have d10 : a'.tmps[88]?.getD undef = .bool false := Array.getD_eq_getD_getElem?.symm.trans (hdep ⟨10, .data⟩ (by simp) rfl 88 rfl)
                          have d17 : a'.tmps[95]?.getD undef = .bool false := Array.getD_eq_getD_getElem?.symm.trans (hdep ⟨17, .data⟩ (by simp) rfl 95 rfl)
                          clear hdep
                          refine .inl ⟨_, W, ?_, Below.refl _ _, rfl⟩
                          go_simp
                      · intro W hW
                        simp only [List.map_cons, List.map_nil, VQG, DkV]
                        rintro _ rfl _ rfl _ rfl _ rfl _ rfl _ rfl _ rfl _ rfl _ rfl _ rfl _ rfl _ rfl v12 s12 _ rfl _ rfl v15 s15 _ rfl _ rfl _ rfl
                        simp only [List.setIfInBounds_toArray, List.set_cons_succ, List.set_cons_zero]
                        have hfin := Lib.hid (And.intro (hb9.out.trans (hW.mono hb9.out.size)) (hDk9.out.low hW))
                        clear hW HP37 HP38 HR39 HR40 s12 s15 hDk9 hb9
                        have k7 := w64 ((q : Int) + 1) (by omega)
                        go_wp2
                        exact ⟨⟨q + 1, hqn2.out, by simp, hfin.out.1, _, _, _, _, _, hfin.out.2⟩, by simp [intOf]; have := hqn2.out; omega⟩

                  · have hC := Lib.hid (crash_bit keep kf w4 hDk.out.p hk3 hk4)
                    have hR := Lib.hid (fun W (hb : Below w4.heap.size w4 W) => rcrash_bad (keep : Int) kf W (hDk.out.r.low hb) (fun h => hk4 ⟨h.2.2.1, h.2.2.2⟩))
                    clear hk1 hk2 hk3 hk4
                    go_wp2_with fail
                    refine hC.out.mono ?_
                    rintro e w5 ⟨rfl, hb5⟩
                    have hb5w := hbel.out.trans (hb5.mono hbw.out)
                    have at5 := HAT.out w5 hb5w
                    have d1 := at5.c1
                    have d2 := at5.c2
                    dsimp only at d1 d2
                    replace hb5 := Lib.hid hb5
                    clear at5 hb5w hC
                    go_wp2_with fail
                    go_still_tail 11, (by kernel_rfl)
                    change wpList _ _ _ _ _ w5.drew
                    obtain ⟨w6, hw_w6⟩ : ∃ x, w5.drew = x := ⟨_, rfl⟩
                    rw [hw_w6]
                    have hbd_w6 : Below w5.heap.size w5 w6 := by rw [← hw_w6]; exact ⟨rfl, rfl, rfl, Nat.le_refl _, fun _ _ => rfl⟩
                    clear hw_w6
                    have hbd6 := Lib.hid (hb5.out.trans (hbd_w6.mono hb5.out.size))
                    have hR6 := Lib.hid (hR.out w6 hbd6.out)
                    clear hbd_w6 hR d1 d2 hb5
                    go_wp2_with fail
                    refine hR6.out.mono ?_
                    rintro e w7 ⟨rfl, hb7⟩
                    have hb7w := hbd6.out.trans (hb7.mono hbd6.out.size)
                    clear hR6 hbd6 hb7
                    obtain ⟨v9, x9, y9, X9, Y9, hDk9⟩ : ∃ v x y X Y, Dk w.heap.size w7 A B v x y X Y := ⟨_, _, _, _, _, hDk.out.low hb7w⟩
                    replace hDk9 := Lib.hid hDk9
                    have hb9 := Lib.hid (hbel.out.trans (hb7w.mono hbw.out))
                    obtain ⟨w9, hw9⟩ : ∃ w9, w9 = w7 := ⟨_, rfl⟩
                    subst hw9
                    clear hDk hb7w hbel
                    obtain ⟨n, hn⟩ : ∃ n, Y9.length = n := ⟨_, rfl⟩
                    obtain ⟨D, hDD⟩ : ∃ D, X9 ++ Y9 = D := ⟨_, rfl⟩
                    have HP37 : Hid (∀ W, Below w9.heap.size w9 W → Calls Tryz.prog 37 #[.pointer (some ⟨A, 0, none⟩)] W fun e w' => e = .returned (.int .i64 (n : Nat)) ∧ Below W.heap.size W w') := Lib.hid (fun W hb => by
                                          have := pending37 W (hDk9.out.low hb).p
                                          rwa [List.length_append, Nat.add_sub_cancel_left, hn] at this)
                    have HP38 : Hid (∀ W, Below w9.heap.size w9 W → Calls Tryz.prog 38 #[.pointer (some ⟨B, 0, none⟩)] W fun e w' => e = .returned (.int .i64 (n : Nat)) ∧ w' = W) := Lib.hid (fun W hb => by
                                          have := pending38 W (hDk9.out.low hb).r
                                          rwa [hn] at this)
                    have HR39 : Hid (∀ W, Below w9.heap.size w9 W → Calls Tryz.prog 39 #[.pointer (some ⟨A, 0, none⟩)] W fun e w' => ∃ v', e = .returned v' ∧ SlB w' v' D ∧ Below W.heap.size W w') := Lib.hid (fun W hb => by
                                          refine (read39 W (hDk9.out.low hb).p).mono ?_
                                          rintro e w' ⟨v', rfl, ho, hb'⟩
                                          rw [hDD] at ho
                                          exact ⟨v', rfl, (own_SlB ho (by rw [← hDD, List.length_append]; have := hDk9.out.r.ml; omega)).1, hb'⟩)
                    have HR40 : Hid (∀ W, Below w9.heap.size w9 W → Calls Tryz.prog 40 #[.pointer (some ⟨B, 0, none⟩)] W fun e w' => ∃ v', e = .returned v' ∧ SlB w' v' D ∧ Below W.heap.size W w') := Lib.hid (fun W hb => by
                                          refine (rread40 W (hDk9.out.low hb).r).mono ?_
                                          rintro e w' ⟨v', rfl, ho, hb'⟩
                                          rw [hDD] at ho
                                          exact ⟨v', rfl, (own_SlB ho (by rw [← hDD, List.length_append]; have := hDk9.out.r.ml; omega)).1, hb'⟩)
                    clear hn hDD
                    have hqn2 := Lib.hid hqn
                    skip
                    go_wp2_with fail
                    refine wp_region_valsG (DkV A B n 1 D) (by kernel_rfl) (by kernel_rfl) DkV.keep ?_ ?_ ?_
                    · intro i o g bb ho hg v W hv
                      have hi : i < 19 := by have := (List.getElem?_eq_some_iff.1 ho).1; simpa using this
                      obtain rfl | rfl | rfl | rfl | rfl | rfl | rfl | rfl | rfl | rfl | rfl | rfl | rfl | rfl | rfl | rfl | rfl | rfl | rfl : i = 0 ∨ i = 1 ∨ i = 2 ∨ i = 3 ∨ i = 4 ∨ i = 5 ∨ i = 6 ∨ i = 7 ∨ i = 8 ∨ i = 9 ∨ i = 10 ∨ i = 11 ∨ i = 12 ∨ i = 13 ∨ i = 14 ∨ i = 15 ∨ i = 16 ∨ i = 17 ∨ i = 18 := by omega
                      all_goals simp only [List.getElem?_cons_zero, List.getElem?_cons_succ, Option.some.injEq] at ho
                      all_goals subst ho
                      all_goals simp only [Option.some.injEq, Prod.mk.injEq, reduceCtorEq] at hg
                      all_goals (obtain ⟨rfl, rfl⟩ := hg; exact hv)
                    · intro i o ho a' W hW hfr hdep
                      have f3 : a'.tmps[3]?.getD undef = .pointer (some ⟨A, 0, none⟩) := Array.getD_eq_getD_getElem?.symm.trans (hfr 3 rfl)
                      have f4 : a'.tmps[4]?.getD undef = .pointer (some ⟨B, 0, none⟩) := Array.getD_eq_getD_getElem?.symm.trans (hfr 4 rfl)
                      have f6 : a'.tmps[6]?.getD undef = .int .i64 1 := Array.getD_eq_getD_getElem?.symm.trans (hfr 6 rfl)
                      have f7 : a'.tmps[7]?.getD undef = .int .i64 1 := Array.getD_eq_getD_getElem?.symm.trans (hfr 7 rfl)
                      clear hfr
                      have hi : i < 19 := by have := (List.getElem?_eq_some_iff.1 ho).1; simpa using this
                      obtain rfl | rfl | rfl | rfl | rfl | rfl | rfl | rfl | rfl | rfl | rfl | rfl | rfl | rfl | rfl | rfl | rfl | rfl | rfl : i = 0 ∨ i = 1 ∨ i = 2 ∨ i = 3 ∨ i = 4 ∨ i = 5 ∨ i = 6 ∨ i = 7 ∨ i = 8 ∨ i = 9 ∨ i = 10 ∨ i = 11 ∨ i = 12 ∨ i = 13 ∨ i = 14 ∨ i = 15 ∨ i = 16 ∨ i = 17 ∨ i = 18 := by omega
                      all_goals simp only [List.getElem?_cons_zero, List.getElem?_cons_succ, Option.some.injEq] at ho
                      all_goals subst ho
                      · clear hdep
                        refine .inl ⟨_, W, ?_, Below.refl _ _, rfl⟩
                        go_simp
                      · clear hdep
                        refine .inl ⟨_, W, ?_, Below.refl _ _, rfl⟩
                        go_simp
                      · have d0 : a'.tmps[78]?.getD undef = .int .i64 1 := Array.getD_eq_getD_getElem?.symm.trans (hdep ⟨0, .data⟩ (by simp) rfl 78 rfl)
                        have d1 : a'.tmps[79]?.getD undef = .int .i64 1 := Array.getD_eq_getD_getElem?.symm.trans (hdep ⟨1, .data⟩ (by simp) rfl 79 rfl)
                        clear hdep
                        refine .inl ⟨_, W, ?_, Below.refl _ _, rfl⟩
                        go_simp
                      · have d2 : a'.tmps[80]?.getD undef = .bool false := Array.getD_eq_getD_getElem?.symm.trans (hdep ⟨2, .data⟩ (by simp) rfl 80 rfl)
                        clear hdep
                        refine .inl ⟨_, W, ?_, Below.refl _ _, rfl⟩
                        go_simp
                      · clear hdep
                        refine .inl ⟨_, W, ?_, Below.refl _ _, rfl⟩
                        go_simp
                      · have d4 : a'.tmps[82]?.getD undef = .pointer (some ⟨A, 0, none⟩) := Array.getD_eq_getD_getElem?.symm.trans (hdep ⟨4, .data⟩ (by simp) rfl 82 rfl)
                        clear hdep
                        refine .inr ⟨37, #[.pointer (some ⟨A, 0, none⟩)], W, ?_, Below.refl _ _, (HP37.out W hW).mono ?_⟩
                        · go_simp
                        · rintro e W' ⟨rfl, hb⟩
                          exact ⟨_, rfl, hb, rfl⟩
                      · clear hdep
                        refine .inl ⟨_, W, ?_, Below.refl _ _, rfl⟩
                        go_simp
                      · have d6 : a'.tmps[84]?.getD undef = .pointer (some ⟨B, 0, none⟩) := Array.getD_eq_getD_getElem?.symm.trans (hdep ⟨6, .data⟩ (by simp) rfl 84 rfl)
                        clear hdep
                        refine .inr ⟨38, #[.pointer (some ⟨B, 0, none⟩)], W, ?_, Below.refl _ _, (HP38.out W hW).mono ?_⟩
                        · go_simp
                        · rintro e W' ⟨rfl, rfl⟩
                          exact ⟨_, rfl, Below.refl _ _, rfl⟩
                      · have d5 : a'.tmps[83]?.getD undef = .int .i64 (n : Nat) := Array.getD_eq_getD_getElem?.symm.trans (hdep ⟨5, .data⟩ (by simp) rfl 83 rfl)
                        have d7 : a'.tmps[85]?.getD undef = .int .i64 (n : Nat) := Array.getD_eq_getD_getElem?.symm.trans (hdep ⟨7, .data⟩ (by simp) rfl 85 rfl)
                        clear hdep
                        refine .inl ⟨_, W, ?_, Below.refl _ _, rfl⟩
                        go_simp
                      · have d3 : a'.tmps[81]?.getD undef = .bool false := Array.getD_eq_getD_getElem?.symm.trans (hdep ⟨3, .data⟩ (by simp) rfl 81 rfl)
                        have d8 : a'.tmps[86]?.getD undef = .bool false := Array.getD_eq_getD_getElem?.symm.trans (hdep ⟨8, .data⟩ (by simp) rfl 86 rfl)
                        clear hdep
                        refine .inl ⟨_, W, ?_, Below.refl _ _, rfl⟩
                        go_simp
                      · have d9 : a'.tmps[87]?.getD undef = .bool false := Array.getD_eq_getD_getElem?.symm.trans (hdep ⟨9, .data⟩ (by simp) rfl 87 rfl)
                        clear hdep
                        refine .inl ⟨_, W, ?_, Below.refl _ _, rfl⟩
                        go_simp
                      · clear hdep
                        refine .inl ⟨_, W, ?_, Below.refl _ _, rfl⟩
                        go_simp
                      · have d11 : a'.tmps[89]?.getD undef = .pointer (some ⟨A, 0, none⟩) := Array.getD_eq_getD_getElem?.symm.trans (hdep ⟨11, .data⟩ (by simp) rfl 89 rfl)
                        clear hdep
                        refine .inr ⟨39, #[.pointer (some ⟨A, 0, none⟩)], W, ?_, Below.refl _ _, (HR39.out W hW).mono ?_⟩
                        · go_simp
                        · rintro e W' ⟨v', rfl, hs, hb⟩
                          exact ⟨_, rfl, hb, hs⟩
                      · have d12 : SlB W (a'.tmps[90]?.getD undef) D := by have := hdep ⟨12, .data⟩ (by simp) rfl 90 rfl; rw [← Array.getD_eq_getD_getElem?]; exact this
                        clear hdep
                        have R := run_str d12
                        refine .inl ⟨_, W, ?_, Below.refl _ _, rfl⟩
                        simp only [execOp, Sem.run_bind, Sem.run_pure, Act.eval, Array.getD_eq_getD_getElem?, R, Result.andThen_ok]
                      · clear hdep
                        refine .inl ⟨_, W, ?_, Below.refl _ _, rfl⟩
                        go_simp
                      · have d14 : a'.tmps[92]?.getD undef = .pointer (some ⟨B, 0, none⟩) := Array.getD_eq_getD_getElem?.symm.trans (hdep ⟨14, .data⟩ (by simp) rfl 92 rfl)
                        clear hdep
                        refine .inr ⟨40, #[.pointer (some ⟨B, 0, none⟩)], W, ?_, Below.refl _ _, (HR40.out W hW).mono ?_⟩
                        · go_simp
                        · rintro e W' ⟨v', rfl, hs, hb⟩
                          exact ⟨_, rfl, hb, hs⟩
                      · have d15 : SlB W (a'.tmps[93]?.getD undef) D := by have := hdep ⟨15, .data⟩ (by simp) rfl 93 rfl; rw [← Array.getD_eq_getD_getElem?]; exact this
                        clear hdep
                        have R := run_str d15
                        refine .inl ⟨_, W, ?_, Below.refl _ _, rfl⟩
                        simp only [execOp, Sem.run_bind, Sem.run_pure, Act.eval, Array.getD_eq_getD_getElem?, R, Result.andThen_ok]
                      · have d13 : a'.tmps[91]?.getD undef = .string (strB D) := Array.getD_eq_getD_getElem?.symm.trans (hdep ⟨13, .data⟩ (by simp) rfl 91 rfl)
                        have d16 : a'.tmps[94]?.getD undef = .string (strB D) := Array.getD_eq_getD_getElem?.symm.trans (hdep ⟨16, .data⟩ (by simp) rfl 94 rfl)
                        clear hdep
                        refine .inl ⟨_, W, ?_, Below.refl _ _, rfl⟩
                        go_simp
                      · have d10 : a'.tmps[88]?.getD undef = .bool false := Array.getD_eq_getD_getElem?.symm.trans (hdep ⟨10, .data⟩ (by simp) rfl 88 rfl)
                        have d17 : a'.tmps[95]?.getD undef = .bool false := Array.getD_eq_getD_getElem?.symm.trans (hdep ⟨17, .data⟩ (by simp) rfl 95 rfl)
                        clear hdep
                        refine .inl ⟨_, W, ?_, Below.refl _ _, rfl⟩
                        go_simp
                    · intro W hW
                      simp only [List.map_cons, List.map_nil, VQG, DkV]
                      rintro _ rfl _ rfl _ rfl _ rfl _ rfl _ rfl _ rfl _ rfl _ rfl _ rfl _ rfl _ rfl v12 s12 _ rfl _ rfl v15 s15 _ rfl _ rfl _ rfl
                      simp only [List.setIfInBounds_toArray, List.set_cons_succ, List.set_cons_zero]
                      have hfin := Lib.hid (And.intro (hb9.out.trans (hW.mono hb9.out.size)) (hDk9.out.low hW))
                      clear hW HP37 HP38 HR39 HR40 s12 s15 hDk9 hb9
                      have k7 := w64 ((q : Int) + 1) (by omega)
                      go_wp2
                      exact ⟨⟨q + 1, hqn2.out, by simp, hfin.out.1, _, _, _, _, _, hfin.out.2⟩, by simp [intOf]; have := hqn2.out; omega⟩

                · have hC := Lib.hid (crash_keep ke kf w4 hDk.out.p (fun h => hk1 ⟨h.1, by have := h.2; rw [List.length_append, Nat.add_sub_cancel_left] at this; exact this⟩))
                  have hR := Lib.hid (fun W (hb : Below w4.heap.size w4 W) => rcrash_bad ke kf W (hDk.out.r.low hb) (fun h => hk1 ⟨h.1, h.2.1⟩))
                  clear hk1
                  go_wp2_with fail
                  refine hC.out.mono ?_
                  rintro e w5 ⟨rfl, hb5⟩
                  have hb5w := hbel.out.trans (hb5.mono hbw.out)
                  have at5 := HAT.out w5 hb5w
                  have d1 := at5.c1
                  have d2 := at5.c2
                  dsimp only at d1 d2
                  replace hb5 := Lib.hid hb5
                  clear at5 hb5w hC
                  go_wp2_with fail
                  go_still_tail 11, (by kernel_rfl)
                  change wpList _ _ _ _ _ w5.drew
                  obtain ⟨w6, hw_w6⟩ : ∃ x, w5.drew = x := ⟨_, rfl⟩
                  rw [hw_w6]
                  have hbd_w6 : Below w5.heap.size w5 w6 := by rw [← hw_w6]; exact ⟨rfl, rfl, rfl, Nat.le_refl _, fun _ _ => rfl⟩
                  clear hw_w6
                  have hbd6 := Lib.hid (hb5.out.trans (hbd_w6.mono hb5.out.size))
                  have hR6 := Lib.hid (hR.out w6 hbd6.out)
                  clear hbd_w6 hR d1 d2 hb5
                  go_wp2_with fail
                  refine hR6.out.mono ?_
                  rintro e w7 ⟨rfl, hb7⟩
                  have hb7w := hbd6.out.trans (hb7.mono hbd6.out.size)
                  clear hR6 hbd6 hb7
                  obtain ⟨v9, x9, y9, X9, Y9, hDk9⟩ : ∃ v x y X Y, Dk w.heap.size w7 A B v x y X Y := ⟨_, _, _, _, _, hDk.out.low hb7w⟩
                  replace hDk9 := Lib.hid hDk9
                  have hb9 := Lib.hid (hbel.out.trans (hb7w.mono hbw.out))
                  obtain ⟨w9, hw9⟩ : ∃ w9, w9 = w7 := ⟨_, rfl⟩
                  subst hw9
                  clear hDk hb7w hbel
                  obtain ⟨n, hn⟩ : ∃ n, Y9.length = n := ⟨_, rfl⟩
                  obtain ⟨D, hDD⟩ : ∃ D, X9 ++ Y9 = D := ⟨_, rfl⟩
                  have HP37 : Hid (∀ W, Below w9.heap.size w9 W → Calls Tryz.prog 37 #[.pointer (some ⟨A, 0, none⟩)] W fun e w' => e = .returned (.int .i64 (n : Nat)) ∧ Below W.heap.size W w') := Lib.hid (fun W hb => by
                                      have := pending37 W (hDk9.out.low hb).p
                                      rwa [List.length_append, Nat.add_sub_cancel_left, hn] at this)
                  have HP38 : Hid (∀ W, Below w9.heap.size w9 W → Calls Tryz.prog 38 #[.pointer (some ⟨B, 0, none⟩)] W fun e w' => e = .returned (.int .i64 (n : Nat)) ∧ w' = W) := Lib.hid (fun W hb => by
                                      have := pending38 W (hDk9.out.low hb).r
                                      rwa [hn] at this)
                  have HR39 : Hid (∀ W, Below w9.heap.size w9 W → Calls Tryz.prog 39 #[.pointer (some ⟨A, 0, none⟩)] W fun e w' => ∃ v', e = .returned v' ∧ SlB w' v' D ∧ Below W.heap.size W w') := Lib.hid (fun W hb => by
                                      refine (read39 W (hDk9.out.low hb).p).mono ?_
                                      rintro e w' ⟨v', rfl, ho, hb'⟩
                                      rw [hDD] at ho
                                      exact ⟨v', rfl, (own_SlB ho (by rw [← hDD, List.length_append]; have := hDk9.out.r.ml; omega)).1, hb'⟩)
                  have HR40 : Hid (∀ W, Below w9.heap.size w9 W → Calls Tryz.prog 40 #[.pointer (some ⟨B, 0, none⟩)] W fun e w' => ∃ v', e = .returned v' ∧ SlB w' v' D ∧ Below W.heap.size W w') := Lib.hid (fun W hb => by
                                      refine (rread40 W (hDk9.out.low hb).r).mono ?_
                                      rintro e w' ⟨v', rfl, ho, hb'⟩
                                      rw [hDD] at ho
                                      exact ⟨v', rfl, (own_SlB ho (by rw [← hDD, List.length_append]; have := hDk9.out.r.ml; omega)).1, hb'⟩)
                  clear hn hDD
                  have hqn2 := Lib.hid hqn
                  skip
                  go_wp2_with fail
                  refine wp_region_valsG (DkV A B n 1 D) (by kernel_rfl) (by kernel_rfl) DkV.keep ?_ ?_ ?_
                  · intro i o g bb ho hg v W hv
                    have hi : i < 19 := by have := (List.getElem?_eq_some_iff.1 ho).1; simpa using this
                    obtain rfl | rfl | rfl | rfl | rfl | rfl | rfl | rfl | rfl | rfl | rfl | rfl | rfl | rfl | rfl | rfl | rfl | rfl | rfl : i = 0 ∨ i = 1 ∨ i = 2 ∨ i = 3 ∨ i = 4 ∨ i = 5 ∨ i = 6 ∨ i = 7 ∨ i = 8 ∨ i = 9 ∨ i = 10 ∨ i = 11 ∨ i = 12 ∨ i = 13 ∨ i = 14 ∨ i = 15 ∨ i = 16 ∨ i = 17 ∨ i = 18 := by omega
                    all_goals simp only [List.getElem?_cons_zero, List.getElem?_cons_succ, Option.some.injEq] at ho
                    all_goals subst ho
                    all_goals simp only [Option.some.injEq, Prod.mk.injEq, reduceCtorEq] at hg
                    all_goals (obtain ⟨rfl, rfl⟩ := hg; exact hv)
                  · intro i o ho a' W hW hfr hdep
                    have f3 : a'.tmps[3]?.getD undef = .pointer (some ⟨A, 0, none⟩) := Array.getD_eq_getD_getElem?.symm.trans (hfr 3 rfl)
                    have f4 : a'.tmps[4]?.getD undef = .pointer (some ⟨B, 0, none⟩) := Array.getD_eq_getD_getElem?.symm.trans (hfr 4 rfl)
                    have f6 : a'.tmps[6]?.getD undef = .int .i64 1 := Array.getD_eq_getD_getElem?.symm.trans (hfr 6 rfl)
                    have f7 : a'.tmps[7]?.getD undef = .int .i64 1 := Array.getD_eq_getD_getElem?.symm.trans (hfr 7 rfl)
                    clear hfr
                    have hi : i < 19 := by have := (List.getElem?_eq_some_iff.1 ho).1; simpa using this
                    obtain rfl | rfl | rfl | rfl | rfl | rfl | rfl | rfl | rfl | rfl | rfl | rfl | rfl | rfl | rfl | rfl | rfl | rfl | rfl : i = 0 ∨ i = 1 ∨ i = 2 ∨ i = 3 ∨ i = 4 ∨ i = 5 ∨ i = 6 ∨ i = 7 ∨ i = 8 ∨ i = 9 ∨ i = 10 ∨ i = 11 ∨ i = 12 ∨ i = 13 ∨ i = 14 ∨ i = 15 ∨ i = 16 ∨ i = 17 ∨ i = 18 := by omega
                    all_goals simp only [List.getElem?_cons_zero, List.getElem?_cons_succ, Option.some.injEq] at ho
                    all_goals subst ho
                    · clear hdep
                      refine .inl ⟨_, W, ?_, Below.refl _ _, rfl⟩
                      go_simp
                    · clear hdep
                      refine .inl ⟨_, W, ?_, Below.refl _ _, rfl⟩
                      go_simp
                    · have d0 : a'.tmps[78]?.getD undef = .int .i64 1 := Array.getD_eq_getD_getElem?.symm.trans (hdep ⟨0, .data⟩ (by simp) rfl 78 rfl)
                      have d1 : a'.tmps[79]?.getD undef = .int .i64 1 := Array.getD_eq_getD_getElem?.symm.trans (hdep ⟨1, .data⟩ (by simp) rfl 79 rfl)
                      clear hdep
                      refine .inl ⟨_, W, ?_, Below.refl _ _, rfl⟩
                      go_simp
                    · have d2 : a'.tmps[80]?.getD undef = .bool false := Array.getD_eq_getD_getElem?.symm.trans (hdep ⟨2, .data⟩ (by simp) rfl 80 rfl)
                      clear hdep
                      refine .inl ⟨_, W, ?_, Below.refl _ _, rfl⟩
                      go_simp
                    · clear hdep
                      refine .inl ⟨_, W, ?_, Below.refl _ _, rfl⟩
                      go_simp
                    · have d4 : a'.tmps[82]?.getD undef = .pointer (some ⟨A, 0, none⟩) := Array.getD_eq_getD_getElem?.symm.trans (hdep ⟨4, .data⟩ (by simp) rfl 82 rfl)
                      clear hdep
                      refine .inr ⟨37, #[.pointer (some ⟨A, 0, none⟩)], W, ?_, Below.refl _ _, (HP37.out W hW).mono ?_⟩
                      · go_simp
                      · rintro e W' ⟨rfl, hb⟩
                        exact ⟨_, rfl, hb, rfl⟩
                    · clear hdep
                      refine .inl ⟨_, W, ?_, Below.refl _ _, rfl⟩
                      go_simp
                    · have d6 : a'.tmps[84]?.getD undef = .pointer (some ⟨B, 0, none⟩) := Array.getD_eq_getD_getElem?.symm.trans (hdep ⟨6, .data⟩ (by simp) rfl 84 rfl)
                      clear hdep
                      refine .inr ⟨38, #[.pointer (some ⟨B, 0, none⟩)], W, ?_, Below.refl _ _, (HP38.out W hW).mono ?_⟩
                      · go_simp
                      · rintro e W' ⟨rfl, rfl⟩
                        exact ⟨_, rfl, Below.refl _ _, rfl⟩
                    · have d5 : a'.tmps[83]?.getD undef = .int .i64 (n : Nat) := Array.getD_eq_getD_getElem?.symm.trans (hdep ⟨5, .data⟩ (by simp) rfl 83 rfl)
                      have d7 : a'.tmps[85]?.getD undef = .int .i64 (n : Nat) := Array.getD_eq_getD_getElem?.symm.trans (hdep ⟨7, .data⟩ (by simp) rfl 85 rfl)
                      clear hdep
                      refine .inl ⟨_, W, ?_, Below.refl _ _, rfl⟩
                      go_simp
                    · have d3 : a'.tmps[81]?.getD undef = .bool false := Array.getD_eq_getD_getElem?.symm.trans (hdep ⟨3, .data⟩ (by simp) rfl 81 rfl)
                      have d8 : a'.tmps[86]?.getD undef = .bool false := Array.getD_eq_getD_getElem?.symm.trans (hdep ⟨8, .data⟩ (by simp) rfl 86 rfl)
                      clear hdep
                      refine .inl ⟨_, W, ?_, Below.refl _ _, rfl⟩
                      go_simp
                    · have d9 : a'.tmps[87]?.getD undef = .bool false := Array.getD_eq_getD_getElem?.symm.trans (hdep ⟨9, .data⟩ (by simp) rfl 87 rfl)
                      clear hdep
                      refine .inl ⟨_, W, ?_, Below.refl _ _, rfl⟩
                      go_simp
                    · clear hdep
                      refine .inl ⟨_, W, ?_, Below.refl _ _, rfl⟩
                      go_simp
                    · have d11 : a'.tmps[89]?.getD undef = .pointer (some ⟨A, 0, none⟩) := Array.getD_eq_getD_getElem?.symm.trans (hdep ⟨11, .data⟩ (by simp) rfl 89 rfl)
                      clear hdep
                      refine .inr ⟨39, #[.pointer (some ⟨A, 0, none⟩)], W, ?_, Below.refl _ _, (HR39.out W hW).mono ?_⟩
                      · go_simp
                      · rintro e W' ⟨v', rfl, hs, hb⟩
                        exact ⟨_, rfl, hb, hs⟩
                    · have d12 : SlB W (a'.tmps[90]?.getD undef) D := by have := hdep ⟨12, .data⟩ (by simp) rfl 90 rfl; rw [← Array.getD_eq_getD_getElem?]; exact this
                      clear hdep
                      have R := run_str d12
                      refine .inl ⟨_, W, ?_, Below.refl _ _, rfl⟩
                      simp only [execOp, Sem.run_bind, Sem.run_pure, Act.eval, Array.getD_eq_getD_getElem?, R, Result.andThen_ok]
                    · clear hdep
                      refine .inl ⟨_, W, ?_, Below.refl _ _, rfl⟩
                      go_simp
                    · have d14 : a'.tmps[92]?.getD undef = .pointer (some ⟨B, 0, none⟩) := Array.getD_eq_getD_getElem?.symm.trans (hdep ⟨14, .data⟩ (by simp) rfl 92 rfl)
                      clear hdep
                      refine .inr ⟨40, #[.pointer (some ⟨B, 0, none⟩)], W, ?_, Below.refl _ _, (HR40.out W hW).mono ?_⟩
                      · go_simp
                      · rintro e W' ⟨v', rfl, hs, hb⟩
                        exact ⟨_, rfl, hb, hs⟩
                    · have d15 : SlB W (a'.tmps[93]?.getD undef) D := by have := hdep ⟨15, .data⟩ (by simp) rfl 93 rfl; rw [← Array.getD_eq_getD_getElem?]; exact this
                      clear hdep
                      have R := run_str d15
                      refine .inl ⟨_, W, ?_, Below.refl _ _, rfl⟩
                      simp only [execOp, Sem.run_bind, Sem.run_pure, Act.eval, Array.getD_eq_getD_getElem?, R, Result.andThen_ok]
                    · have d13 : a'.tmps[91]?.getD undef = .string (strB D) := Array.getD_eq_getD_getElem?.symm.trans (hdep ⟨13, .data⟩ (by simp) rfl 91 rfl)
                      have d16 : a'.tmps[94]?.getD undef = .string (strB D) := Array.getD_eq_getD_getElem?.symm.trans (hdep ⟨16, .data⟩ (by simp) rfl 94 rfl)
                      clear hdep
                      refine .inl ⟨_, W, ?_, Below.refl _ _, rfl⟩
                      go_simp
                    · have d10 : a'.tmps[88]?.getD undef = .bool false := Array.getD_eq_getD_getElem?.symm.trans (hdep ⟨10, .data⟩ (by simp) rfl 88 rfl)
                      have d17 : a'.tmps[95]?.getD undef = .bool false := Array.getD_eq_getD_getElem?.symm.trans (hdep ⟨17, .data⟩ (by simp) rfl 95 rfl)
                      clear hdep
                      refine .inl ⟨_, W, ?_, Below.refl _ _, rfl⟩
                      go_simp
                  · intro W hW
                    simp only [List.map_cons, List.map_nil, VQG, DkV]
                    rintro _ rfl _ rfl _ rfl _ rfl _ rfl _ rfl _ rfl _ rfl _ rfl _ rfl _ rfl _ rfl v12 s12 _ rfl _ rfl v15 s15 _ rfl _ rfl _ rfl
                    simp only [List.setIfInBounds_toArray, List.set_cons_succ, List.set_cons_zero]
                    have hfin := Lib.hid (And.intro (hb9.out.trans (hW.mono hb9.out.size)) (hDk9.out.low hW))
                    clear hW HP37 HP38 HR39 HR40 s12 s15 hDk9 hb9
                    have k7 := w64 ((q : Int) + 1) (by omega)
                    go_wp2
                    exact ⟨⟨q + 1, hqn2.out, by simp, hfin.out.1, _, _, _, _, _, hfin.out.2⟩, by simp [intOf]; have := hqn2.out; omega⟩

              · have z2 : ((kk : Int) == 2) = false := by simpa using h2
                obtain ⟨v9, x9, y9, X9, Y9, hDk9⟩ : ∃ v x y X Y, Dk w.heap.size wr A B v x y X Y := ⟨_, _, _, _, _, hDk.out⟩
                replace hDk9 := Lib.hid hDk9
                obtain ⟨w9, hw9⟩ : ∃ w9, w9 = wr := ⟨_, rfl⟩
                subst hw9
                have hb9 := hbel
                clear hDk
                obtain ⟨n, hn⟩ : ∃ n, Y9.length = n := ⟨_, rfl⟩
                obtain ⟨D, hDD⟩ : ∃ D, X9 ++ Y9 = D := ⟨_, rfl⟩
                have HP37 : Hid (∀ W, Below w9.heap.size w9 W → Calls Tryz.prog 37 #[.pointer (some ⟨A, 0, none⟩)] W fun e w' => e = .returned (.int .i64 (n : Nat)) ∧ Below W.heap.size W w') := Lib.hid (fun W hb => by
                                  have := pending37 W (hDk9.out.low hb).p
                                  rwa [List.length_append, Nat.add_sub_cancel_left, hn] at this)
                have HP38 : Hid (∀ W, Below w9.heap.size w9 W → Calls Tryz.prog 38 #[.pointer (some ⟨B, 0, none⟩)] W fun e w' => e = .returned (.int .i64 (n : Nat)) ∧ w' = W) := Lib.hid (fun W hb => by
                                  have := pending38 W (hDk9.out.low hb).r
                                  rwa [hn] at this)
                have HR39 : Hid (∀ W, Below w9.heap.size w9 W → Calls Tryz.prog 39 #[.pointer (some ⟨A, 0, none⟩)] W fun e w' => ∃ v', e = .returned v' ∧ SlB w' v' D ∧ Below W.heap.size W w') := Lib.hid (fun W hb => by
                                  refine (read39 W (hDk9.out.low hb).p).mono ?_
                                  rintro e w' ⟨v', rfl, ho, hb'⟩
                                  rw [hDD] at ho
                                  exact ⟨v', rfl, (own_SlB ho (by rw [← hDD, List.length_append]; have := hDk9.out.r.ml; omega)).1, hb'⟩)
                have HR40 : Hid (∀ W, Below w9.heap.size w9 W → Calls Tryz.prog 40 #[.pointer (some ⟨B, 0, none⟩)] W fun e w' => ∃ v', e = .returned v' ∧ SlB w' v' D ∧ Below W.heap.size W w') := Lib.hid (fun W hb => by
                                  refine (rread40 W (hDk9.out.low hb).r).mono ?_
                                  rintro e w' ⟨v', rfl, ho, hb'⟩
                                  rw [hDD] at ho
                                  exact ⟨v', rfl, (own_SlB ho (by rw [← hDD, List.length_append]; have := hDk9.out.r.ml; omega)).1, hb'⟩)
                clear hn hDD
                have hqn2 := Lib.hid hqn
                skip
                go_wp2_with fail
                refine wp_region_valsG (DkV A B n 0 D) (by kernel_rfl) (by kernel_rfl) DkV.keep ?_ ?_ ?_
                · intro i o g bb ho hg v W hv
                  have hi : i < 19 := by have := (List.getElem?_eq_some_iff.1 ho).1; simpa using this
                  obtain rfl | rfl | rfl | rfl | rfl | rfl | rfl | rfl | rfl | rfl | rfl | rfl | rfl | rfl | rfl | rfl | rfl | rfl | rfl : i = 0 ∨ i = 1 ∨ i = 2 ∨ i = 3 ∨ i = 4 ∨ i = 5 ∨ i = 6 ∨ i = 7 ∨ i = 8 ∨ i = 9 ∨ i = 10 ∨ i = 11 ∨ i = 12 ∨ i = 13 ∨ i = 14 ∨ i = 15 ∨ i = 16 ∨ i = 17 ∨ i = 18 := by omega
                  all_goals simp only [List.getElem?_cons_zero, List.getElem?_cons_succ, Option.some.injEq] at ho
                  all_goals subst ho
                  all_goals simp only [Option.some.injEq, Prod.mk.injEq, reduceCtorEq] at hg
                  all_goals (obtain ⟨rfl, rfl⟩ := hg; exact hv)
                · intro i o ho a' W hW hfr hdep
                  have f3 : a'.tmps[3]?.getD undef = .pointer (some ⟨A, 0, none⟩) := Array.getD_eq_getD_getElem?.symm.trans (hfr 3 rfl)
                  have f4 : a'.tmps[4]?.getD undef = .pointer (some ⟨B, 0, none⟩) := Array.getD_eq_getD_getElem?.symm.trans (hfr 4 rfl)
                  have f6 : a'.tmps[6]?.getD undef = .int .i64 0 := Array.getD_eq_getD_getElem?.symm.trans (hfr 6 rfl)
                  have f7 : a'.tmps[7]?.getD undef = .int .i64 0 := Array.getD_eq_getD_getElem?.symm.trans (hfr 7 rfl)
                  clear hfr
                  have hi : i < 19 := by have := (List.getElem?_eq_some_iff.1 ho).1; simpa using this
                  obtain rfl | rfl | rfl | rfl | rfl | rfl | rfl | rfl | rfl | rfl | rfl | rfl | rfl | rfl | rfl | rfl | rfl | rfl | rfl : i = 0 ∨ i = 1 ∨ i = 2 ∨ i = 3 ∨ i = 4 ∨ i = 5 ∨ i = 6 ∨ i = 7 ∨ i = 8 ∨ i = 9 ∨ i = 10 ∨ i = 11 ∨ i = 12 ∨ i = 13 ∨ i = 14 ∨ i = 15 ∨ i = 16 ∨ i = 17 ∨ i = 18 := by omega
                  all_goals simp only [List.getElem?_cons_zero, List.getElem?_cons_succ, Option.some.injEq] at ho
                  all_goals subst ho
                  · clear hdep
                    refine .inl ⟨_, W, ?_, Below.refl _ _, rfl⟩
                    go_simp
                  · clear hdep
                    refine .inl ⟨_, W, ?_, Below.refl _ _, rfl⟩
                    go_simp
                  · have d0 : a'.tmps[78]?.getD undef = .int .i64 0 := Array.getD_eq_getD_getElem?.symm.trans (hdep ⟨0, .data⟩ (by simp) rfl 78 rfl)
                    have d1 : a'.tmps[79]?.getD undef = .int .i64 0 := Array.getD_eq_getD_getElem?.symm.trans (hdep ⟨1, .data⟩ (by simp) rfl 79 rfl)
                    clear hdep
                    refine .inl ⟨_, W, ?_, Below.refl _ _, rfl⟩
                    go_simp
                  · have d2 : a'.tmps[80]?.getD undef = .bool false := Array.getD_eq_getD_getElem?.symm.trans (hdep ⟨2, .data⟩ (by simp) rfl 80 rfl)
                    clear hdep
                    refine .inl ⟨_, W, ?_, Below.refl _ _, rfl⟩
                    go_simp
                  · clear hdep
                    refine .inl ⟨_, W, ?_, Below.refl _ _, rfl⟩
                    go_simp
                  · have d4 : a'.tmps[82]?.getD undef = .pointer (some ⟨A, 0, none⟩) := Array.getD_eq_getD_getElem?.symm.trans (hdep ⟨4, .data⟩ (by simp) rfl 82 rfl)
                    clear hdep
                    refine .inr ⟨37, #[.pointer (some ⟨A, 0, none⟩)], W, ?_, Below.refl _ _, (HP37.out W hW).mono ?_⟩
                    · go_simp
                    · rintro e W' ⟨rfl, hb⟩
                      exact ⟨_, rfl, hb, rfl⟩
                  · clear hdep
                    refine .inl ⟨_, W, ?_, Below.refl _ _, rfl⟩
                    go_simp
                  · have d6 : a'.tmps[84]?.getD undef = .pointer (some ⟨B, 0, none⟩) := Array.getD_eq_getD_getElem?.symm.trans (hdep ⟨6, .data⟩ (by simp) rfl 84 rfl)
                    clear hdep
                    refine .inr ⟨38, #[.pointer (some ⟨B, 0, none⟩)], W, ?_, Below.refl _ _, (HP38.out W hW).mono ?_⟩
                    · go_simp
                    · rintro e W' ⟨rfl, rfl⟩
                      exact ⟨_, rfl, Below.refl _ _, rfl⟩
                  · have d5 : a'.tmps[83]?.getD undef = .int .i64 (n : Nat) := Array.getD_eq_getD_getElem?.symm.trans (hdep ⟨5, .data⟩ (by simp) rfl 83 rfl)
                    have d7 : a'.tmps[85]?.getD undef = .int .i64 (n : Nat) := Array.getD_eq_getD_getElem?.symm.trans (hdep ⟨7, .data⟩ (by simp) rfl 85 rfl)
                    clear hdep
                    refine .inl ⟨_, W, ?_, Below.refl _ _, rfl⟩
                    go_simp
                  · have d3 : a'.tmps[81]?.getD undef = .bool false := Array.getD_eq_getD_getElem?.symm.trans (hdep ⟨3, .data⟩ (by simp) rfl 81 rfl)
                    have d8 : a'.tmps[86]?.getD undef = .bool false := Array.getD_eq_getD_getElem?.symm.trans (hdep ⟨8, .data⟩ (by simp) rfl 86 rfl)
                    clear hdep
                    refine .inl ⟨_, W, ?_, Below.refl _ _, rfl⟩
                    go_simp
                  · have d9 : a'.tmps[87]?.getD undef = .bool false := Array.getD_eq_getD_getElem?.symm.trans (hdep ⟨9, .data⟩ (by simp) rfl 87 rfl)
                    clear hdep
                    refine .inl ⟨_, W, ?_, Below.refl _ _, rfl⟩
                    go_simp
                  · clear hdep
                    refine .inl ⟨_, W, ?_, Below.refl _ _, rfl⟩
                    go_simp
                  · have d11 : a'.tmps[89]?.getD undef = .pointer (some ⟨A, 0, none⟩) := Array.getD_eq_getD_getElem?.symm.trans (hdep ⟨11, .data⟩ (by simp) rfl 89 rfl)
                    clear hdep
                    refine .inr ⟨39, #[.pointer (some ⟨A, 0, none⟩)], W, ?_, Below.refl _ _, (HR39.out W hW).mono ?_⟩
                    · go_simp
                    · rintro e W' ⟨v', rfl, hs, hb⟩
                      exact ⟨_, rfl, hb, hs⟩
                  · have d12 : SlB W (a'.tmps[90]?.getD undef) D := by have := hdep ⟨12, .data⟩ (by simp) rfl 90 rfl; rw [← Array.getD_eq_getD_getElem?]; exact this
                    clear hdep
                    have R := run_str d12
                    refine .inl ⟨_, W, ?_, Below.refl _ _, rfl⟩
                    simp only [execOp, Sem.run_bind, Sem.run_pure, Act.eval, Array.getD_eq_getD_getElem?, R, Result.andThen_ok]
                  · clear hdep
                    refine .inl ⟨_, W, ?_, Below.refl _ _, rfl⟩
                    go_simp
                  · have d14 : a'.tmps[92]?.getD undef = .pointer (some ⟨B, 0, none⟩) := Array.getD_eq_getD_getElem?.symm.trans (hdep ⟨14, .data⟩ (by simp) rfl 92 rfl)
                    clear hdep
                    refine .inr ⟨40, #[.pointer (some ⟨B, 0, none⟩)], W, ?_, Below.refl _ _, (HR40.out W hW).mono ?_⟩
                    · go_simp
                    · rintro e W' ⟨v', rfl, hs, hb⟩
                      exact ⟨_, rfl, hb, hs⟩
                  · have d15 : SlB W (a'.tmps[93]?.getD undef) D := by have := hdep ⟨15, .data⟩ (by simp) rfl 93 rfl; rw [← Array.getD_eq_getD_getElem?]; exact this
                    clear hdep
                    have R := run_str d15
                    refine .inl ⟨_, W, ?_, Below.refl _ _, rfl⟩
                    simp only [execOp, Sem.run_bind, Sem.run_pure, Act.eval, Array.getD_eq_getD_getElem?, R, Result.andThen_ok]
                  · have d13 : a'.tmps[91]?.getD undef = .string (strB D) := Array.getD_eq_getD_getElem?.symm.trans (hdep ⟨13, .data⟩ (by simp) rfl 91 rfl)
                    have d16 : a'.tmps[94]?.getD undef = .string (strB D) := Array.getD_eq_getD_getElem?.symm.trans (hdep ⟨16, .data⟩ (by simp) rfl 94 rfl)
                    clear hdep
                    refine .inl ⟨_, W, ?_, Below.refl _ _, rfl⟩
                    go_simp
                  · have d10 : a'.tmps[88]?.getD undef = .bool false := Array.getD_eq_getD_getElem?.symm.trans (hdep ⟨10, .data⟩ (by simp) rfl 88 rfl)
                    have d17 : a'.tmps[95]?.getD undef = .bool false := Array.getD_eq_getD_getElem?.symm.trans (hdep ⟨17, .data⟩ (by simp) rfl 95 rfl)
                    clear hdep
                    refine .inl ⟨_, W, ?_, Below.refl _ _, rfl⟩
                    go_simp
                · intro W hW
                  simp only [List.map_cons, List.map_nil, VQG, DkV]
                  rintro _ rfl _ rfl _ rfl _ rfl _ rfl _ rfl _ rfl _ rfl _ rfl _ rfl _ rfl _ rfl v12 s12 _ rfl _ rfl v15 s15 _ rfl _ rfl _ rfl
                  simp only [List.setIfInBounds_toArray, List.set_cons_succ, List.set_cons_zero]
                  have hfin := Lib.hid (And.intro (hb9.out.trans (hW.mono hb9.out.size)) (hDk9.out.low hW))
                  clear hW HP37 HP38 HR39 HR40 s12 s15 hDk9 hb9
                  have k7 := w64 ((q : Int) + 1) (by omega)
                  go_wp2
                  exact ⟨⟨q + 1, hqn2.out, by simp, hfin.out.1, _, _, _, _, _, hfin.out.2⟩, by simp [intOf]; have := hqn2.out; omega⟩

        · have hqM : q = M := by omega
          subst hqM
          have j3 : decide ((q : Int) < (q : Int)) = false := by simp
          replace hbel := Lib.hid hbel
          clear hDk
          go_wp2_with fail
          refine (AW.out _).mono ?_
          rintro e w4 ⟨rfl, hb⟩
          have hb4 := Lib.hid (hbel.out.trans (hb.mono hbel.out.size))
          clear hb
          go_wp2
          go_ret
          exact ⟨rfl, hb4.out⟩

end Go.Proofs.YtcgmmfcphfkdhaaGreat
