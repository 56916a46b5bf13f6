/- The abstract machine, part GrN4c. -/
import Derived.Test.YtcgmmfcphfkdhaaGreatGrN4
/- Walks: the content of a note of the kind 6. -/
namespace Go.Proofs.YtcgmmfcphfkdhaaGreat
open Go Go.RowKit Go.Proofs

set_option maxRecDepth 100000 in
set_option maxHeartbeats 4000000 in
theorem content115_6 (x : Nv) (w : World) (h : NV w x) :
    Calls Tryz.prog 115 #[.agg x.arr, .int .i64 6] w fun e w' => Say e ((wi x.N.q 1 64 = true ∧ (sPc x.N = true ∨ sGl x.N = true)) ∧ blN { x.N with q := 0, p := 0, o := 0, sh := 0, bk := false } = true) ∧ Below w.heap.size w w' := by
  obtain ⟨RR, hRR⟩ : ∃ RR : Prop, ((wi x.N.q 1 64 = true ∧ (sPc x.N = true ∨ sGl x.N = true)) ∧ blN { x.N with q := 0, p := 0, o := 0, sh := 0, bk := false } = true) = RR := ⟨_, rfl⟩
  rw [hRR]
  have HRR := Lib.hid (Iff.of_eq hRR)
  clear hRR
  obtain ⟨m, hm, ⟨hm0, hm1, hm2⟩, hs40⟩ := m40.out
  obtain ⟨FS, hu40, fs0, fs1, fs2, fs3, fs4, fs5, fs6, fs7, fs8, fs9, fs10, fs11, fs12, fs13, fs14, fs15⟩ := f40.out
  obtain ⟨Z, hz, hZ1, hZ2⟩ := z40.out
  have n0 := NB.new w x.arr 40
  have hl1d : (loadCellsFrom ⟨w.heap.size, 0, none⟩ 0 m #[]).run Tryz.prog (w.alloc (.cells x.arr 40)).drew = .ok x.arr (w.alloc (.cells x.arr 40)).drew := NB.load (w := (w.alloc (.cells x.arr 40)).drew) (V := x.arr) (t := 40) n0 ((arr_size x).trans hm)
  have hl2d : (loadCellsFrom ⟨w.heap.size, 0, none⟩ 0 m #[]).run Tryz.prog ((w.alloc (.cells x.arr 40)).alloc (.cells Z 40)).drew = .ok x.arr ((w.alloc (.cells x.arr 40)).alloc (.cells Z 40)).drew := NB.load (w := ((w.alloc (.cells x.arr 40)).alloc (.cells Z 40)).drew) (V := x.arr) (t := 40) (n0.alloc (.cells Z 40)) ((arr_size x).trans hm)
  have hstd : (storeCells ⟨w.heap.size + 1, 0, none⟩ x.arr.toList 0).run Tryz.prog ((w.alloc (.cells x.arr 40)).alloc (.cells Z 40)).drew = .ok () ((w.alloc (.cells x.arr 40)).alloc (.cells x.arr 40)).drew := by
    have := run_storeCells_new (P := Tryz.prog) (w.alloc (.cells x.arr 40)).drew 40 Z x.arr (by rw [arr_size]; kernel_rfl) (by rw [hZ1, arr_size]) h.one
    rw [show (w.alloc (.cells x.arr 40)).drew.heap.size = w.heap.size + 1 from World.size_alloc _ _] at this
    exact this
  have hsz : x.arr.size = m := (arr_size x).trans hm
  have HM := Lib.hid hm
  have nA : NB ((w.alloc (.cells x.arr 40)).alloc (.cells x.arr 40)).drew w.heap.size x.arr 40 := n0.alloc _
  have nB : NB ((w.alloc (.cells x.arr 40)).alloc (.cells x.arr 40)).drew (w.heap.size + 1) x.arr 40 := nb1 w (.cells x.arr 40) x.arr 40
  have bW : Below w.heap.size w ((w.alloc (.cells x.arr 40)).alloc (.cells x.arr 40)).drew := by
    have bb : Below w.heap.size w ((w.alloc (.cells x.arr 40)).alloc (.cells x.arr 40)) := ((Below.refl _ _).alloc (Nat.le_refl _) _).alloc (by simp) _
    exact ⟨bb.os, bb.tape, bb.output, bb.size, bb.block⟩
  obtain ⟨V, hV⟩ : ∃ V, x.arr = V := ⟨_, rfl⟩
  rw [hV] at n0 hl1d hl2d hstd hsz nA nB bW ⊢
  obtain ⟨W, hW⟩ : ∃ W, ((w.alloc (.cells V 40)).alloc (.cells V 40)).drew = W := ⟨_, rfl⟩
  rw [hW] at nA nB bW
  have HV := Lib.hid hV
  have HW := Lib.hid hW
  have HN := Lib.hid h
  have NA := Lib.hid nA
  have NBB := Lib.hid nB
  have BW := Lib.hid bW
  clear hm n0 nA nB bW hV hW h
  have C0 := fun w => in84 x.N.q 1 64 w
  have C1 := sets187 x W
  have C2 := fun w => sets188 x w
  have c7 := NA.out.c (k := 7) (v := .int .i64 x.N.q) (by rw [← HV.out]; rfl)
  have lA := NA.out.load hsz
  rw [HV.out] at C1 C2
  obtain ⟨p0, hp0⟩ : ∃ p, wi x.N.q 1 64 = p := ⟨_, rfl⟩
  obtain ⟨p1, hp1⟩ : ∃ p, sPc x.N = p := ⟨_, rfl⟩
  obtain ⟨p2, hp2⟩ : ∃ p, sGl x.N = p := ⟨_, rfl⟩
  rw [hp0] at C0
  rw [hp1] at C1
  rw [hp2] at C2
  cases p0
  · have HF := Lib.hid (fun k : wi x.N.q 1 64 = true ∧ (sPc x.N = true ∨ sGl x.N = true) => show False from by rw [hp0] at k; simp at k)
    clear hp0 hp1 hp2 C1 C2
    have t7 := (NBB.out.keep (Below.refl W.heap.size W)).c (k := 7) (v := .int .i64 x.N.q) (by rw [← HV.out]; rfl)
    have t7f := (NBB.out.keep (Below.refl W.heap.size W)).f 7
    have t6 := (NBB.out.keep (Below.refl W.heap.size W)).c (k := 6) (v := .int .i64 x.N.p) (by rw [← HV.out]; rfl)
    have t6f := (NBB.out.keep (Below.refl W.heap.size W)).f 6
    have t8 := (NBB.out.keep (Below.refl W.heap.size W)).c (k := 8) (v := .int .i64 x.N.o) (by rw [← HV.out]; rfl)
    have t8f := (NBB.out.keep (Below.refl W.heap.size W)).f 8
    have t10 := (NBB.out.keep (Below.refl W.heap.size W)).c (k := 10) (v := .int .i64 x.N.sh) (by rw [← HV.out]; rfl)
    have t10f := (NBB.out.keep (Below.refl W.heap.size W)).f 10
    have t11 := (NBB.out.keep (Below.refl W.heap.size W)).c (k := 11) (v := .bool x.N.bk) (by rw [← HV.out]; rfl)
    have t11f := (NBB.out.keep (Below.refl W.heap.size W)).f 11
    go_enter Tryz.func115, Tryz.ntmps115
    go_wp2_with fail
    go_region
    rw [HW.out]
    clear hl1d hl2d hstd hz hZ1 hZ2
    have HB := Lib.hid (below_set (below_set (below_set (below_set (below_set BW.out (Nat.le_succ _) 7 (.int .i64 0)) (Nat.le_succ _) 6 (.int .i64 0)) (Nat.le_succ _) 8 (.int .i64 0)) (Nat.le_succ _) 10 (.int .i64 0)) (Nat.le_succ _) 11 (.bool false))
    go_wp2_with (go_at_call 84; with_reducible refine (C0 _).mono ?_; rintro e w1 ⟨rfl, rfl⟩)
    go_ret
    exact ⟨say_no (fun k => HF.out (HRR.out.2 k).1), HB.out⟩
  · cases p1
    · cases p2
      · have HF := Lib.hid (fun k : wi x.N.q 1 64 = true ∧ (sPc x.N = true ∨ sGl x.N = true) => show False from by rw [hp1, hp2] at k; simp at k)
        clear hp0 hp1 hp2
        go_enter Tryz.func115, Tryz.ntmps115
        go_wp2_with fail
        go_region
        rw [HW.out]
        clear hl1d hl2d hstd hz hZ1 hZ2
        go_wp2_with (go_at_call 84; with_reducible refine (C0 _).mono ?_; rintro e w1 ⟨rfl, rfl⟩)
        refine C1.mono ?_
        rintro e w1 ⟨rfl, hb⟩
        have lA1 := (NA.out.keep hb).load hsz
        go_wp2_with fail
        refine (C2 _).mono ?_
        rintro e w2 ⟨rfl, hc⟩
        have hbc := hb.trans (hc.mono hb.size)
        clear lA1
        have t7 := (NBB.out.keep (hbc)).c (k := 7) (v := .int .i64 x.N.q) (by rw [← HV.out]; rfl)
        have t7f := (NBB.out.keep (hbc)).f 7
        have t6 := (NBB.out.keep (hbc)).c (k := 6) (v := .int .i64 x.N.p) (by rw [← HV.out]; rfl)
        have t6f := (NBB.out.keep (hbc)).f 6
        have t8 := (NBB.out.keep (hbc)).c (k := 8) (v := .int .i64 x.N.o) (by rw [← HV.out]; rfl)
        have t8f := (NBB.out.keep (hbc)).f 8
        have t10 := (NBB.out.keep (hbc)).c (k := 10) (v := .int .i64 x.N.sh) (by rw [← HV.out]; rfl)
        have t10f := (NBB.out.keep (hbc)).f 10
        have t11 := (NBB.out.keep (hbc)).c (k := 11) (v := .bool x.N.bk) (by rw [← HV.out]; rfl)
        have t11f := (NBB.out.keep (hbc)).f 11
        have HB := Lib.hid (below_set (below_set (below_set (below_set (below_set (BW.out.trans ((hbc).mono BW.out.size)) (Nat.le_succ _) 7 (.int .i64 0)) (Nat.le_succ _) 6 (.int .i64 0)) (Nat.le_succ _) 8 (.int .i64 0)) (Nat.le_succ _) 10 (.int .i64 0)) (Nat.le_succ _) 11 (.bool false))
        clear hb hc hbc C1 C2
        go_wp2_with fail
        go_ret
        exact ⟨say_no (fun k => HF.out (HRR.out.2 k).1), HB.out⟩
      · have HD : Hid (wi x.N.q 1 64 = true ∧ (sPc x.N = true ∨ sGl x.N = true)) := Lib.hid ⟨hp0, .inr hp2⟩
        clear hp0 hp1 hp2
        go_enter Tryz.func115, Tryz.ntmps115
        go_wp2_with fail
        go_region
        rw [HW.out]
        clear hl1d hl2d hstd hz hZ1 hZ2
        go_wp2_with (go_at_call 84; with_reducible refine (C0 _).mono ?_; rintro e w1 ⟨rfl, rfl⟩)
        refine C1.mono ?_
        rintro e w1 ⟨rfl, hb⟩
        have lA1 := (NA.out.keep hb).load hsz
        go_wp2_with fail
        refine (C2 _).mono ?_
        rintro e w2 ⟨rfl, hc⟩
        have hbc := hb.trans (hc.mono hb.size)
        clear lA1
        have t7 := (NBB.out.keep (hbc)).c (k := 7) (v := .int .i64 x.N.q) (by rw [← HV.out]; rfl)
        have t7f := (NBB.out.keep (hbc)).f 7
        have t6 := (NBB.out.keep (hbc)).c (k := 6) (v := .int .i64 x.N.p) (by rw [← HV.out]; rfl)
        have t6f := (NBB.out.keep (hbc)).f 6
        have t8 := (NBB.out.keep (hbc)).c (k := 8) (v := .int .i64 x.N.o) (by rw [← HV.out]; rfl)
        have t8f := (NBB.out.keep (hbc)).f 8
        have t10 := (NBB.out.keep (hbc)).c (k := 10) (v := .int .i64 x.N.sh) (by rw [← HV.out]; rfl)
        have t10f := (NBB.out.keep (hbc)).f 10
        have t11 := (NBB.out.keep (hbc)).c (k := 11) (v := .bool x.N.bk) (by rw [← HV.out]; rfl)
        have t11f := (NBB.out.keep (hbc)).f 11
        obtain ⟨x', hx'⟩ : ∃ x' : Nv, ({ x with N := { x.N with q := 0, p := 0, o := 0, sh := 0, bk := false } } : Nv) = x' := ⟨_, rfl⟩
        have hb3 := (below_set (below_set (below_set (below_set (below_set (BW.out.trans ((hbc).mono BW.out.size)) (Nat.le_succ _) 7 (.int .i64 0)) (Nat.le_succ _) 6 (.int .i64 0)) (Nat.le_succ _) 8 (.int .i64 0)) (Nat.le_succ _) 10 (.int .i64 0)) (Nat.le_succ _) 11 (.bool false))
        have hl3 := NB.load (m := m) (V := x'.arr) (t := 40) (by rw [← hx']; have := ((((((NBB.out.keep (hbc)).set 7 (.int .i64 0)).set 6 (.int .i64 0)).set 8 (.int .i64 0)).set 10 (.int .i64 0)).set 11 (.bool false)); rw [← HV.out] at this; exact this) ((arr_size x').trans HM.out)
        have CB := blank116 x' (((((w2.setCell ⟨w.heap.size + 1, 7, none⟩ (.int .i64 0)).setCell ⟨w.heap.size + 1, 6, none⟩ (.int .i64 0)).setCell ⟨w.heap.size + 1, 8, none⟩ (.int .i64 0)).setCell ⟨w.heap.size + 1, 10, none⟩ (.int .i64 0)).setCell ⟨w.heap.size + 1, 11, none⟩ (.bool false)) (by rw [← hx']; exact ⟨HN.out.P.keep hb3, HN.out.Q.keep hb3, HN.out.D.keep hb3, ⟨HN.out.X.P.keep hb3, HN.out.X.C.keep hb3, HN.out.X.S.keep hb3⟩⟩)
        have HE : Hid (blN x'.N = true ↔ (RR)) := Lib.hid (by rw [← hx']; exact ⟨fun k => HRR.out.1 ⟨HD.out, k⟩, fun k => (HRR.out.2 k).2⟩)
        have HB3 := Lib.hid hb3
        clear hb3 hx'
        generalize x'.arr = V' at *
        generalize blN x'.N = bl at *
        clear hb hc hbc C1 C2
        go_wp2_with fail
        refine CB.mono ?_
        rintro e w9 ⟨rfl, hb9⟩
        have HB9 := Lib.hid (HB3.out.trans (hb9.mono HB3.out.size))
        clear hb9 CB hl3
        go_wp2_with fail
        go_ret
        exact ⟨say_is HE.out, HB9.out⟩
    · have HD : Hid (wi x.N.q 1 64 = true ∧ (sPc x.N = true ∨ sGl x.N = true)) := Lib.hid ⟨hp0, .inl hp1⟩
      clear hp0 hp1 hp2 C2
      go_enter Tryz.func115, Tryz.ntmps115
      go_wp2_with fail
      go_region
      rw [HW.out]
      clear hl1d hl2d hstd hz hZ1 hZ2
      go_wp2_with (go_at_call 84; with_reducible refine (C0 _).mono ?_; rintro e w1 ⟨rfl, rfl⟩)
      refine C1.mono ?_
      rintro e w1 ⟨rfl, hb⟩
      have t7 := (NBB.out.keep (hb)).c (k := 7) (v := .int .i64 x.N.q) (by rw [← HV.out]; rfl)
      have t7f := (NBB.out.keep (hb)).f 7
      have t6 := (NBB.out.keep (hb)).c (k := 6) (v := .int .i64 x.N.p) (by rw [← HV.out]; rfl)
      have t6f := (NBB.out.keep (hb)).f 6
      have t8 := (NBB.out.keep (hb)).c (k := 8) (v := .int .i64 x.N.o) (by rw [← HV.out]; rfl)
      have t8f := (NBB.out.keep (hb)).f 8
      have t10 := (NBB.out.keep (hb)).c (k := 10) (v := .int .i64 x.N.sh) (by rw [← HV.out]; rfl)
      have t10f := (NBB.out.keep (hb)).f 10
      have t11 := (NBB.out.keep (hb)).c (k := 11) (v := .bool x.N.bk) (by rw [← HV.out]; rfl)
      have t11f := (NBB.out.keep (hb)).f 11
      obtain ⟨x', hx'⟩ : ∃ x' : Nv, ({ x with N := { x.N with q := 0, p := 0, o := 0, sh := 0, bk := false } } : Nv) = x' := ⟨_, rfl⟩
      have hb3 := (below_set (below_set (below_set (below_set (below_set (BW.out.trans ((hb).mono BW.out.size)) (Nat.le_succ _) 7 (.int .i64 0)) (Nat.le_succ _) 6 (.int .i64 0)) (Nat.le_succ _) 8 (.int .i64 0)) (Nat.le_succ _) 10 (.int .i64 0)) (Nat.le_succ _) 11 (.bool false))
      have hl3 := NB.load (m := m) (V := x'.arr) (t := 40) (by rw [← hx']; have := ((((((NBB.out.keep (hb)).set 7 (.int .i64 0)).set 6 (.int .i64 0)).set 8 (.int .i64 0)).set 10 (.int .i64 0)).set 11 (.bool false)); rw [← HV.out] at this; exact this) ((arr_size x').trans HM.out)
      have CB := blank116 x' (((((w1.setCell ⟨w.heap.size + 1, 7, none⟩ (.int .i64 0)).setCell ⟨w.heap.size + 1, 6, none⟩ (.int .i64 0)).setCell ⟨w.heap.size + 1, 8, none⟩ (.int .i64 0)).setCell ⟨w.heap.size + 1, 10, none⟩ (.int .i64 0)).setCell ⟨w.heap.size + 1, 11, none⟩ (.bool false)) (by rw [← hx']; exact ⟨HN.out.P.keep hb3, HN.out.Q.keep hb3, HN.out.D.keep hb3, ⟨HN.out.X.P.keep hb3, HN.out.X.C.keep hb3, HN.out.X.S.keep hb3⟩⟩)
      have HE : Hid (blN x'.N = true ↔ (RR)) := Lib.hid (by rw [← hx']; exact ⟨fun k => HRR.out.1 ⟨HD.out, k⟩, fun k => (HRR.out.2 k).2⟩)
      have HB3 := Lib.hid hb3
      clear hb3 hx'
      generalize x'.arr = V' at *
      generalize blN x'.N = bl at *
      clear hb C1
      go_wp2_with fail
      refine CB.mono ?_
      rintro e w9 ⟨rfl, hb9⟩
      have HB9 := Lib.hid (HB3.out.trans (hb9.mono HB3.out.size))
      clear hb9 CB hl3
      go_wp2_with fail
      go_ret
      exact ⟨say_is HE.out, HB9.out⟩

end Go.Proofs.YtcgmmfcphfkdhaaGreat

/- Walks: the content of a note of the kind 8. -/
namespace Go.Proofs.YtcgmmfcphfkdhaaGreat
open Go Go.RowKit Go.Proofs

set_option maxRecDepth 100000 in
set_option maxHeartbeats 4000000 in
theorem content115_8 (x : Nv) (w : World) (h : NV w x) :
    Calls Tryz.prog 115 #[.agg x.arr, .int .i64 8] w fun e w' => Say e (((wi x.N.p 1 65535 = true ∧ wi (x.N.D.length : Int) 1 4 = true) ∧ Dat x.N.D) ∧ blN { x.N with p := 0, D := [] } = true) ∧ Below w.heap.size w w' := by
  obtain ⟨RR, hRR⟩ : ∃ RR : Prop, (((wi x.N.p 1 65535 = true ∧ wi (x.N.D.length : Int) 1 4 = true) ∧ Dat x.N.D) ∧ blN { x.N with p := 0, D := [] } = true) = RR := ⟨_, rfl⟩
  rw [hRR]
  have HRR := Lib.hid (Iff.of_eq hRR)
  clear hRR
  obtain ⟨m, hm, ⟨hm0, hm1, hm2⟩, hs40⟩ := m40.out
  obtain ⟨FS, hu40, fs0, fs1, fs2, fs3, fs4, fs5, fs6, fs7, fs8, fs9, fs10, fs11, fs12, fs13, fs14, fs15⟩ := f40.out
  obtain ⟨Z, hz, hZ1, hZ2⟩ := z40.out
  have n0 := NB.new w x.arr 40
  have hl1d : (loadCellsFrom ⟨w.heap.size, 0, none⟩ 0 m #[]).run Tryz.prog (w.alloc (.cells x.arr 40)).drew = .ok x.arr (w.alloc (.cells x.arr 40)).drew := NB.load (w := (w.alloc (.cells x.arr 40)).drew) (V := x.arr) (t := 40) n0 ((arr_size x).trans hm)
  have hl2d : (loadCellsFrom ⟨w.heap.size, 0, none⟩ 0 m #[]).run Tryz.prog ((w.alloc (.cells x.arr 40)).alloc (.cells Z 40)).drew = .ok x.arr ((w.alloc (.cells x.arr 40)).alloc (.cells Z 40)).drew := NB.load (w := ((w.alloc (.cells x.arr 40)).alloc (.cells Z 40)).drew) (V := x.arr) (t := 40) (n0.alloc (.cells Z 40)) ((arr_size x).trans hm)
  have hstd : (storeCells ⟨w.heap.size + 1, 0, none⟩ x.arr.toList 0).run Tryz.prog ((w.alloc (.cells x.arr 40)).alloc (.cells Z 40)).drew = .ok () ((w.alloc (.cells x.arr 40)).alloc (.cells x.arr 40)).drew := by
    have := run_storeCells_new (P := Tryz.prog) (w.alloc (.cells x.arr 40)).drew 40 Z x.arr (by rw [arr_size]; kernel_rfl) (by rw [hZ1, arr_size]) h.one
    rw [show (w.alloc (.cells x.arr 40)).drew.heap.size = w.heap.size + 1 from World.size_alloc _ _] at this
    exact this
  have hsz : x.arr.size = m := (arr_size x).trans hm
  have HM := Lib.hid hm
  have nA : NB ((w.alloc (.cells x.arr 40)).alloc (.cells x.arr 40)).drew w.heap.size x.arr 40 := n0.alloc _
  have nB : NB ((w.alloc (.cells x.arr 40)).alloc (.cells x.arr 40)).drew (w.heap.size + 1) x.arr 40 := nb1 w (.cells x.arr 40) x.arr 40
  have bW : Below w.heap.size w ((w.alloc (.cells x.arr 40)).alloc (.cells x.arr 40)).drew := by
    have bb : Below w.heap.size w ((w.alloc (.cells x.arr 40)).alloc (.cells x.arr 40)) := ((Below.refl _ _).alloc (Nat.le_refl _) _).alloc (by simp) _
    exact ⟨bb.os, bb.tape, bb.output, bb.size, bb.block⟩
  obtain ⟨V, hV⟩ : ∃ V, x.arr = V := ⟨_, rfl⟩
  rw [hV] at n0 hl1d hl2d hstd hsz nA nB bW ⊢
  obtain ⟨W, hW⟩ : ∃ W, ((w.alloc (.cells V 40)).alloc (.cells V 40)).drew = W := ⟨_, rfl⟩
  rw [hW] at nA nB bW
  have HV := Lib.hid hV
  have HW := Lib.hid hW
  have HN := Lib.hid h
  have NA := Lib.hid nA
  have NBB := Lib.hid nB
  have BW := Lib.hid bW
  clear hm n0 nA nB bW hV hW h
  have CD := fun hl => data184 x.uD x.N.D hl W (HN.out.D.keep BW.out)
  have C0 := fun w => in84 x.N.p 1 65535 w
  have C2 := fun w => in84 (x.N.D.length : Int) 1 4 w
  obtain ⟨aD, cD, eD, -⟩ := HN.out.D
  rw [eD] at CD
  have c16 := NA.out.c (k := 16) (v := .slice aD x.N.D.length cD) (by rw [← HV.out, ← eD]; rfl)
  have c6 := NA.out.c (k := 6) (v := .int .i64 x.N.p) (by rw [← HV.out]; rfl)
  clear eD
  obtain ⟨p0, hp0⟩ : ∃ p, wi x.N.p 1 65535 = p := ⟨_, rfl⟩
  obtain ⟨p2, hp2⟩ : ∃ p, wi (x.N.D.length : Int) 1 4 = p := ⟨_, rfl⟩
  rw [hp0] at C0
  rw [hp2] at C2
  cases p0
  · have HF := Lib.hid (fun k : (wi x.N.p 1 65535 = true ∧ wi (x.N.D.length : Int) 1 4 = true) ∧ Dat x.N.D => show False from by rw [hp0] at k; simp at k)
    clear hp0 hp2 CD
    have t6 := (NBB.out.keep (Below.refl W.heap.size W)).c (k := 6) (v := .int .i64 x.N.p) (by rw [← HV.out]; rfl)
    have t6f := (NBB.out.keep (Below.refl W.heap.size W)).f 6
    have t16 := (NBB.out.keep (Below.refl W.heap.size W)).c (k := 16) (v := x.uD) (by rw [← HV.out]; rfl)
    have t16f := (NBB.out.keep (Below.refl W.heap.size W)).f 16
    generalize x.N.D.length = nD at *
    go_enter Tryz.func115, Tryz.ntmps115
    go_wp2_with fail
    go_region
    rw [HW.out]
    clear hl1d hl2d hstd hz hZ1 hZ2
    have HB := Lib.hid (below_set (below_set BW.out (Nat.le_succ _) 6 (.int .i64 0)) (Nat.le_succ _) 16 (.slice none 0 0))
    go_wp2_with (first | (go_at_call 84; with_reducible refine (C0 _).mono ?_; rintro e w1 ⟨rfl, rfl⟩) | (go_at_call 84; with_reducible refine (C2 _).mono ?_; rintro e w1 ⟨rfl, rfl⟩))
    go_ret
    exact ⟨say_no (fun k => HF.out (HRR.out.2 k).1), HB.out⟩
  · cases p2
    · have HF := Lib.hid (fun k : (wi x.N.p 1 65535 = true ∧ wi (x.N.D.length : Int) 1 4 = true) ∧ Dat x.N.D => show False from by rw [hp2] at k; simp at k)
      clear hp0 hp2 CD
      have t6 := (NBB.out.keep (Below.refl W.heap.size W)).c (k := 6) (v := .int .i64 x.N.p) (by rw [← HV.out]; rfl)
      have t6f := (NBB.out.keep (Below.refl W.heap.size W)).f 6
      have t16 := (NBB.out.keep (Below.refl W.heap.size W)).c (k := 16) (v := x.uD) (by rw [← HV.out]; rfl)
      have t16f := (NBB.out.keep (Below.refl W.heap.size W)).f 16
      generalize x.N.D.length = nD at *
      go_enter Tryz.func115, Tryz.ntmps115
      go_wp2_with fail
      go_region
      rw [HW.out]
      clear hl1d hl2d hstd hz hZ1 hZ2
      have HB := Lib.hid (below_set (below_set BW.out (Nat.le_succ _) 6 (.int .i64 0)) (Nat.le_succ _) 16 (.slice none 0 0))
      go_wp2_with (first | (go_at_call 84; with_reducible refine (C0 _).mono ?_; rintro e w1 ⟨rfl, rfl⟩) | (go_at_call 84; with_reducible refine (C2 _).mono ?_; rintro e w1 ⟨rfl, rfl⟩))
      go_ret
      exact ⟨say_no (fun k => HF.out (HRR.out.2 k).1), HB.out⟩
    · have C := CD (by unfold wi at hp2; simp only [Bool.and_eq_true, decide_eq_true_iff] at hp2; omega)
      by_cases hd : Dat x.N.D
      · replace C := C.mono fun e w' h => And.intro (say_t h.1 hd) h.2
        have HD := Lib.hid (And.intro (And.intro hp0 hp2) hd)
        clear hp0 hp2 hd CD
        generalize x.N.D.length = nD at *
        go_enter Tryz.func115, Tryz.ntmps115
        go_wp2_with fail
        go_region
        rw [HW.out]
        clear hl1d hl2d hstd hz hZ1 hZ2
        go_wp2_with (first | (go_at_call 84; with_reducible refine (C0 _).mono ?_; rintro e w1 ⟨rfl, rfl⟩) | (go_at_call 84; with_reducible refine (C2 _).mono ?_; rintro e w1 ⟨rfl, rfl⟩))
        refine C.mono ?_
        rintro e w1 ⟨rfl, hb⟩
        have t6 := (NBB.out.keep (hb)).c (k := 6) (v := .int .i64 x.N.p) (by rw [← HV.out]; rfl)
        have t6f := (NBB.out.keep (hb)).f 6
        have t16 := (NBB.out.keep (hb)).c (k := 16) (v := x.uD) (by rw [← HV.out]; rfl)
        have t16f := (NBB.out.keep (hb)).f 16
        obtain ⟨x', hx'⟩ : ∃ x' : Nv, ({ x with N := { x.N with p := 0, D := [] }, uD := .slice none 0 0 } : Nv) = x' := ⟨_, rfl⟩
        have hb3 := (below_set (below_set (BW.out.trans ((hb).mono BW.out.size)) (Nat.le_succ _) 6 (.int .i64 0)) (Nat.le_succ _) 16 (.slice none 0 0))
        have hl3 := NB.load (m := m) (V := x'.arr) (t := 40) (by rw [← hx']; have := (((NBB.out.keep (hb)).set 6 (.int .i64 0)).set 16 (.slice none 0 0)); rw [← HV.out] at this; exact this) ((arr_size x').trans HM.out)
        have CB := blank116 x' ((w1.setCell ⟨w.heap.size + 1, 6, none⟩ (.int .i64 0)).setCell ⟨w.heap.size + 1, 16, none⟩ (.slice none 0 0)) (by rw [← hx']; exact ⟨HN.out.P.keep hb3, HN.out.Q.keep hb3, slp_nil _, ⟨HN.out.X.P.keep hb3, HN.out.X.C.keep hb3, HN.out.X.S.keep hb3⟩⟩)
        have HE : Hid (blN x'.N = true ↔ (RR)) := Lib.hid (by rw [← hx']; exact ⟨fun k => HRR.out.1 ⟨HD.out, k⟩, fun k => (HRR.out.2 k).2⟩)
        have HB3 := Lib.hid hb3
        clear hb3 hx'
        generalize x'.arr = V' at *
        generalize blN x'.N = bl at *
        clear hb C
        go_wp2_with fail
        refine CB.mono ?_
        rintro e w9 ⟨rfl, hb9⟩
        have HB9 := Lib.hid (HB3.out.trans (hb9.mono HB3.out.size))
        clear hb9 CB hl3
        go_wp2_with fail
        go_ret
        exact ⟨say_is HE.out, HB9.out⟩
      · replace C := C.mono fun e w' h => And.intro (say_f h.1 hd) h.2
        have HF := Lib.hid (fun k : (wi x.N.p 1 65535 = true ∧ wi (x.N.D.length : Int) 1 4 = true) ∧ Dat x.N.D => hd k.2)
        clear hp0 hp2 hd CD
        generalize x.N.D.length = nD at *
        go_enter Tryz.func115, Tryz.ntmps115
        go_wp2_with fail
        go_region
        rw [HW.out]
        clear hl1d hl2d hstd hz hZ1 hZ2
        go_wp2_with (first | (go_at_call 84; with_reducible refine (C0 _).mono ?_; rintro e w1 ⟨rfl, rfl⟩) | (go_at_call 84; with_reducible refine (C2 _).mono ?_; rintro e w1 ⟨rfl, rfl⟩))
        refine C.mono ?_
        rintro e w1 ⟨rfl, hb⟩
        have t6 := (NBB.out.keep (hb)).c (k := 6) (v := .int .i64 x.N.p) (by rw [← HV.out]; rfl)
        have t6f := (NBB.out.keep (hb)).f 6
        have t16 := (NBB.out.keep (hb)).c (k := 16) (v := x.uD) (by rw [← HV.out]; rfl)
        have t16f := (NBB.out.keep (hb)).f 16
        have HB := Lib.hid (below_set (below_set (BW.out.trans ((hb).mono BW.out.size)) (Nat.le_succ _) 6 (.int .i64 0)) (Nat.le_succ _) 16 (.slice none 0 0))
        clear hb C
        go_wp2_with fail
        go_ret
        exact ⟨say_no (fun k => HF.out (HRR.out.2 k).1), HB.out⟩

end Go.Proofs.YtcgmmfcphfkdhaaGreat
