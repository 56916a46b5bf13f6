/- The abstract machine, part GrN4b. -/
import Derived.Test.YtcgmmfcphfkdhaaGreatGrN4
/- Walks: the content of a note of the kind 4. -/
namespace Go.Proofs.YtcgmmfcphfkdhaaGreat
open Go Go.RowKit Go.Proofs

set_option maxRecDepth 100000 in
set_option maxHeartbeats 4000000 in
theorem content115_4 (x : Nv) (w : World) (h : NV w x) :
    Calls Tryz.prog 115 #[.agg x.arr, .int .i64 4] w fun e w' => Say e (((wi (x.N.P.length : Int) 1 64 = true ∧ Ris x.N.P 65535) ∧ wi x.N.t 1 8 = true) ∧ blN { x.N with P := [], t := 0 } = true) ∧ Below w.heap.size w w' := by
  obtain ⟨RR, hRR⟩ : ∃ RR : Prop, (((wi (x.N.P.length : Int) 1 64 = true ∧ Ris x.N.P 65535) ∧ wi x.N.t 1 8 = true) ∧ blN { x.N with P := [], t := 0 } = true) = RR := ⟨_, rfl⟩
  rw [hRR]
  have HRR := Lib.hid (Iff.of_eq hRR)
  clear hRR
  obtain ⟨m, hm, ⟨hm0, hm1, hm2⟩, hs40⟩ := m40.out
  obtain ⟨FS, hu40, fs0, fs1, fs2, fs3, fs4, fs5, fs6, fs7, fs8, fs9, fs10, fs11, fs12, fs13, fs14, fs15⟩ := f40.out
  obtain ⟨Z, hz, hZ1, hZ2⟩ := z40.out
  have n0 := NB.new w x.arr 40
  have hl1d : (loadCellsFrom ⟨w.heap.size, 0, none⟩ 0 m #[]).run Tryz.prog (w.alloc (.cells x.arr 40)).drew = .ok x.arr (w.alloc (.cells x.arr 40)).drew := NB.load (w := (w.alloc (.cells x.arr 40)).drew) (V := x.arr) (t := 40) n0 ((arr_size x).trans hm)
  have hl2d : (loadCellsFrom ⟨w.heap.size, 0, none⟩ 0 m #[]).run Tryz.prog ((w.alloc (.cells x.arr 40)).alloc (.cells Z 40)).drew = .ok x.arr ((w.alloc (.cells x.arr 40)).alloc (.cells Z 40)).drew := NB.load (w := ((w.alloc (.cells x.arr 40)).alloc (.cells Z 40)).drew) (V := x.arr) (t := 40) (n0.alloc (.cells Z 40)) ((arr_size x).trans hm)
  have hstd : (storeCells ⟨w.heap.size + 1, 0, none⟩ x.arr.toList 0).run Tryz.prog ((w.alloc (.cells x.arr 40)).alloc (.cells Z 40)).drew = .ok () ((w.alloc (.cells x.arr 40)).alloc (.cells x.arr 40)).drew := by
    have := run_storeCells_new (P := Tryz.prog) (w.alloc (.cells x.arr 40)).drew 40 Z x.arr (by rw [arr_size]; kernel_rfl) (by rw [hZ1, arr_size]) h.one
    rw [show (w.alloc (.cells x.arr 40)).drew.heap.size = w.heap.size + 1 from World.size_alloc _ _] at this
    exact this
  have hsz : x.arr.size = m := (arr_size x).trans hm
  have HM := Lib.hid hm
  have nA : NB ((w.alloc (.cells x.arr 40)).alloc (.cells x.arr 40)).drew w.heap.size x.arr 40 := n0.alloc _
  have nB : NB ((w.alloc (.cells x.arr 40)).alloc (.cells x.arr 40)).drew (w.heap.size + 1) x.arr 40 := nb1 w (.cells x.arr 40) x.arr 40
  have bW : Below w.heap.size w ((w.alloc (.cells x.arr 40)).alloc (.cells x.arr 40)).drew := by
    have bb : Below w.heap.size w ((w.alloc (.cells x.arr 40)).alloc (.cells x.arr 40)) := ((Below.refl _ _).alloc (Nat.le_refl _) _).alloc (by simp) _
    exact ⟨bb.os, bb.tape, bb.output, bb.size, bb.block⟩
  obtain ⟨V, hV⟩ : ∃ V, x.arr = V := ⟨_, rfl⟩
  rw [hV] at n0 hl1d hl2d hstd hsz nA nB bW ⊢
  obtain ⟨W, hW⟩ : ∃ W, ((w.alloc (.cells V 40)).alloc (.cells V 40)).drew = W := ⟨_, rfl⟩
  rw [hW] at nA nB bW
  have HV := Lib.hid hV
  have HW := Lib.hid hW
  have HN := Lib.hid h
  have NA := Lib.hid nA
  have NBB := Lib.hid nB
  have BW := Lib.hid bW
  clear hm n0 nA nB bW hV hW h
  have C := rising186 x.uP x.N.P 65535 (by omega) (by omega) W (HN.out.P.keep BW.out)
  have C0 := fun w => in84 (x.N.P.length : Int) 1 64 w
  have C2 := fun w => in84 x.N.t 1 8 w
  obtain ⟨aD, cD, eD, -⟩ := HN.out.P
  rw [eD] at C
  have c14 := NA.out.c (k := 14) (v := .slice aD x.N.P.length cD) (by rw [← HV.out, ← eD]; rfl)
  have c9 := NA.out.c (k := 9) (v := .int .i64 x.N.t) (by rw [← HV.out]; rfl)
  clear eD
  obtain ⟨p0, hp0⟩ : ∃ p, wi (x.N.P.length : Int) 1 64 = p := ⟨_, rfl⟩
  obtain ⟨p2, hp2⟩ : ∃ p, wi x.N.t 1 8 = p := ⟨_, rfl⟩
  rw [hp0] at C0
  rw [hp2] at C2
  cases p0
  · have HF := Lib.hid (fun k : (wi (x.N.P.length : Int) 1 64 = true ∧ Ris x.N.P 65535) ∧ wi x.N.t 1 8 = true => show False from by rw [hp0] at k; simp at k)
    clear hp0 hp2 C
    have t14 := (NBB.out.keep (Below.refl W.heap.size W)).c (k := 14) (v := x.uP) (by rw [← HV.out]; rfl)
    have t14f := (NBB.out.keep (Below.refl W.heap.size W)).f 14
    have t9 := (NBB.out.keep (Below.refl W.heap.size W)).c (k := 9) (v := .int .i64 x.N.t) (by rw [← HV.out]; rfl)
    have t9f := (NBB.out.keep (Below.refl W.heap.size W)).f 9
    generalize x.N.P.length = nD at *
    go_enter Tryz.func115, Tryz.ntmps115
    go_wp2_with fail
    go_region
    rw [HW.out]
    clear hl1d hl2d hstd hz hZ1 hZ2
    have HB := Lib.hid (below_set (below_set BW.out (Nat.le_succ _) 14 (.slice none 0 0)) (Nat.le_succ _) 9 (.int .i64 0))
    go_wp2_with (go_at_call 84; with_reducible refine (C0 _).mono ?_; rintro e w1 ⟨rfl, rfl⟩)
    go_ret
    exact ⟨say_no (fun k => HF.out (HRR.out.2 k).1), HB.out⟩
  · by_cases hd : Ris x.N.P 65535
    · replace C := C.mono fun e w' h => And.intro (say_t h.1 hd) h.2
      cases p2
      · have HF := Lib.hid (fun k : (wi (x.N.P.length : Int) 1 64 = true ∧ Ris x.N.P 65535) ∧ wi x.N.t 1 8 = true => show False from by rw [hp2] at k; simp at k)
        clear hp0 hp2 hd
        generalize x.N.P.length = nD at *
        go_enter Tryz.func115, Tryz.ntmps115
        go_wp2_with fail
        go_region
        rw [HW.out]
        clear hl1d hl2d hstd hz hZ1 hZ2
        go_wp2_with (go_at_call 84; with_reducible refine (C0 _).mono ?_; rintro e w1 ⟨rfl, rfl⟩)
        refine C.mono ?_
        rintro e w1 ⟨rfl, hb⟩
        have t14 := (NBB.out.keep (hb)).c (k := 14) (v := x.uP) (by rw [← HV.out]; rfl)
        have t14f := (NBB.out.keep (hb)).f 14
        have t9 := (NBB.out.keep (hb)).c (k := 9) (v := .int .i64 x.N.t) (by rw [← HV.out]; rfl)
        have t9f := (NBB.out.keep (hb)).f 9
        have c9' := (NA.out.keep hb).c (k := 9) (v := .int .i64 x.N.t) (by rw [← HV.out]; rfl)
        have HB := Lib.hid (below_set (below_set (BW.out.trans (hb.mono BW.out.size)) (Nat.le_succ _) 14 (.slice none 0 0)) (Nat.le_succ _) 9 (.int .i64 0))
        clear hb C
        go_wp2_with (go_at_call 84; with_reducible refine (C2 _).mono ?_; rintro e w1 ⟨rfl, rfl⟩)
        go_ret
        exact ⟨say_no (fun k => HF.out (HRR.out.2 k).1), HB.out⟩
      · have HD := Lib.hid (And.intro (And.intro hp0 hd) hp2)
        clear hp0 hp2 hd
        generalize x.N.P.length = nD at *
        go_enter Tryz.func115, Tryz.ntmps115
        go_wp2_with fail
        go_region
        rw [HW.out]
        clear hl1d hl2d hstd hz hZ1 hZ2
        go_wp2_with (go_at_call 84; with_reducible refine (C0 _).mono ?_; rintro e w1 ⟨rfl, rfl⟩)
        refine C.mono ?_
        rintro e w1 ⟨rfl, hb⟩
        have t14 := (NBB.out.keep (hb)).c (k := 14) (v := x.uP) (by rw [← HV.out]; rfl)
        have t14f := (NBB.out.keep (hb)).f 14
        have t9 := (NBB.out.keep (hb)).c (k := 9) (v := .int .i64 x.N.t) (by rw [← HV.out]; rfl)
        have t9f := (NBB.out.keep (hb)).f 9
        have c9' := (NA.out.keep hb).c (k := 9) (v := .int .i64 x.N.t) (by rw [← HV.out]; rfl)
        obtain ⟨x', hx'⟩ : ∃ x' : Nv, ({ x with N := { x.N with P := [], t := 0 }, uP := .slice none 0 0 } : Nv) = x' := ⟨_, rfl⟩
        have hb3 := (below_set (below_set (BW.out.trans ((hb).mono BW.out.size)) (Nat.le_succ _) 14 (.slice none 0 0)) (Nat.le_succ _) 9 (.int .i64 0))
        have hl3 := NB.load (m := m) (V := x'.arr) (t := 40) (by rw [← hx']; have := (((NBB.out.keep (hb)).set 14 (.slice none 0 0)).set 9 (.int .i64 0)); rw [← HV.out] at this; exact this) ((arr_size x').trans HM.out)
        have CB := blank116 x' ((w1.setCell ⟨w.heap.size + 1, 14, none⟩ (.slice none 0 0)).setCell ⟨w.heap.size + 1, 9, none⟩ (.int .i64 0)) (by rw [← hx']; exact ⟨sli_nil _, HN.out.Q.keep hb3, HN.out.D.keep hb3, ⟨HN.out.X.P.keep hb3, HN.out.X.C.keep hb3, HN.out.X.S.keep hb3⟩⟩)
        have HE : Hid (blN x'.N = true ↔ (RR)) := Lib.hid (by rw [← hx']; exact ⟨fun k => HRR.out.1 ⟨HD.out, k⟩, fun k => (HRR.out.2 k).2⟩)
        have HB3 := Lib.hid hb3
        clear hb3 hx'
        generalize x'.arr = V' at *
        generalize blN x'.N = bl at *
        clear hb C
        go_wp2_with (go_at_call 84; with_reducible refine (C2 _).mono ?_; rintro e w1 ⟨rfl, rfl⟩)
        refine CB.mono ?_
        rintro e w9 ⟨rfl, hb9⟩
        have HB9 := Lib.hid (HB3.out.trans (hb9.mono HB3.out.size))
        clear hb9 CB hl3
        go_wp2_with fail
        go_ret
        exact ⟨say_is HE.out, HB9.out⟩
    · replace C := C.mono fun e w' h => And.intro (say_f h.1 hd) h.2
      have HF := Lib.hid (fun k : (wi (x.N.P.length : Int) 1 64 = true ∧ Ris x.N.P 65535) ∧ wi x.N.t 1 8 = true => hd k.1.2)
      clear hp0 hp2 hd
      generalize x.N.P.length = nD at *
      go_enter Tryz.func115, Tryz.ntmps115
      go_wp2_with fail
      go_region
      rw [HW.out]
      clear hl1d hl2d hstd hz hZ1 hZ2
      go_wp2_with (go_at_call 84; with_reducible refine (C0 _).mono ?_; rintro e w1 ⟨rfl, rfl⟩)
      refine C.mono ?_
      rintro e w1 ⟨rfl, hb⟩
      have t14 := (NBB.out.keep (hb)).c (k := 14) (v := x.uP) (by rw [← HV.out]; rfl)
      have t14f := (NBB.out.keep (hb)).f 14
      have t9 := (NBB.out.keep (hb)).c (k := 9) (v := .int .i64 x.N.t) (by rw [← HV.out]; rfl)
      have t9f := (NBB.out.keep (hb)).f 9
      have HB := Lib.hid (below_set (below_set (BW.out.trans ((hb).mono BW.out.size)) (Nat.le_succ _) 14 (.slice none 0 0)) (Nat.le_succ _) 9 (.int .i64 0))
      clear hb C
      go_wp2_with fail
      go_ret
      exact ⟨say_no (fun k => HF.out (HRR.out.2 k).1), HB.out⟩

end Go.Proofs.YtcgmmfcphfkdhaaGreat

/- Walks: the content of a note of the kind 5. -/
namespace Go.Proofs.YtcgmmfcphfkdhaaGreat
open Go Go.RowKit Go.Proofs

set_option maxRecDepth 100000 in
set_option maxHeartbeats 4000000 in
theorem content115_5 (x : Nv) (w : World) (h : NV w x) :
    Calls Tryz.prog 115 #[.agg x.arr, .int .i64 5] w fun e w' => Say e (vRf x.N.rb x.N.rn = true ∧ blN { x.N with rb := 0, rn := 0 } = true) ∧ Below w.heap.size w w' := by
  obtain ⟨RR, hRR⟩ : ∃ RR : Prop, (vRf x.N.rb x.N.rn = true ∧ blN { x.N with rb := 0, rn := 0 } = true) = RR := ⟨_, rfl⟩
  rw [hRR]
  have HRR := Lib.hid (Iff.of_eq hRR)
  clear hRR
  obtain ⟨m, hm, ⟨hm0, hm1, hm2⟩, hs40⟩ := m40.out
  obtain ⟨FS, hu40, fs0, fs1, fs2, fs3, fs4, fs5, fs6, fs7, fs8, fs9, fs10, fs11, fs12, fs13, fs14, fs15⟩ := f40.out
  obtain ⟨Z, hz, hZ1, hZ2⟩ := z40.out
  have n0 := NB.new w x.arr 40
  have hl1d : (loadCellsFrom ⟨w.heap.size, 0, none⟩ 0 m #[]).run Tryz.prog (w.alloc (.cells x.arr 40)).drew = .ok x.arr (w.alloc (.cells x.arr 40)).drew := NB.load (w := (w.alloc (.cells x.arr 40)).drew) (V := x.arr) (t := 40) n0 ((arr_size x).trans hm)
  have hl2d : (loadCellsFrom ⟨w.heap.size, 0, none⟩ 0 m #[]).run Tryz.prog ((w.alloc (.cells x.arr 40)).alloc (.cells Z 40)).drew = .ok x.arr ((w.alloc (.cells x.arr 40)).alloc (.cells Z 40)).drew := NB.load (w := ((w.alloc (.cells x.arr 40)).alloc (.cells Z 40)).drew) (V := x.arr) (t := 40) (n0.alloc (.cells Z 40)) ((arr_size x).trans hm)
  have hstd : (storeCells ⟨w.heap.size + 1, 0, none⟩ x.arr.toList 0).run Tryz.prog ((w.alloc (.cells x.arr 40)).alloc (.cells Z 40)).drew = .ok () ((w.alloc (.cells x.arr 40)).alloc (.cells x.arr 40)).drew := by
    have := run_storeCells_new (P := Tryz.prog) (w.alloc (.cells x.arr 40)).drew 40 Z x.arr (by rw [arr_size]; kernel_rfl) (by rw [hZ1, arr_size]) h.one
    rw [show (w.alloc (.cells x.arr 40)).drew.heap.size = w.heap.size + 1 from World.size_alloc _ _] at this
    exact this
  have hsz : x.arr.size = m := (arr_size x).trans hm
  have HM := Lib.hid hm
  have nA : NB ((w.alloc (.cells x.arr 40)).alloc (.cells x.arr 40)).drew w.heap.size x.arr 40 := n0.alloc _
  have nB : NB ((w.alloc (.cells x.arr 40)).alloc (.cells x.arr 40)).drew (w.heap.size + 1) x.arr 40 := nb1 w (.cells x.arr 40) x.arr 40
  have bW : Below w.heap.size w ((w.alloc (.cells x.arr 40)).alloc (.cells x.arr 40)).drew := by
    have bb : Below w.heap.size w ((w.alloc (.cells x.arr 40)).alloc (.cells x.arr 40)) := ((Below.refl _ _).alloc (Nat.le_refl _) _).alloc (by simp) _
    exact ⟨bb.os, bb.tape, bb.output, bb.size, bb.block⟩
  obtain ⟨V, hV⟩ : ∃ V, x.arr = V := ⟨_, rfl⟩
  rw [hV] at n0 hl1d hl2d hstd hsz nA nB bW ⊢
  obtain ⟨W, hW⟩ : ∃ W, ((w.alloc (.cells V 40)).alloc (.cells V 40)).drew = W := ⟨_, rfl⟩
  rw [hW] at nA nB bW
  have HV := Lib.hid hV
  have HW := Lib.hid hW
  have HN := Lib.hid h
  have NA := Lib.hid nA
  have NBB := Lib.hid nB
  have BW := Lib.hid bW
  clear hm n0 nA nB bW hV hW h
  have C := ref113 x.N.rb x.N.rn W
  have c12 := NA.out.c (k := 12) (v := .int .i64 x.N.rb) (by rw [← HV.out]; rfl)
  have c13 := NA.out.c (k := 13) (v := .int .i64 x.N.rn) (by rw [← HV.out]; rfl)
  obtain ⟨p, hp⟩ : ∃ p, vRf x.N.rb x.N.rn = p := ⟨_, rfl⟩
  rw [hp] at C
  cases p
  · have HF := Lib.hid (fun k : vRf x.N.rb x.N.rn = true => show False from by rw [hp] at k; simp at k)
    clear hp
    go_enter Tryz.func115, Tryz.ntmps115
    go_wp2_with fail
    go_region
    rw [HW.out]
    clear hl1d hl2d hstd hz hZ1 hZ2
    go_wp2_with fail
    refine C.mono ?_
    rintro e w1 ⟨rfl, hb⟩
    have t12 := (NBB.out.keep (hb)).c (k := 12) (v := .int .i64 x.N.rb) (by rw [← HV.out]; rfl)
    have t12f := (NBB.out.keep (hb)).f 12
    have t13 := (NBB.out.keep (hb)).c (k := 13) (v := .int .i64 x.N.rn) (by rw [← HV.out]; rfl)
    have t13f := (NBB.out.keep (hb)).f 13
    have HB := Lib.hid (below_set (below_set (BW.out.trans ((hb).mono BW.out.size)) (Nat.le_succ _) 12 (.int .i64 0)) (Nat.le_succ _) 13 (.int .i64 0))
    clear hb C
    go_wp2_with fail
    go_ret
    exact ⟨say_no (fun k => HF.out (HRR.out.2 k).1), HB.out⟩
  · have HD := Lib.hid hp
    clear hp
    go_enter Tryz.func115, Tryz.ntmps115
    go_wp2_with fail
    go_region
    rw [HW.out]
    clear hl1d hl2d hstd hz hZ1 hZ2
    go_wp2_with fail
    refine C.mono ?_
    rintro e w1 ⟨rfl, hb⟩
    have t12 := (NBB.out.keep (hb)).c (k := 12) (v := .int .i64 x.N.rb) (by rw [← HV.out]; rfl)
    have t12f := (NBB.out.keep (hb)).f 12
    have t13 := (NBB.out.keep (hb)).c (k := 13) (v := .int .i64 x.N.rn) (by rw [← HV.out]; rfl)
    have t13f := (NBB.out.keep (hb)).f 13
    obtain ⟨x', hx'⟩ : ∃ x' : Nv, ({ x with N := { x.N with rb := 0, rn := 0 } } : Nv) = x' := ⟨_, rfl⟩
    have hb3 := (below_set (below_set (BW.out.trans ((hb).mono BW.out.size)) (Nat.le_succ _) 12 (.int .i64 0)) (Nat.le_succ _) 13 (.int .i64 0))
    have hl3 := NB.load (m := m) (V := x'.arr) (t := 40) (by rw [← hx']; have := (((NBB.out.keep (hb)).set 12 (.int .i64 0)).set 13 (.int .i64 0)); rw [← HV.out] at this; exact this) ((arr_size x').trans HM.out)
    have CB := blank116 x' ((w1.setCell ⟨w.heap.size + 1, 12, none⟩ (.int .i64 0)).setCell ⟨w.heap.size + 1, 13, none⟩ (.int .i64 0)) (by rw [← hx']; exact ⟨HN.out.P.keep hb3, HN.out.Q.keep hb3, HN.out.D.keep hb3, ⟨HN.out.X.P.keep hb3, HN.out.X.C.keep hb3, HN.out.X.S.keep hb3⟩⟩)
    have HE : Hid (blN x'.N = true ↔ (RR)) := Lib.hid (by rw [← hx']; exact ⟨fun k => HRR.out.1 ⟨HD.out, k⟩, fun k => (HRR.out.2 k).2⟩)
    have HB3 := Lib.hid hb3
    clear hb3 hx'
    generalize x'.arr = V' at *
    generalize blN x'.N = bl at *
    clear hb C
    go_wp2_with fail
    refine CB.mono ?_
    rintro e w9 ⟨rfl, hb9⟩
    have HB9 := Lib.hid (HB3.out.trans (hb9.mono HB3.out.size))
    clear hb9 CB hl3
    go_wp2_with fail
    go_ret
    exact ⟨say_is HE.out, HB9.out⟩

end Go.Proofs.YtcgmmfcphfkdhaaGreat

/- Walks: the content of a note of the kind 7. -/
namespace Go.Proofs.YtcgmmfcphfkdhaaGreat
open Go Go.RowKit Go.Proofs

set_option maxRecDepth 100000 in
set_option maxHeartbeats 4000000 in
theorem content115_7 (x : Nv) (w : World) (h : NV w x) :
    Calls Tryz.prog 115 #[.agg x.arr, .int .i64 7] w fun e w' => Say e (wi x.N.q 1 64 = true ∧ blN { x.N with q := 0 } = true) ∧ Below w.heap.size w w' := by
  obtain ⟨RR, hRR⟩ : ∃ RR : Prop, (wi x.N.q 1 64 = true ∧ blN { x.N with q := 0 } = true) = RR := ⟨_, rfl⟩
  rw [hRR]
  have HRR := Lib.hid (Iff.of_eq hRR)
  clear hRR
  obtain ⟨m, hm, ⟨hm0, hm1, hm2⟩, hs40⟩ := m40.out
  obtain ⟨FS, hu40, fs0, fs1, fs2, fs3, fs4, fs5, fs6, fs7, fs8, fs9, fs10, fs11, fs12, fs13, fs14, fs15⟩ := f40.out
  obtain ⟨Z, hz, hZ1, hZ2⟩ := z40.out
  have n0 := NB.new w x.arr 40
  have hl1d : (loadCellsFrom ⟨w.heap.size, 0, none⟩ 0 m #[]).run Tryz.prog (w.alloc (.cells x.arr 40)).drew = .ok x.arr (w.alloc (.cells x.arr 40)).drew := NB.load (w := (w.alloc (.cells x.arr 40)).drew) (V := x.arr) (t := 40) n0 ((arr_size x).trans hm)
  have hl2d : (loadCellsFrom ⟨w.heap.size, 0, none⟩ 0 m #[]).run Tryz.prog ((w.alloc (.cells x.arr 40)).alloc (.cells Z 40)).drew = .ok x.arr ((w.alloc (.cells x.arr 40)).alloc (.cells Z 40)).drew := NB.load (w := ((w.alloc (.cells x.arr 40)).alloc (.cells Z 40)).drew) (V := x.arr) (t := 40) (n0.alloc (.cells Z 40)) ((arr_size x).trans hm)
  have hstd : (storeCells ⟨w.heap.size + 1, 0, none⟩ x.arr.toList 0).run Tryz.prog ((w.alloc (.cells x.arr 40)).alloc (.cells Z 40)).drew = .ok () ((w.alloc (.cells x.arr 40)).alloc (.cells x.arr 40)).drew := by
    have := run_storeCells_new (P := Tryz.prog) (w.alloc (.cells x.arr 40)).drew 40 Z x.arr (by rw [arr_size]; kernel_rfl) (by rw [hZ1, arr_size]) h.one
    rw [show (w.alloc (.cells x.arr 40)).drew.heap.size = w.heap.size + 1 from World.size_alloc _ _] at this
    exact this
  have hsz : x.arr.size = m := (arr_size x).trans hm
  have HM := Lib.hid hm
  have nA : NB ((w.alloc (.cells x.arr 40)).alloc (.cells x.arr 40)).drew w.heap.size x.arr 40 := n0.alloc _
  have nB : NB ((w.alloc (.cells x.arr 40)).alloc (.cells x.arr 40)).drew (w.heap.size + 1) x.arr 40 := nb1 w (.cells x.arr 40) x.arr 40
  have bW : Below w.heap.size w ((w.alloc (.cells x.arr 40)).alloc (.cells x.arr 40)).drew := by
    have bb : Below w.heap.size w ((w.alloc (.cells x.arr 40)).alloc (.cells x.arr 40)) := ((Below.refl _ _).alloc (Nat.le_refl _) _).alloc (by simp) _
    exact ⟨bb.os, bb.tape, bb.output, bb.size, bb.block⟩
  obtain ⟨V, hV⟩ : ∃ V, x.arr = V := ⟨_, rfl⟩
  rw [hV] at n0 hl1d hl2d hstd hsz nA nB bW ⊢
  obtain ⟨W, hW⟩ : ∃ W, ((w.alloc (.cells V 40)).alloc (.cells V 40)).drew = W := ⟨_, rfl⟩
  rw [hW] at nA nB bW
  have HV := Lib.hid hV
  have HW := Lib.hid hW
  have HN := Lib.hid h
  have NA := Lib.hid nA
  have NBB := Lib.hid nB
  have BW := Lib.hid bW
  clear hm n0 nA nB bW hV hW h
  have C := in84 x.N.q 1 64 W
  have c7 := NA.out.c (k := 7) (v := .int .i64 x.N.q) (by rw [← HV.out]; rfl)
  obtain ⟨p, hp⟩ : ∃ p, wi x.N.q 1 64 = p := ⟨_, rfl⟩
  rw [hp] at C
  cases p
  · have HF := Lib.hid (fun k : wi x.N.q 1 64 = true => show False from by rw [hp] at k; simp at k)
    clear hp
    have t7 := (NBB.out.keep (Below.refl W.heap.size W)).c (k := 7) (v := .int .i64 x.N.q) (by rw [← HV.out]; rfl)
    have t7f := (NBB.out.keep (Below.refl W.heap.size W)).f 7
    go_enter Tryz.func115, Tryz.ntmps115
    go_wp2_with fail
    go_region
    rw [HW.out]
    clear hl1d hl2d hstd hz hZ1 hZ2
    go_wp2_with fail
    refine C.mono ?_
    rintro e w1 ⟨rfl, rfl⟩
    clear C
    have HB := Lib.hid (below_set BW.out (Nat.le_succ _) 7 (.int .i64 0))
    go_wp2_with fail
    go_ret
    exact ⟨say_no (fun k => HF.out (HRR.out.2 k).1), HB.out⟩
  · have HD := Lib.hid hp
    clear hp
    have t7 := (NBB.out.keep (Below.refl W.heap.size W)).c (k := 7) (v := .int .i64 x.N.q) (by rw [← HV.out]; rfl)
    have t7f := (NBB.out.keep (Below.refl W.heap.size W)).f 7
    go_enter Tryz.func115, Tryz.ntmps115
    go_wp2_with fail
    go_region
    rw [HW.out]
    clear hl1d hl2d hstd hz hZ1 hZ2
    go_wp2_with fail
    refine C.mono ?_
    rintro e w1 ⟨rfl, rfl⟩
    clear C
    obtain ⟨x', hx'⟩ : ∃ x' : Nv, ({ x with N := { x.N with q := 0 } } : Nv) = x' := ⟨_, rfl⟩
    have hb3 := (below_set (BW.out.trans ((Below.refl w1.heap.size w1).mono BW.out.size)) (Nat.le_succ _) 7 (.int .i64 0))
    have hl3 := NB.load (m := m) (V := x'.arr) (t := 40) (by rw [← hx']; have := ((NBB.out.keep (Below.refl w1.heap.size w1)).set 7 (.int .i64 0)); rw [← HV.out] at this; exact this) ((arr_size x').trans HM.out)
    have CB := blank116 x' (w1.setCell ⟨w.heap.size + 1, 7, none⟩ (.int .i64 0)) (by rw [← hx']; exact ⟨HN.out.P.keep hb3, HN.out.Q.keep hb3, HN.out.D.keep hb3, ⟨HN.out.X.P.keep hb3, HN.out.X.C.keep hb3, HN.out.X.S.keep hb3⟩⟩)
    have HE : Hid (blN x'.N = true ↔ (RR)) := Lib.hid (by rw [← hx']; exact ⟨fun k => HRR.out.1 ⟨HD.out, k⟩, fun k => (HRR.out.2 k).2⟩)
    have HB3 := Lib.hid hb3
    clear hb3 hx'
    generalize x'.arr = V' at *
    generalize blN x'.N = bl at *
    go_wp2_with fail
    refine CB.mono ?_
    rintro e w9 ⟨rfl, hb9⟩
    have HB9 := Lib.hid (HB3.out.trans (hb9.mono HB3.out.size))
    clear hb9 CB hl3
    go_wp2_with fail
    go_ret
    exact ⟨say_is HE.out, HB9.out⟩

end Go.Proofs.YtcgmmfcphfkdhaaGreat

/- Walks: the content of a note of no kind. -/
namespace Go.Proofs.YtcgmmfcphfkdhaaGreat
open Go Go.RowKit Go.Proofs

set_option maxRecDepth 100000 in
set_option maxHeartbeats 4000000 in
theorem content115_d (x : Nv) (k : Int) (hk : ¬ k = 1 ∧ ¬ k = 2 ∧ ¬ k = 3 ∧ ¬ k = 4 ∧ ¬ k = 5 ∧ ¬ k = 6 ∧ ¬ k = 7 ∧ ¬ k = 8) (w : World) (h : NV w x) :
    Calls Tryz.prog 115 #[.agg x.arr, .int .i64 k] w fun e w' => e = .returned (.bool false) ∧ Below w.heap.size w w' := by
  obtain ⟨k1, k2, k3, k4, k5, k6, k7, k8⟩ := hk
  obtain ⟨m, hm, ⟨hm0, hm1, hm2⟩, hs40⟩ := m40.out
  obtain ⟨FS, hu40, fs0, fs1, fs2, fs3, fs4, fs5, fs6, fs7, fs8, fs9, fs10, fs11, fs12, fs13, fs14, fs15⟩ := f40.out
  obtain ⟨Z, hz, hZ1, hZ2⟩ := z40.out
  have n0 := NB.new w x.arr 40
  have hl1d : (loadCellsFrom ⟨w.heap.size, 0, none⟩ 0 m #[]).run Tryz.prog (w.alloc (.cells x.arr 40)).drew = .ok x.arr (w.alloc (.cells x.arr 40)).drew := NB.load (w := (w.alloc (.cells x.arr 40)).drew) (V := x.arr) (t := 40) n0 ((arr_size x).trans hm)
  have hl2d : (loadCellsFrom ⟨w.heap.size, 0, none⟩ 0 m #[]).run Tryz.prog ((w.alloc (.cells x.arr 40)).alloc (.cells Z 40)).drew = .ok x.arr ((w.alloc (.cells x.arr 40)).alloc (.cells Z 40)).drew := NB.load (w := ((w.alloc (.cells x.arr 40)).alloc (.cells Z 40)).drew) (V := x.arr) (t := 40) (n0.alloc (.cells Z 40)) ((arr_size x).trans hm)
  have hstd : (storeCells ⟨w.heap.size + 1, 0, none⟩ x.arr.toList 0).run Tryz.prog ((w.alloc (.cells x.arr 40)).alloc (.cells Z 40)).drew = .ok () ((w.alloc (.cells x.arr 40)).alloc (.cells x.arr 40)).drew := by
    have := run_storeCells_new (P := Tryz.prog) (w.alloc (.cells x.arr 40)).drew 40 Z x.arr (by rw [arr_size]; kernel_rfl) (by rw [hZ1, arr_size]) h.one
    rw [show (w.alloc (.cells x.arr 40)).drew.heap.size = w.heap.size + 1 from World.size_alloc _ _] at this
    exact this
  have hsz : x.arr.size = m := (arr_size x).trans hm
  have HM := Lib.hid hm
  have nA : NB ((w.alloc (.cells x.arr 40)).alloc (.cells x.arr 40)).drew w.heap.size x.arr 40 := n0.alloc _
  have nB : NB ((w.alloc (.cells x.arr 40)).alloc (.cells x.arr 40)).drew (w.heap.size + 1) x.arr 40 := nb1 w (.cells x.arr 40) x.arr 40
  have bW : Below w.heap.size w ((w.alloc (.cells x.arr 40)).alloc (.cells x.arr 40)).drew := by
    have bb : Below w.heap.size w ((w.alloc (.cells x.arr 40)).alloc (.cells x.arr 40)) := ((Below.refl _ _).alloc (Nat.le_refl _) _).alloc (by simp) _
    exact ⟨bb.os, bb.tape, bb.output, bb.size, bb.block⟩
  obtain ⟨V, hV⟩ : ∃ V, x.arr = V := ⟨_, rfl⟩
  rw [hV] at n0 hl1d hl2d hstd hsz nA nB bW ⊢
  obtain ⟨W, hW⟩ : ∃ W, ((w.alloc (.cells V 40)).alloc (.cells V 40)).drew = W := ⟨_, rfl⟩
  rw [hW] at nA nB bW
  have HV := Lib.hid hV
  have HW := Lib.hid hW
  have HN := Lib.hid h
  have NA := Lib.hid nA
  have NBB := Lib.hid nB
  have BW := Lib.hid bW
  clear hm n0 nA nB bW hV hW h
  go_enter Tryz.func115, Tryz.ntmps115
  go_wp2_with fail
  go_region
  rw [HW.out]
  clear hl1d hl2d hstd hz hZ1 hZ2
  go_wp2_with fail
  go_ret
  exact ⟨rfl, BW.out⟩

end Go.Proofs.YtcgmmfcphfkdhaaGreat
