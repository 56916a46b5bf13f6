/- The abstract machine, part GrN4a. -/
import Derived.Test.YtcgmmfcphfkdhaaGreatGrN4
/- Walks: the content of a note of the kind 1. -/
namespace Go.Proofs.YtcgmmfcphfkdhaaGreat
open Go Go.RowKit Go.Proofs

set_option maxRecDepth 100000 in
set_option maxHeartbeats 4000000 in
theorem content115_1 (x : Nv) (w : World) (h : NV w x) :
    Calls Tryz.prog 115 #[.agg x.arr, .int .i64 1] w fun e w' => Say e ((x.N.D.length = 1 ∧ Dat x.N.D) ∧ blN { x.N with D := [] } = true) ∧ Below w.heap.size w w' := by
  obtain ⟨RR, hRR⟩ : ∃ RR : Prop, ((x.N.D.length = 1 ∧ Dat x.N.D) ∧ blN { x.N with D := [] } = true) = RR := ⟨_, rfl⟩
  rw [hRR]
  have HRR := Lib.hid (Iff.of_eq hRR)
  clear hRR
  obtain ⟨m, hm, ⟨hm0, hm1, hm2⟩, hs40⟩ := m40.out
  obtain ⟨FS, hu40, fs0, fs1, fs2, fs3, fs4, fs5, fs6, fs7, fs8, fs9, fs10, fs11, fs12, fs13, fs14, fs15⟩ := f40.out
  obtain ⟨Z, hz, hZ1, hZ2⟩ := z40.out
  have n0 := NB.new w x.arr 40
  have hl1d : (loadCellsFrom ⟨w.heap.size, 0, none⟩ 0 m #[]).run Tryz.prog (w.alloc (.cells x.arr 40)).drew = .ok x.arr (w.alloc (.cells x.arr 40)).drew := NB.load (w := (w.alloc (.cells x.arr 40)).drew) (V := x.arr) (t := 40) n0 ((arr_size x).trans hm)
  have hl2d : (loadCellsFrom ⟨w.heap.size, 0, none⟩ 0 m #[]).run Tryz.prog ((w.alloc (.cells x.arr 40)).alloc (.cells Z 40)).drew = .ok x.arr ((w.alloc (.cells x.arr 40)).alloc (.cells Z 40)).drew := NB.load (w := ((w.alloc (.cells x.arr 40)).alloc (.cells Z 40)).drew) (V := x.arr) (t := 40) (n0.alloc (.cells Z 40)) ((arr_size x).trans hm)
  have hstd : (storeCells ⟨w.heap.size + 1, 0, none⟩ x.arr.toList 0).run Tryz.prog ((w.alloc (.cells x.arr 40)).alloc (.cells Z 40)).drew = .ok () ((w.alloc (.cells x.arr 40)).alloc (.cells x.arr 40)).drew := by
    have := run_storeCells_new (P := Tryz.prog) (w.alloc (.cells x.arr 40)).drew 40 Z x.arr (by rw [arr_size]; kernel_rfl) (by rw [hZ1, arr_size]) h.one
    rw [show (w.alloc (.cells x.arr 40)).drew.heap.size = w.heap.size + 1 from World.size_alloc _ _] at this
    exact this
  have hsz : x.arr.size = m := (arr_size x).trans hm
  have HM := Lib.hid hm
  have nA : NB ((w.alloc (.cells x.arr 40)).alloc (.cells x.arr 40)).drew w.heap.size x.arr 40 := n0.alloc _
  have nB : NB ((w.alloc (.cells x.arr 40)).alloc (.cells x.arr 40)).drew (w.heap.size + 1) x.arr 40 := nb1 w (.cells x.arr 40) x.arr 40
  have bW : Below w.heap.size w ((w.alloc (.cells x.arr 40)).alloc (.cells x.arr 40)).drew := by
    have bb : Below w.heap.size w ((w.alloc (.cells x.arr 40)).alloc (.cells x.arr 40)) := ((Below.refl _ _).alloc (Nat.le_refl _) _).alloc (by simp) _
    exact ⟨bb.os, bb.tape, bb.output, bb.size, bb.block⟩
  obtain ⟨V, hV⟩ : ∃ V, x.arr = V := ⟨_, rfl⟩
  rw [hV] at n0 hl1d hl2d hstd hsz nA nB bW ⊢
  obtain ⟨W, hW⟩ : ∃ W, ((w.alloc (.cells V 40)).alloc (.cells V 40)).drew = W := ⟨_, rfl⟩
  rw [hW] at nA nB bW
  have HV := Lib.hid hV
  have HW := Lib.hid hW
  have HN := Lib.hid h
  have NA := Lib.hid nA
  have NBB := Lib.hid nB
  have BW := Lib.hid bW
  clear hm n0 nA nB bW hV hW h
  have CD := fun hl => data184 x.uD x.N.D hl W (HN.out.D.keep BW.out)
  obtain ⟨aD, cD, eD, -⟩ := HN.out.D
  rw [eD] at CD
  have c16 := NA.out.c (k := 16) (v := .slice aD x.N.D.length cD) (by rw [← HV.out, ← eD]; rfl)
  clear eD
  by_cases hn : x.N.D.length = 1
  · have C := CD (by omega)
    have j1 : (x.N.D.length : Int) = 1 := by omega
    by_cases hd : Dat x.N.D
    · replace C := C.mono fun e w' h => And.intro (say_t h.1 hd) h.2
      have HD := Lib.hid (And.intro hn hd)
      clear hd hn CD
      generalize x.N.D.length = nD at *
      go_enter Tryz.func115, Tryz.ntmps115
      go_wp2_with fail
      go_region
      rw [HW.out]
      clear hl1d hl2d hstd hz hZ1 hZ2
      go_wp2_with fail
      refine C.mono ?_
      rintro e w1 ⟨rfl, hb⟩
      have t16 := (NBB.out.keep hb).c (k := 16) (v := x.uD) (by rw [← HV.out]; rfl)
      have t16f := (NBB.out.keep hb).f 16
      obtain ⟨x', hx'⟩ : ∃ x' : Nv, ({ x with N := { x.N with D := [] }, uD := .slice none 0 0 } : Nv) = x' := ⟨_, rfl⟩
      have hb3 := (below_set (BW.out.trans ((hb).mono BW.out.size)) (Nat.le_succ _) 16 (.slice none 0 0))
      have hl3 := NB.load (m := m) (V := x'.arr) (t := 40) (by rw [← hx']; have := ((NBB.out.keep (hb)).set 16 (.slice none 0 0)); rw [← HV.out] at this; exact this) ((arr_size x').trans HM.out)
      have CB := blank116 x' (w1.setCell ⟨w.heap.size + 1, 16, none⟩ (.slice none 0 0)) (by rw [← hx']; exact ⟨HN.out.P.keep hb3, HN.out.Q.keep hb3, slp_nil _, ⟨HN.out.X.P.keep hb3, HN.out.X.C.keep hb3, HN.out.X.S.keep hb3⟩⟩)
      have HE : Hid (blN x'.N = true ↔ (RR)) := Lib.hid (by rw [← hx']; exact ⟨fun k => HRR.out.1 ⟨HD.out, k⟩, fun k => (HRR.out.2 k).2⟩)
      have HB3 := Lib.hid hb3
      clear hb3 hx'
      generalize x'.arr = V' at *
      generalize blN x'.N = bl at *
      clear hb C
      go_wp2_with fail
      refine CB.mono ?_
      rintro e w9 ⟨rfl, hb9⟩
      have HB9 := Lib.hid (HB3.out.trans (hb9.mono HB3.out.size))
      clear hb9 CB hl3
      go_wp2_with fail
      go_ret
      exact ⟨say_is HE.out, HB9.out⟩
    · replace C := C.mono fun e w' h => And.intro (say_f h.1 hd) h.2
      have HF := Lib.hid (fun k : x.N.D.length = 1 ∧ Dat x.N.D => hd k.2)
      clear hd hn CD
      generalize x.N.D.length = nD at *
      go_enter Tryz.func115, Tryz.ntmps115
      go_wp2_with fail
      go_region
      rw [HW.out]
      clear hl1d hl2d hstd hz hZ1 hZ2
      go_wp2_with fail
      refine C.mono ?_
      rintro e w1 ⟨rfl, hb⟩
      have t16 := (NBB.out.keep hb).c (k := 16) (v := x.uD) (by rw [← HV.out]; rfl)
      have t16f := (NBB.out.keep hb).f 16
      have HB := Lib.hid (below_set (BW.out.trans (hb.mono BW.out.size)) (Nat.le_succ _) 16 (.slice none 0 0))
      clear hb C
      go_wp2_with fail
      go_ret
      exact ⟨say_no (fun k => HF.out (HRR.out.2 k).1), HB.out⟩
  · have j1 : ¬ (x.N.D.length : Int) = 1 := by omega
    have HF := Lib.hid (fun k : x.N.D.length = 1 ∧ Dat x.N.D => hn k.1)
    clear hn CD
    have t16 := NBB.out.c (k := 16) (v := x.uD) (by rw [← HV.out]; rfl)
    have t16f := NBB.out.f 16
    generalize x.N.D.length = nD at *
    go_enter Tryz.func115, Tryz.ntmps115
    go_wp2_with fail
    go_region
    rw [HW.out]
    clear hl1d hl2d hstd hz hZ1 hZ2
    have HB := Lib.hid (below_set BW.out (Nat.le_succ _) 16 (.slice none 0 0))
    go_wp2_with fail
    go_ret
    exact ⟨say_no (fun k => HF.out (HRR.out.2 k).1), HB.out⟩

end Go.Proofs.YtcgmmfcphfkdhaaGreat

/- Walks: the content of a note of the kind 2. -/
namespace Go.Proofs.YtcgmmfcphfkdhaaGreat
open Go Go.RowKit Go.Proofs

set_option maxRecDepth 100000 in
set_option maxHeartbeats 4000000 in
theorem content115_2 (x : Nv) (w : World) (h : NV w x) :
    Calls Tryz.prog 115 #[.agg x.arr, .int .i64 2] w fun e w' => Say e (vRc x.N.X = true ∧ blN { x.N with X := It0 } = true) ∧ Below w.heap.size w w' := by
  obtain ⟨RR, hRR⟩ : ∃ RR : Prop, (vRc x.N.X = true ∧ blN { x.N with X := It0 } = true) = RR := ⟨_, rfl⟩
  rw [hRR]
  have HRR := Lib.hid (Iff.of_eq hRR)
  clear hRR
  obtain ⟨m, hm, ⟨hm0, hm1, hm2⟩, hs40⟩ := m40.out
  obtain ⟨FS, hu40, fs0, fs1, fs2, fs3, fs4, fs5, fs6, fs7, fs8, fs9, fs10, fs11, fs12, fs13, fs14, fs15⟩ := f40.out
  obtain ⟨Z, hz, hZ1, hZ2⟩ := z40.out
  have n0 := NB.new w x.arr 40
  have hl1d : (loadCellsFrom ⟨w.heap.size, 0, none⟩ 0 m #[]).run Tryz.prog (w.alloc (.cells x.arr 40)).drew = .ok x.arr (w.alloc (.cells x.arr 40)).drew := NB.load (w := (w.alloc (.cells x.arr 40)).drew) (V := x.arr) (t := 40) n0 ((arr_size x).trans hm)
  have hl2d : (loadCellsFrom ⟨w.heap.size, 0, none⟩ 0 m #[]).run Tryz.prog ((w.alloc (.cells x.arr 40)).alloc (.cells Z 40)).drew = .ok x.arr ((w.alloc (.cells x.arr 40)).alloc (.cells Z 40)).drew := NB.load (w := ((w.alloc (.cells x.arr 40)).alloc (.cells Z 40)).drew) (V := x.arr) (t := 40) (n0.alloc (.cells Z 40)) ((arr_size x).trans hm)
  have hstd : (storeCells ⟨w.heap.size + 1, 0, none⟩ x.arr.toList 0).run Tryz.prog ((w.alloc (.cells x.arr 40)).alloc (.cells Z 40)).drew = .ok () ((w.alloc (.cells x.arr 40)).alloc (.cells x.arr 40)).drew := by
    have := run_storeCells_new (P := Tryz.prog) (w.alloc (.cells x.arr 40)).drew 40 Z x.arr (by rw [arr_size]; kernel_rfl) (by rw [hZ1, arr_size]) h.one
    rw [show (w.alloc (.cells x.arr 40)).drew.heap.size = w.heap.size + 1 from World.size_alloc _ _] at this
    exact this
  have hsz : x.arr.size = m := (arr_size x).trans hm
  have HM := Lib.hid hm
  have nA : NB ((w.alloc (.cells x.arr 40)).alloc (.cells x.arr 40)).drew w.heap.size x.arr 40 := n0.alloc _
  have nB : NB ((w.alloc (.cells x.arr 40)).alloc (.cells x.arr 40)).drew (w.heap.size + 1) x.arr 40 := nb1 w (.cells x.arr 40) x.arr 40
  have bW : Below w.heap.size w ((w.alloc (.cells x.arr 40)).alloc (.cells x.arr 40)).drew := by
    have bb : Below w.heap.size w ((w.alloc (.cells x.arr 40)).alloc (.cells x.arr 40)) := ((Below.refl _ _).alloc (Nat.le_refl _) _).alloc (by simp) _
    exact ⟨bb.os, bb.tape, bb.output, bb.size, bb.block⟩
  obtain ⟨V, hV⟩ : ∃ V, x.arr = V := ⟨_, rfl⟩
  rw [hV] at n0 hl1d hl2d hstd hsz nA nB bW ⊢
  obtain ⟨W, hW⟩ : ∃ W, ((w.alloc (.cells V 40)).alloc (.cells V 40)).drew = W := ⟨_, rfl⟩
  rw [hW] at nA nB bW
  have HV := Lib.hid hV
  have HW := Lib.hid hW
  have HN := Lib.hid h
  have NA := Lib.hid nA
  have NBB := Lib.hid nB
  have BW := Lib.hid bW
  clear hm n0 nA nB bW hV hW h
  obtain ⟨m', hm', ⟨hm0', hm1', hm2'⟩, hs38⟩ := m38.out
  have hz38 : ∀ w, (zeroValue 38).run Tryz.prog w = .ok (.agg z12) w := Tryz.zeroValue38
  have hz12 : z12.size = m' := hm'
  have C := record185 x W (HN.out.X.keep BW.out)
  have lX : (loadCellsFrom ⟨w.heap.size, 17, none⟩ 0 m' #[]).run Tryz.prog W = .ok x.itm W := NB.loadX (x := x) (t := 40) (by rw [HV.out]; exact NA.out) hm'
  clear hm'
  obtain ⟨p, hp⟩ : ∃ p, vRc x.N.X = p := ⟨_, rfl⟩
  rw [hp] at C
  have S12 := Lib.hid (fun w1 (h : NB w1 (w.heap.size + 1) x.arr 40) => And.intro (store12 h) (set12 h))
  obtain ⟨Y, hY⟩ : ∃ Y, z12 = Y := ⟨_, rfl⟩
  rw [hY] at hz38 hz12 S12
  clear hY
  generalize x.itm = I at *
  cases p
  · have HF := Lib.hid (fun k : vRc x.N.X = true => show False from by rw [hp] at k; simp at k)
    clear hp
    go_enter Tryz.func115, Tryz.ntmps115
    go_wp2_with fail
    go_region
    rw [HW.out]
    clear hl1d hl2d hstd hz hZ1 hZ2
    go_wp2_with fail
    refine C.mono ?_
    rintro e w1 ⟨rfl, hb⟩
    obtain ⟨r1, n3⟩ := S12.out w1 (by rw [HV.out]; exact NBB.out.keep hb)
    have b3 := below_sets (BW.out.trans (hb.mono BW.out.size)) (Nat.le_succ w.heap.size) Y.toList 17
    obtain ⟨W3, hW3⟩ : ∃ W3, w1.setCells (w.heap.size + 1) 17 Y.toList = W3 := ⟨_, rfl⟩
    rw [hW3] at r1 n3 b3
    clear hW3
    have HB := Lib.hid b3
    clear n3 b3 hb C
    go_wp2_with fail
    go_ret
    exact ⟨say_no (fun k => HF.out (HRR.out.2 k).1), HB.out⟩
  · have HD := Lib.hid hp
    clear hp
    go_enter Tryz.func115, Tryz.ntmps115
    go_wp2_with fail
    go_region
    rw [HW.out]
    clear hl1d hl2d hstd hz hZ1 hZ2
    go_wp2_with fail
    refine C.mono ?_
    rintro e w1 ⟨rfl, hb⟩
    obtain ⟨r1, n3⟩ := S12.out w1 (by rw [HV.out]; exact NBB.out.keep hb)
    have b3 := below_sets (BW.out.trans (hb.mono BW.out.size)) (Nat.le_succ w.heap.size) Y.toList 17
    obtain ⟨W3, hW3⟩ : ∃ W3, w1.setCells (w.heap.size + 1) 17 Y.toList = W3 := ⟨_, rfl⟩
    rw [hW3] at r1 n3 b3
    clear hW3
    obtain ⟨x', hx'⟩ : ∃ x' : Nv, ({ x with N := { x.N with X := It0 }, iP := .slice none 0 0, iC := .slice none 0 0, iS := .slice none 0 0 } : Nv) = x' := ⟨_, rfl⟩
    have CB := blank116 x' W3 (by rw [← hx']; exact ⟨HN.out.P.keep b3, HN.out.Q.keep b3, HN.out.D.keep b3, ⟨sli_nil _, sli_nil _, sls_nil _⟩⟩)
    have HE : Hid (blN x'.N = true ↔ RR) := Lib.hid (by rw [← hx']; exact ⟨fun k => HRR.out.1 ⟨HD.out, k⟩, fun k => (HRR.out.2 k).2⟩)
    rw [hx'] at n3
    have hl3 := n3.load (m := m) ((arr_size x').trans HM.out)
    have HB3 := Lib.hid b3
    clear b3 hx' n3 hb C
    generalize x'.arr = V' at *
    generalize blN x'.N = bl at *
    go_wp2_with fail
    refine CB.mono ?_
    rintro e w9 ⟨rfl, hb9⟩
    have HB9 := Lib.hid (HB3.out.trans (hb9.mono HB3.out.size))
    clear hb9 CB hl3
    go_wp2_with fail
    go_ret
    exact ⟨say_is HE.out, HB9.out⟩

end Go.Proofs.YtcgmmfcphfkdhaaGreat

/- Walks: the content of a note of the kind 3. -/
namespace Go.Proofs.YtcgmmfcphfkdhaaGreat
open Go Go.RowKit Go.Proofs

set_option maxRecDepth 100000 in
set_option maxHeartbeats 4000000 in
theorem content115_3 (x : Nv) (w : World) (h : NV w x) :
    Calls Tryz.prog 115 #[.agg x.arr, .int .i64 3] w fun e w' => Say e ((0 < x.N.Q.length ∧ Ris x.N.Q 64) ∧ blN { x.N with Q := [] } = true) ∧ Below w.heap.size w w' := by
  obtain ⟨RR, hRR⟩ : ∃ RR : Prop, ((0 < x.N.Q.length ∧ Ris x.N.Q 64) ∧ blN { x.N with Q := [] } = true) = RR := ⟨_, rfl⟩
  rw [hRR]
  have HRR := Lib.hid (Iff.of_eq hRR)
  clear hRR
  obtain ⟨m, hm, ⟨hm0, hm1, hm2⟩, hs40⟩ := m40.out
  obtain ⟨FS, hu40, fs0, fs1, fs2, fs3, fs4, fs5, fs6, fs7, fs8, fs9, fs10, fs11, fs12, fs13, fs14, fs15⟩ := f40.out
  obtain ⟨Z, hz, hZ1, hZ2⟩ := z40.out
  have n0 := NB.new w x.arr 40
  have hl1d : (loadCellsFrom ⟨w.heap.size, 0, none⟩ 0 m #[]).run Tryz.prog (w.alloc (.cells x.arr 40)).drew = .ok x.arr (w.alloc (.cells x.arr 40)).drew := NB.load (w := (w.alloc (.cells x.arr 40)).drew) (V := x.arr) (t := 40) n0 ((arr_size x).trans hm)
  have hl2d : (loadCellsFrom ⟨w.heap.size, 0, none⟩ 0 m #[]).run Tryz.prog ((w.alloc (.cells x.arr 40)).alloc (.cells Z 40)).drew = .ok x.arr ((w.alloc (.cells x.arr 40)).alloc (.cells Z 40)).drew := NB.load (w := ((w.alloc (.cells x.arr 40)).alloc (.cells Z 40)).drew) (V := x.arr) (t := 40) (n0.alloc (.cells Z 40)) ((arr_size x).trans hm)
  have hstd : (storeCells ⟨w.heap.size + 1, 0, none⟩ x.arr.toList 0).run Tryz.prog ((w.alloc (.cells x.arr 40)).alloc (.cells Z 40)).drew = .ok () ((w.alloc (.cells x.arr 40)).alloc (.cells x.arr 40)).drew := by
    have := run_storeCells_new (P := Tryz.prog) (w.alloc (.cells x.arr 40)).drew 40 Z x.arr (by rw [arr_size]; kernel_rfl) (by rw [hZ1, arr_size]) h.one
    rw [show (w.alloc (.cells x.arr 40)).drew.heap.size = w.heap.size + 1 from World.size_alloc _ _] at this
    exact this
  have hsz : x.arr.size = m := (arr_size x).trans hm
  have HM := Lib.hid hm
  have nA : NB ((w.alloc (.cells x.arr 40)).alloc (.cells x.arr 40)).drew w.heap.size x.arr 40 := n0.alloc _
  have nB : NB ((w.alloc (.cells x.arr 40)).alloc (.cells x.arr 40)).drew (w.heap.size + 1) x.arr 40 := nb1 w (.cells x.arr 40) x.arr 40
  have bW : Below w.heap.size w ((w.alloc (.cells x.arr 40)).alloc (.cells x.arr 40)).drew := by
    have bb : Below w.heap.size w ((w.alloc (.cells x.arr 40)).alloc (.cells x.arr 40)) := ((Below.refl _ _).alloc (Nat.le_refl _) _).alloc (by simp) _
    exact ⟨bb.os, bb.tape, bb.output, bb.size, bb.block⟩
  obtain ⟨V, hV⟩ : ∃ V, x.arr = V := ⟨_, rfl⟩
  rw [hV] at n0 hl1d hl2d hstd hsz nA nB bW ⊢
  obtain ⟨W, hW⟩ : ∃ W, ((w.alloc (.cells V 40)).alloc (.cells V 40)).drew = W := ⟨_, rfl⟩
  rw [hW] at nA nB bW
  have HV := Lib.hid hV
  have HW := Lib.hid hW
  have HN := Lib.hid h
  have NA := Lib.hid nA
  have NBB := Lib.hid nB
  have BW := Lib.hid bW
  clear hm n0 nA nB bW hV hW h
  have C := rising186 x.uQ x.N.Q 64 (by omega) (by omega) W (HN.out.Q.keep BW.out)
  obtain ⟨aD, cD, eD, -⟩ := HN.out.Q
  rw [eD] at C
  have c15 := NA.out.c (k := 15) (v := .slice aD x.N.Q.length cD) (by rw [← HV.out, ← eD]; rfl)
  clear eD
  by_cases hn : 0 < x.N.Q.length
  · have j1 : (x.N.Q.length : Int) > 0 := by omega
    by_cases hd : Ris x.N.Q 64
    · replace C := C.mono fun e w' h => And.intro (say_t h.1 hd) h.2
      have HD := Lib.hid (And.intro hn hd)
      clear hd
      generalize x.N.Q.length = nD at *
      go_enter Tryz.func115, Tryz.ntmps115
      go_wp2_with fail
      go_region
      rw [HW.out]
      clear hl1d hl2d hstd hz hZ1 hZ2
      go_wp2_with fail
      refine C.mono ?_
      rintro e w1 ⟨rfl, hb⟩
      have t15 := (NBB.out.keep (hb)).c (k := 15) (v := x.uQ) (by rw [← HV.out]; rfl)
      have t15f := (NBB.out.keep (hb)).f 15
      obtain ⟨x', hx'⟩ : ∃ x' : Nv, ({ x with N := { x.N with Q := [] }, uQ := .slice none 0 0 } : Nv) = x' := ⟨_, rfl⟩
      have hb3 := (below_set (BW.out.trans ((hb).mono BW.out.size)) (Nat.le_succ _) 15 (.slice none 0 0))
      have hl3 := NB.load (m := m) (V := x'.arr) (t := 40) (by rw [← hx']; have := ((NBB.out.keep (hb)).set 15 (.slice none 0 0)); rw [← HV.out] at this; exact this) ((arr_size x').trans HM.out)
      have CB := blank116 x' (w1.setCell ⟨w.heap.size + 1, 15, none⟩ (.slice none 0 0)) (by rw [← hx']; exact ⟨HN.out.P.keep hb3, sli_nil _, HN.out.D.keep hb3, ⟨HN.out.X.P.keep hb3, HN.out.X.C.keep hb3, HN.out.X.S.keep hb3⟩⟩)
      have HE : Hid (blN x'.N = true ↔ (RR)) := Lib.hid (by rw [← hx']; exact ⟨fun k => HRR.out.1 ⟨HD.out, k⟩, fun k => (HRR.out.2 k).2⟩)
      have HB3 := Lib.hid hb3
      clear hb3 hx'
      generalize x'.arr = V' at *
      generalize blN x'.N = bl at *
      clear hb C
      go_wp2_with fail
      refine CB.mono ?_
      rintro e w9 ⟨rfl, hb9⟩
      have HB9 := Lib.hid (HB3.out.trans (hb9.mono HB3.out.size))
      clear hb9 CB hl3
      go_wp2_with fail
      go_ret
      exact ⟨say_is HE.out, HB9.out⟩
    · replace C := C.mono fun e w' h => And.intro (say_f h.1 hd) h.2
      have HF := Lib.hid (fun k : 0 < x.N.Q.length ∧ Ris x.N.Q 64 => hd k.2)
      clear hd
      generalize x.N.Q.length = nD at *
      go_enter Tryz.func115, Tryz.ntmps115
      go_wp2_with fail
      go_region
      rw [HW.out]
      clear hl1d hl2d hstd hz hZ1 hZ2
      go_wp2_with fail
      refine C.mono ?_
      rintro e w1 ⟨rfl, hb⟩
      have t15 := (NBB.out.keep (hb)).c (k := 15) (v := x.uQ) (by rw [← HV.out]; rfl)
      have t15f := (NBB.out.keep (hb)).f 15
      have HB := Lib.hid (below_set (BW.out.trans ((hb).mono BW.out.size)) (Nat.le_succ _) 15 (.slice none 0 0))
      clear hb C
      go_wp2_with fail
      go_ret
      exact ⟨say_no (fun k => HF.out (HRR.out.2 k).1), HB.out⟩
  · have HF := Lib.hid (fun k : 0 < x.N.Q.length ∧ Ris x.N.Q 64 => hn k.1)
    clear C
    have t15 := (NBB.out.keep (Below.refl W.heap.size W)).c (k := 15) (v := x.uQ) (by rw [← HV.out]; rfl)
    have t15f := (NBB.out.keep (Below.refl W.heap.size W)).f 15
    generalize x.N.Q.length = nD at *
    have d1 : decide ((nD : Int) > 0) = false := by simp; omega
    have d2 : decide (0 < nD) = false := by simp; omega
    clear hn
    go_enter Tryz.func115, Tryz.ntmps115
    go_wp2_with fail
    go_region
    rw [HW.out]
    clear hl1d hl2d hstd hz hZ1 hZ2
    have HB := Lib.hid (below_set (BW.out.trans ((Below.refl W.heap.size W).mono BW.out.size)) (Nat.le_succ _) 15 (.slice none 0 0))
    go_wp2_with fail
    go_ret
    exact ⟨say_no (fun k => HF.out (HRR.out.2 k).1), HB.out⟩

end Go.Proofs.YtcgmmfcphfkdhaaGreat
