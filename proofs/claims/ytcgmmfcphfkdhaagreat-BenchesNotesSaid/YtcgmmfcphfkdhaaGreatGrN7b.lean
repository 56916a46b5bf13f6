/- The abstract machine, part GrN7b. -/
import Derived.Test.YtcgmmfcphfkdhaaGreatNK
/- Walks: the reference's content, of the kind 6. -/
namespace Go.Proofs.YtcgmmfcphfkdhaaGreat
open Go Go.RowKit Go.Proofs

set_option maxRecDepth 100000 in
set_option maxHeartbeats 4000000 in
theorem content111_6 (x : Nv) (w : World) (h : NV w x) :
    Calls Tryz.prog 111 #[.agg x.arr, .int .i64 6] w fun e w' => Say e ((bar x).N = (us6 x).N ∧ (wi x.N.q 1 64 = true ∧ (sPc x.N = true ∨ sGl x.N = true))) ∧ Below w.heap.size w w' := by
  obtain ⟨RR, hRR⟩ : ∃ RR : Prop, ((bar x).N = (us6 x).N ∧ (wi x.N.q 1 64 = true ∧ (sPc x.N = true ∨ sGl x.N = true))) = RR := ⟨_, rfl⟩
  rw [hRR]
  have HRR := Lib.hid (Iff.of_eq hRR)
  clear hRR
  obtain ⟨m, hm, ⟨hm0, hm1, hm2⟩, hs40⟩ := m40.out
  obtain ⟨FS, hu40, fs0, fs1, fs2, fs3, fs4, fs5, fs6, fs7, fs8, fs9, fs10, fs11, fs12, fs13, fs14, fs15⟩ := f40.out
  obtain ⟨Z, hz, hZ1, hZ2⟩ := z40.out
  have n0 := NB.new w x.arr 40
  have b0 : Below w.heap.size w (w.alloc (.cells x.arr 40)) := (Below.refl _ _).alloc (Nat.le_refl _) _
  have l0 := n0.load (m := m) ((arr_size x).trans hm)
  have s0 : (storeCells ⟨w.heap.size + 1, 0, none⟩ x.arr.toList 0).run Tryz.prog ((w.alloc (.cells x.arr 40)).alloc (.cells Z 40)) = .ok () ((w.alloc (.cells x.arr 40)).alloc (.cells x.arr 40)) := by
    have := run_storeCells_new (P := Tryz.prog) (w.alloc (.cells x.arr 40)) 40 Z x.arr (by rw [arr_size]; kernel_rfl) (by rw [hZ1, arr_size]) h.one
    rwa [World.size_alloc] at this
  have l00 := (n0.alloc (.cells Z 40)).load (m := m) ((arr_size x).trans hm)
  have hsz : x.arr.size = m := (arr_size x).trans hm
  have bW := b0.alloc b0.size (.cells (bset x.arr) 40)
  have nA := n0.alloc (.cells (bset x.arr) 40)
  have nB := nb1 w (.cells x.arr 40) (bset x.arr) 40
  obtain ⟨W, hW⟩ : ∃ W, (w.alloc (.cells x.arr 40)).alloc (.cells (bset x.arr) 40) = W := ⟨_, rfl⟩
  rw [hW] at bW nA nB
  rw [bar_arr x] at nB
  have v0 : x.arr[0]? = some (.int .i64 x.N.b) := rfl
  have v1 : x.arr[1]? = some (.int .i64 x.N.n) := rfl
  have v2 : x.arr[2]? = some (.int .i64 x.N.c) := rfl
  have v3 : x.arr[3]? = some (.int .i64 x.N.y) := rfl
  have v4 : x.arr[4]? = some (.int .i64 x.N.k) := rfl
  have v5 : x.arr[5]? = some (.int .i64 x.N.f) := rfl
  have L2 := fun z : Grow W => (nA.keep z.b).load (m := m) ((arr_size x).trans hm)
  have L5 := fun z : Grow W => (nB.keep z.b).load (m := m) ((arr_size (bar x)).trans hm)
  have C1 := fun z : Grow W => used179_6 x z.w ((h.keep bW).keep z.b)
  have C2 := Lib.hid (fun z : Grow W => sameNote_any (bar x) (us6 x) z.w (bar_nv ((h.keep bW).keep z.b)) (us6_nv ((h.keep bW).keep z.b)))
  have C2' := C2
  have NA := Lib.hid nA
  have HH := Lib.hid h
  have BW := Lib.hid bW
  have HM := Lib.hid hm
  obtain ⟨V, hV⟩ : ∃ V, x.arr = V := ⟨_, rfl⟩
  rw [hV] at NA
  have HV := Lib.hid hV
  rw [hV] at l0 s0 l00 hsz hW L2 C1 v0 v1 v2 v3 v4 v5 ⊢
  have HW := Lib.hid hW
  clear hV n0 b0 nA nB bW h hm hW C2'
  generalize hUa : (bar x).arr = U at *
  generalize hUb : (us6 x).arr = T at *
  clear hUa hUb
  have HL2 := Lib.hid L2
  have HL5 := Lib.hid L5
  have HC1 := Lib.hid C1
  clear L2 L5 C1
  generalize x.N.b = gb at v0
  generalize x.N.n = gn at v1
  generalize x.N.c = gc at v2
  generalize x.N.y = gy at v3
  generalize x.N.k = gk at v4
  generalize x.N.f = gf at v5
  by_cases hE : (bar x).N = (us6 x).N
  · have HC2 := Lib.hid (fun z : Grow W => (C2.out z).mono fun e w' (h : Say e _ ∧ _) => And.intro (say_t h.1 hE) h.2)
    clear C2
    have HE := Lib.hid hE
    clear hE
    go_enter Tryz.func111, Tryz.ntmps111
    go_wp2_with fail
    rw [HW.out]
    have L2 := HL2.out
    have L5 := HL5.out
    have C1 := HC1.out
    have C2 := HC2.out
    clear HL2 HL5 HC1 HC2 v0 v1 v2 v3 v4 v5 l0 s0 l00 hz
    refine wp_region_grow (by kernel_rfl) (by kernel_rfl) ?_
    repeat (go_big_quiet_step (first | (go_at_call 179; with_reducible exact calls_grow (C1 _)) | (go_at_call 23; with_reducible exact calls_grow (C2 _))))
    refine wpQuiet_nil ?_
    rintro w2 ⟨z, rfl⟩
    have NA2 := Lib.hid (NA.out.keep z.b)
    have B2 := Lib.hid (BW.out.trans (z.b.mono BW.out.size))
    clear L2 L5 C1 C2 hZ1 hZ2 NA BW HW
    generalize z.w = w2 at *
    clear z
    have c7 := NA2.out.c (k := 7) (v := .int .i64 x.N.q) (by rw [← HV.out]; rfl)
    have c6 := NA2.out.c (k := 6) (v := .int .i64 x.N.p) (by rw [← HV.out]; rfl)
    go_upto_region 5 with fail
    go_cut [6] from 23 to 30 (fun a wx => a = .bool (wi x.N.q 1 64) ∧ wx = w2)
    case first =>
      go_wp2_with fail
      all_goals (go_meet; exact ⟨congrArg Value.bool (by unfold wi; first | (simp; omega) | (simp [*]; done)), rfl⟩)
    case rest =>
      obtain ⟨rfl, rfl⟩ := hcut
      clear c7
      go_upto_region 6 with fail
      go_cut [7] from 31 to 38 (fun a wx => a = .bool (wi x.N.p 1 65535) ∧ wx = wc)
      case first =>
        go_wp2_with fail
        all_goals (go_meet; exact ⟨congrArg Value.bool (by unfold wi; first | (simp; omega) | (simp [*]; done)), rfl⟩)
      case rest =>
        obtain ⟨rfl, rfl⟩ := hcut
        clear c6
        have c6 := NA2.out.c (k := 6) (v := .int .i64 x.N.p) (by rw [← HV.out]; rfl)
        have c8 := NA2.out.c (k := 8) (v := .int .i64 x.N.o) (by rw [← HV.out]; rfl)
        have c10 := NA2.out.c (k := 10) (v := .int .i64 x.N.sh) (by rw [← HV.out]; rfl)
        have c11 := NA2.out.c (k := 11) (v := .bool x.N.bk) (by rw [← HV.out]; rfl)
        obtain ⟨b7, h7⟩ : ∃ b, wi x.N.p 1 65535 = b := ⟨_, rfl⟩
        rw [h7]
        have H7 := Lib.hid h7
        clear h7
        obtain ⟨b6, h6⟩ : ∃ b, wi x.N.q 1 64 = b := ⟨_, rfl⟩
        rw [h6]
        have H6 := Lib.hid h6
        clear h6
        go_upto_region 19 with fail
        go_cut [8] from 101 to 119 (fun a wx => a = .bool (sGl x.N) ∧ wx = wc)
        case first =>
          obtain ⟨bk, hbk⟩ : ∃ b, x.N.bk = b := ⟨_, rfl⟩
          rw [hbk] at c11
          have HBK := Lib.hid hbk
          clear hbk
          cases bk
          all_goals go_wp2_with fail
          all_goals (go_meet; exact ⟨congrArg Value.bool (by unfold sGl wi; rw [HBK.out]; first | (simp [*]; done) | (simp [*]; omega)), rfl⟩)
        case rest =>
          obtain ⟨rfl, rfl⟩ := hcut
          clear c6 c11
          go_upto_region 20 with fail
          go_cut [9] from 120 to 137 (fun a wx => a = .bool (sPc x.N) ∧ wx = wc)
          case first =>
            cases b7
            all_goals go_wp2_with fail
            all_goals (go_meet; exact ⟨congrArg Value.bool (by unfold sPc; rw [H7.out]; unfold wi; first | rfl | (simp [*]; done) | (simp [*]; omega)), rfl⟩)
          case rest =>
            obtain ⟨rfl, rfl⟩ := hcut
            clear c8 c10
            generalize sGl x.N = sg at *
            generalize sPc x.N = sp at *
            have h6 := H6.out
            rw [h6] at HRR
            clear h6
            cases b6 <;> cases sg <;> cases sp
            all_goals go_wp2_with fail
            all_goals go_ret
            all_goals first
              | exact ⟨say_yes (HRR.out.1 ⟨HE.out, by simp⟩), B2.out⟩
              | exact ⟨say_no (fun k => by have := (HRR.out.2 k).2; simp at this), B2.out⟩
  · have HC2 := Lib.hid (fun z : Grow W => (C2.out z).mono fun e w' (h : Say e _ ∧ _) => And.intro (say_f h.1 hE) h.2)
    clear C2
    have HE := Lib.hid hE
    clear hE
    go_enter Tryz.func111, Tryz.ntmps111
    go_wp2_with fail
    rw [HW.out]
    have L2 := HL2.out
    have L5 := HL5.out
    have C1 := HC1.out
    have C2 := HC2.out
    clear HL2 HL5 HC1 HC2 v0 v1 v2 v3 v4 v5 l0 s0 l00 hz
    refine wp_region_grow (by kernel_rfl) (by kernel_rfl) ?_
    repeat (go_big_quiet_step (first | (go_at_call 179; with_reducible exact calls_grow (C1 _)) | (go_at_call 23; with_reducible exact calls_grow (C2 _))))
    refine wpQuiet_nil ?_
    rintro w2 ⟨z, rfl⟩
    have B2 := Lib.hid (BW.out.trans (z.b.mono BW.out.size))
    clear L2 L5 C1 C2 hZ1 hZ2 NA BW HW
    generalize z.w = w2 at *
    clear z
    go_wp2_with fail
    go_ret
    exact ⟨say_no (fun k => HE.out (HRR.out.2 k).1), B2.out⟩

end Go.Proofs.YtcgmmfcphfkdhaaGreat

/- Walks: the reference's content, of the kind 7. -/
namespace Go.Proofs.YtcgmmfcphfkdhaaGreat
open Go Go.RowKit Go.Proofs

set_option maxRecDepth 100000 in
set_option maxHeartbeats 4000000 in
theorem content111_7 (x : Nv) (w : World) (h : NV w x) :
    Calls Tryz.prog 111 #[.agg x.arr, .int .i64 7] w fun e w' => Say e ((bar x).N = (us7 x).N ∧ wi x.N.q 1 64 = true) ∧ Below w.heap.size w w' := by
  obtain ⟨RR, hRR⟩ : ∃ RR : Prop, ((bar x).N = (us7 x).N ∧ wi x.N.q 1 64 = true) = RR := ⟨_, rfl⟩
  rw [hRR]
  have HRR := Lib.hid (Iff.of_eq hRR)
  clear hRR
  obtain ⟨m, hm, ⟨hm0, hm1, hm2⟩, hs40⟩ := m40.out
  obtain ⟨FS, hu40, fs0, fs1, fs2, fs3, fs4, fs5, fs6, fs7, fs8, fs9, fs10, fs11, fs12, fs13, fs14, fs15⟩ := f40.out
  obtain ⟨Z, hz, hZ1, hZ2⟩ := z40.out
  have n0 := NB.new w x.arr 40
  have b0 : Below w.heap.size w (w.alloc (.cells x.arr 40)) := (Below.refl _ _).alloc (Nat.le_refl _) _
  have l0 := n0.load (m := m) ((arr_size x).trans hm)
  have s0 : (storeCells ⟨w.heap.size + 1, 0, none⟩ x.arr.toList 0).run Tryz.prog ((w.alloc (.cells x.arr 40)).alloc (.cells Z 40)) = .ok () ((w.alloc (.cells x.arr 40)).alloc (.cells x.arr 40)) := by
    have := run_storeCells_new (P := Tryz.prog) (w.alloc (.cells x.arr 40)) 40 Z x.arr (by rw [arr_size]; kernel_rfl) (by rw [hZ1, arr_size]) h.one
    rwa [World.size_alloc] at this
  have l00 := (n0.alloc (.cells Z 40)).load (m := m) ((arr_size x).trans hm)
  have hsz : x.arr.size = m := (arr_size x).trans hm
  have bW := b0.alloc b0.size (.cells (bset x.arr) 40)
  have nA := n0.alloc (.cells (bset x.arr) 40)
  have nB := nb1 w (.cells x.arr 40) (bset x.arr) 40
  obtain ⟨W, hW⟩ : ∃ W, (w.alloc (.cells x.arr 40)).alloc (.cells (bset x.arr) 40) = W := ⟨_, rfl⟩
  rw [hW] at bW nA nB
  rw [bar_arr x] at nB
  have v0 : x.arr[0]? = some (.int .i64 x.N.b) := rfl
  have v1 : x.arr[1]? = some (.int .i64 x.N.n) := rfl
  have v2 : x.arr[2]? = some (.int .i64 x.N.c) := rfl
  have v3 : x.arr[3]? = some (.int .i64 x.N.y) := rfl
  have v4 : x.arr[4]? = some (.int .i64 x.N.k) := rfl
  have v5 : x.arr[5]? = some (.int .i64 x.N.f) := rfl
  have L2 := fun z : Grow W => (nA.keep z.b).load (m := m) ((arr_size x).trans hm)
  have L5 := fun z : Grow W => (nB.keep z.b).load (m := m) ((arr_size (bar x)).trans hm)
  have C1 := fun z : Grow W => used179_7 x z.w ((h.keep bW).keep z.b)
  have C2 := Lib.hid (fun z : Grow W => sameNote_any (bar x) (us7 x) z.w (bar_nv ((h.keep bW).keep z.b)) (us7_nv ((h.keep bW).keep z.b)))
  have C2' := C2
  have NA := Lib.hid nA
  have HH := Lib.hid h
  have BW := Lib.hid bW
  have HM := Lib.hid hm
  obtain ⟨V, hV⟩ : ∃ V, x.arr = V := ⟨_, rfl⟩
  rw [hV] at NA
  have HV := Lib.hid hV
  rw [hV] at l0 s0 l00 hsz hW L2 C1 v0 v1 v2 v3 v4 v5 ⊢
  have HW := Lib.hid hW
  clear hV n0 b0 nA nB bW h hm hW C2'
  generalize hUa : (bar x).arr = U at *
  generalize hUb : (us7 x).arr = T at *
  clear hUa hUb
  have HL2 := Lib.hid L2
  have HL5 := Lib.hid L5
  have HC1 := Lib.hid C1
  clear L2 L5 C1
  generalize x.N.b = gb at v0
  generalize x.N.n = gn at v1
  generalize x.N.c = gc at v2
  generalize x.N.y = gy at v3
  generalize x.N.k = gk at v4
  generalize x.N.f = gf at v5
  by_cases hE : (bar x).N = (us7 x).N
  · have HC2 := Lib.hid (fun z : Grow W => (C2.out z).mono fun e w' (h : Say e _ ∧ _) => And.intro (say_t h.1 hE) h.2)
    clear C2
    have HE := Lib.hid hE
    clear hE
    go_enter Tryz.func111, Tryz.ntmps111
    go_wp2_with fail
    rw [HW.out]
    have L2 := HL2.out
    have L5 := HL5.out
    have C1 := HC1.out
    have C2 := HC2.out
    clear HL2 HL5 HC1 HC2 v0 v1 v2 v3 v4 v5 l0 s0 l00 hz
    refine wp_region_grow (by kernel_rfl) (by kernel_rfl) ?_
    repeat (go_big_quiet_step (first | (go_at_call 179; with_reducible exact calls_grow (C1 _)) | (go_at_call 23; with_reducible exact calls_grow (C2 _))))
    refine wpQuiet_nil ?_
    rintro w2 ⟨z, rfl⟩
    have NA2 := Lib.hid (NA.out.keep z.b)
    have B2 := Lib.hid (BW.out.trans (z.b.mono BW.out.size))
    clear L2 L5 C1 C2 hZ1 hZ2 NA BW HW
    generalize z.w = w2 at *
    clear z
    have c7 := NA2.out.c (k := 7) (v := .int .i64 x.N.q) (by rw [← HV.out]; rfl)
    have c6 := NA2.out.c (k := 6) (v := .int .i64 x.N.p) (by rw [← HV.out]; rfl)
    go_upto_region 5 with fail
    go_cut [6] from 23 to 30 (fun a wx => a = .bool (wi x.N.q 1 64) ∧ wx = w2)
    case first =>
      go_wp2_with fail
      all_goals (go_meet; exact ⟨congrArg Value.bool (by unfold wi; first | (simp; omega) | (simp [*]; done)), rfl⟩)
    case rest =>
      obtain ⟨rfl, rfl⟩ := hcut
      clear c7
      go_upto_region 6 with fail
      go_cut [7] from 31 to 38 (fun a wx => a = .bool (wi x.N.p 1 65535) ∧ wx = wc)
      case first =>
        go_wp2_with fail
        all_goals (go_meet; exact ⟨congrArg Value.bool (by unfold wi; first | (simp; omega) | (simp [*]; done)), rfl⟩)
      case rest =>
        obtain ⟨rfl, rfl⟩ := hcut
        clear c6
        generalize wi x.N.q 1 64 = p at *
        go_wp2_with fail
        go_ret
        exact ⟨say_is ⟨fun k => HRR.out.1 ⟨HE.out, k⟩, fun k => (HRR.out.2 k).2⟩, B2.out⟩
  · have HC2 := Lib.hid (fun z : Grow W => (C2.out z).mono fun e w' (h : Say e _ ∧ _) => And.intro (say_f h.1 hE) h.2)
    clear C2
    have HE := Lib.hid hE
    clear hE
    go_enter Tryz.func111, Tryz.ntmps111
    go_wp2_with fail
    rw [HW.out]
    have L2 := HL2.out
    have L5 := HL5.out
    have C1 := HC1.out
    have C2 := HC2.out
    clear HL2 HL5 HC1 HC2 v0 v1 v2 v3 v4 v5 l0 s0 l00 hz
    refine wp_region_grow (by kernel_rfl) (by kernel_rfl) ?_
    repeat (go_big_quiet_step (first | (go_at_call 179; with_reducible exact calls_grow (C1 _)) | (go_at_call 23; with_reducible exact calls_grow (C2 _))))
    refine wpQuiet_nil ?_
    rintro w2 ⟨z, rfl⟩
    have B2 := Lib.hid (BW.out.trans (z.b.mono BW.out.size))
    clear L2 L5 C1 C2 hZ1 hZ2 NA BW HW
    generalize z.w = w2 at *
    clear z
    go_wp2_with fail
    go_ret
    exact ⟨say_no (fun k => HE.out (HRR.out.2 k).1), B2.out⟩

end Go.Proofs.YtcgmmfcphfkdhaaGreat

/- Walks: the reference's content, of the kind 8. -/
namespace Go.Proofs.YtcgmmfcphfkdhaaGreat
open Go Go.RowKit Go.Proofs

set_option maxRecDepth 100000 in
set_option maxHeartbeats 4000000 in
theorem content111_8 (x : Nv) (w : World) (h : NV w x) :
    Calls Tryz.prog 111 #[.agg x.arr, .int .i64 8] w fun e w' => Say e ((bar x).N = (us8 x).N ∧ ((wi x.N.p 1 65535 = true ∧ wi (x.N.D.length : Int) 1 4 = true) ∧ Dat x.N.D)) ∧ Below w.heap.size w w' := by
  obtain ⟨RR, hRR⟩ : ∃ RR : Prop, ((bar x).N = (us8 x).N ∧ ((wi x.N.p 1 65535 = true ∧ wi (x.N.D.length : Int) 1 4 = true) ∧ Dat x.N.D)) = RR := ⟨_, rfl⟩
  rw [hRR]
  have HRR := Lib.hid (Iff.of_eq hRR)
  clear hRR
  obtain ⟨m, hm, ⟨hm0, hm1, hm2⟩, hs40⟩ := m40.out
  obtain ⟨FS, hu40, fs0, fs1, fs2, fs3, fs4, fs5, fs6, fs7, fs8, fs9, fs10, fs11, fs12, fs13, fs14, fs15⟩ := f40.out
  obtain ⟨Z, hz, hZ1, hZ2⟩ := z40.out
  have n0 := NB.new w x.arr 40
  have b0 : Below w.heap.size w (w.alloc (.cells x.arr 40)) := (Below.refl _ _).alloc (Nat.le_refl _) _
  have l0 := n0.load (m := m) ((arr_size x).trans hm)
  have s0 : (storeCells ⟨w.heap.size + 1, 0, none⟩ x.arr.toList 0).run Tryz.prog ((w.alloc (.cells x.arr 40)).alloc (.cells Z 40)) = .ok () ((w.alloc (.cells x.arr 40)).alloc (.cells x.arr 40)) := by
    have := run_storeCells_new (P := Tryz.prog) (w.alloc (.cells x.arr 40)) 40 Z x.arr (by rw [arr_size]; kernel_rfl) (by rw [hZ1, arr_size]) h.one
    rwa [World.size_alloc] at this
  have l00 := (n0.alloc (.cells Z 40)).load (m := m) ((arr_size x).trans hm)
  have hsz : x.arr.size = m := (arr_size x).trans hm
  have bW := b0.alloc b0.size (.cells (bset x.arr) 40)
  have nA := n0.alloc (.cells (bset x.arr) 40)
  have nB := nb1 w (.cells x.arr 40) (bset x.arr) 40
  obtain ⟨W, hW⟩ : ∃ W, (w.alloc (.cells x.arr 40)).alloc (.cells (bset x.arr) 40) = W := ⟨_, rfl⟩
  rw [hW] at bW nA nB
  rw [bar_arr x] at nB
  have v0 : x.arr[0]? = some (.int .i64 x.N.b) := rfl
  have v1 : x.arr[1]? = some (.int .i64 x.N.n) := rfl
  have v2 : x.arr[2]? = some (.int .i64 x.N.c) := rfl
  have v3 : x.arr[3]? = some (.int .i64 x.N.y) := rfl
  have v4 : x.arr[4]? = some (.int .i64 x.N.k) := rfl
  have v5 : x.arr[5]? = some (.int .i64 x.N.f) := rfl
  have L2 := fun z : Grow W => (nA.keep z.b).load (m := m) ((arr_size x).trans hm)
  have L5 := fun z : Grow W => (nB.keep z.b).load (m := m) ((arr_size (bar x)).trans hm)
  have C1 := fun z : Grow W => used179_8 x z.w ((h.keep bW).keep z.b)
  have C2 := Lib.hid (fun z : Grow W => sameNote_any (bar x) (us8 x) z.w (bar_nv ((h.keep bW).keep z.b)) (us8_nv ((h.keep bW).keep z.b)))
  have C2' := C2
  have NA := Lib.hid nA
  have HH := Lib.hid h
  have BW := Lib.hid bW
  have HM := Lib.hid hm
  obtain ⟨V, hV⟩ : ∃ V, x.arr = V := ⟨_, rfl⟩
  rw [hV] at NA
  have HV := Lib.hid hV
  rw [hV] at l0 s0 l00 hsz hW L2 C1 v0 v1 v2 v3 v4 v5 ⊢
  have HW := Lib.hid hW
  clear hV n0 b0 nA nB bW h hm hW C2'
  generalize hUa : (bar x).arr = U at *
  generalize hUb : (us8 x).arr = T at *
  clear hUa hUb
  have HL2 := Lib.hid L2
  have HL5 := Lib.hid L5
  have HC1 := Lib.hid C1
  clear L2 L5 C1
  generalize x.N.b = gb at v0
  generalize x.N.n = gn at v1
  generalize x.N.c = gc at v2
  generalize x.N.y = gy at v3
  generalize x.N.k = gk at v4
  generalize x.N.f = gf at v5
  by_cases hE : (bar x).N = (us8 x).N
  · have HC2 := Lib.hid (fun z : Grow W => (C2.out z).mono fun e w' (h : Say e _ ∧ _) => And.intro (say_t h.1 hE) h.2)
    clear C2
    have HE := Lib.hid hE
    clear hE
    go_enter Tryz.func111, Tryz.ntmps111
    go_wp2_with fail
    rw [HW.out]
    have L2 := HL2.out
    have L5 := HL5.out
    have C1 := HC1.out
    have C2 := HC2.out
    clear HL2 HL5 HC1 HC2 v0 v1 v2 v3 v4 v5 l0 s0 l00 hz
    refine wp_region_grow (by kernel_rfl) (by kernel_rfl) ?_
    repeat (go_big_quiet_step (first | (go_at_call 179; with_reducible exact calls_grow (C1 _)) | (go_at_call 23; with_reducible exact calls_grow (C2 _))))
    refine wpQuiet_nil ?_
    rintro w2 ⟨z, rfl⟩
    have NA2 := Lib.hid (NA.out.keep z.b)
    have B2 := Lib.hid (BW.out.trans (z.b.mono BW.out.size))
    clear L2 L5 C1 C2 hZ1 hZ2 NA BW HW
    generalize z.w = w2 at *
    clear z
    have c7 := NA2.out.c (k := 7) (v := .int .i64 x.N.q) (by rw [← HV.out]; rfl)
    have c6 := NA2.out.c (k := 6) (v := .int .i64 x.N.p) (by rw [← HV.out]; rfl)
    go_upto_region 5 with fail
    go_cut [6] from 23 to 30 (fun a wx => a = .bool (wi x.N.q 1 64) ∧ wx = w2)
    case first =>
      go_wp2_with fail
      all_goals (go_meet; exact ⟨congrArg Value.bool (by unfold wi; first | (simp; omega) | (simp [*]; done)), rfl⟩)
    case rest =>
      obtain ⟨rfl, rfl⟩ := hcut
      clear c7
      go_upto_region 6 with fail
      go_cut [7] from 31 to 38 (fun a wx => a = .bool (wi x.N.p 1 65535) ∧ wx = wc)
      case first =>
        go_wp2_with fail
        all_goals (go_meet; exact ⟨congrArg Value.bool (by unfold wi; first | (simp; omega) | (simp [*]; done)), rfl⟩)
      case rest =>
        obtain ⟨rfl, rfl⟩ := hcut
        clear c6
        have hD := HH.out.D.keep B2.out
        have C := given180 x.uD x.N.D wc hD
        obtain ⟨aD, cD, eD, -⟩ := hD
        rw [eD] at C
        have c16 := NA2.out.c (k := 16) (v := .slice aD x.N.D.length cD) (by rw [← HV.out, ← eD]; rfl)
        have hw : wi (x.N.D.length : Int) 1 4 = true ↔ (1 ≤ (x.N.D.length : Int) ∧ (x.N.D.length : Int) ≤ 4) := by unfold wi; simp
        have HW1 := Lib.hid hw
        clear eD hw
        generalize wi (x.N.D.length : Int) 1 4 = pw at *
        generalize wi x.N.p 1 65535 = pp at *
        cases pp
        · clear C
          generalize x.N.D.length = n at *
          go_wp2_with fail
          go_ret
          exact ⟨say_no (fun k => by have := (HRR.out.2 k).2.1.1; simp at this), B2.out⟩
        · by_cases hn : 1 ≤ (x.N.D.length : Int)
          · by_cases hn2 : (x.N.D.length : Int) ≤ 4
            · have HN : Hid (pw = true) := Lib.hid (HW1.out.2 ⟨hn, hn2⟩)
              generalize x.N.D.length = n at *
              go_wp2_with fail
              refine C.mono ?_
              rintro e w3 ⟨⟨r, hr, rfl⟩, hb⟩
              have HR := Lib.hid hr
              have B3 := Lib.hid (B2.out.trans (hb.mono B2.out.size))
              clear hr hb C
              go_wp2_with fail
              go_ret
              exact ⟨say_is (HR.out.trans ⟨fun k => HRR.out.1 ⟨HE.out, ⟨by simp, HN.out⟩, k⟩, fun k => (HRR.out.2 k).2.2⟩), B3.out⟩
            · have HN : Hid (¬ pw = true) := Lib.hid fun k => hn2 (HW1.out.1 k).2
              clear C
              generalize x.N.D.length = n at *
              go_wp2_with fail
              go_ret
              exact ⟨say_no (fun k => HN.out (HRR.out.2 k).2.1.2), B2.out⟩
          · have HN : Hid (¬ pw = true) := Lib.hid fun k => hn (HW1.out.1 k).1
            clear C
            generalize x.N.D.length = n at *
            go_wp2_with fail
            go_ret
            exact ⟨say_no (fun k => HN.out (HRR.out.2 k).2.1.2), B2.out⟩
  · have HC2 := Lib.hid (fun z : Grow W => (C2.out z).mono fun e w' (h : Say e _ ∧ _) => And.intro (say_f h.1 hE) h.2)
    clear C2
    have HE := Lib.hid hE
    clear hE
    go_enter Tryz.func111, Tryz.ntmps111
    go_wp2_with fail
    rw [HW.out]
    have L2 := HL2.out
    have L5 := HL5.out
    have C1 := HC1.out
    have C2 := HC2.out
    clear HL2 HL5 HC1 HC2 v0 v1 v2 v3 v4 v5 l0 s0 l00 hz
    refine wp_region_grow (by kernel_rfl) (by kernel_rfl) ?_
    repeat (go_big_quiet_step (first | (go_at_call 179; with_reducible exact calls_grow (C1 _)) | (go_at_call 23; with_reducible exact calls_grow (C2 _))))
    refine wpQuiet_nil ?_
    rintro w2 ⟨z, rfl⟩
    have B2 := Lib.hid (BW.out.trans (z.b.mono BW.out.size))
    clear L2 L5 C1 C2 hZ1 hZ2 NA BW HW
    generalize z.w = w2 at *
    clear z
    go_wp2_with fail
    go_ret
    exact ⟨say_no (fun k => HE.out (HRR.out.2 k).1), B2.out⟩

end Go.Proofs.YtcgmmfcphfkdhaaGreat
