/- The abstract machine, part GrN7. -/
import Derived.Test.YtcgmmfcphfkdhaaGreatGrN6
/- Walks: the reference's content: what is bare. -/
namespace Go.Proofs.YtcgmmfcphfkdhaaGreat
open Go Go.RowKit Go.Proofs

def bar (x : Nv) : Nv := { x with N := { x.N with b := 0, n := 0, c := 0, y := 0, k := 0, f := 0 } }
theorem bar_nv {x : Nv} {w : World} (h : NV w x) : NV w (bar x) := ⟨h.P, h.Q, h.D, ⟨h.X.P, h.X.C, h.X.S⟩⟩
abbrev bset (V : Array Value) : Array Value := (((((V.setIfInBounds 0 (.int .i64 0)).setIfInBounds 1 (.int .i64 0)).setIfInBounds 2 (.int .i64 0)).setIfInBounds 3 (.int .i64 0)).setIfInBounds 4 (.int .i64 0)).setIfInBounds 5 (.int .i64 0)
theorem bar_arr (x : Nv) : bset x.arr = (bar x).arr := by
  have w0 : x.arr.setIfInBounds 0 (.int .i64 0) = Nv.arr { x with N := { x.N with b := 0 } } := rfl
  have w1 : (Nv.arr { x with N := { x.N with b := 0 } }).setIfInBounds 1 (.int .i64 0) = Nv.arr { x with N := { x.N with b := 0, n := 0 } } := rfl
  have w2 : (Nv.arr { x with N := { x.N with b := 0, n := 0 } }).setIfInBounds 2 (.int .i64 0) = Nv.arr { x with N := { x.N with b := 0, n := 0, c := 0 } } := rfl
  have w3 : (Nv.arr { x with N := { x.N with b := 0, n := 0, c := 0 } }).setIfInBounds 3 (.int .i64 0) = Nv.arr { x with N := { x.N with b := 0, n := 0, c := 0, y := 0 } } := rfl
  have w4 : (Nv.arr { x with N := { x.N with b := 0, n := 0, c := 0, y := 0 } }).setIfInBounds 4 (.int .i64 0) = Nv.arr { x with N := { x.N with b := 0, n := 0, c := 0, y := 0, k := 0 } } := rfl
  have w5 : (Nv.arr { x with N := { x.N with b := 0, n := 0, c := 0, y := 0, k := 0 } }).setIfInBounds 5 (.int .i64 0) = (bar x).arr := rfl
  unfold bset
  rw [w0, w1, w2, w3, w4, w5]

end Go.Proofs.YtcgmmfcphfkdhaaGreat

/- Walks: the reference's content, of the kind 0. -/
namespace Go.Proofs.YtcgmmfcphfkdhaaGreat
open Go Go.RowKit Go.Proofs

set_option maxRecDepth 100000 in
set_option maxHeartbeats 4000000 in
theorem content111_0 (x : Nv) (k : Int) (hk : ¬ k = 1 ∧ ¬ k = 2 ∧ ¬ k = 3 ∧ ¬ k = 4 ∧ ¬ k = 5 ∧ ¬ k = 6 ∧ ¬ k = 7 ∧ ¬ k = 8) (w : World) (h : NV w x) :
  Calls Tryz.prog 111 #[.agg x.arr, .int .i64 k] w fun e w' => e = .returned (.bool false) ∧ Below w.heap.size w w' := by
 have hk' := hk
 obtain ⟨k1, k2, k3, k4, k5, k6, k7, k8⟩ := hk
 obtain ⟨m, hm, ⟨hm0, hm1, hm2⟩, hs40⟩ := m40.out
 obtain ⟨FS, hu40, fs0, fs1, fs2, fs3, fs4, fs5, fs6, fs7, fs8, fs9, fs10, fs11, fs12, fs13, fs14, fs15⟩ := f40.out
 obtain ⟨Z, hz, hZ1, hZ2⟩ := z40.out
 have n0 := NB.new w x.arr 40
 have b0 : Below w.heap.size w (w.alloc (.cells x.arr 40)) := (Below.refl _ _).alloc (Nat.le_refl _) _
 have l0 := n0.load (m := m) ((arr_size x).trans hm)
 have s0 : (storeCells ⟨w.heap.size + 1, 0, none⟩ x.arr.toList 0).run Tryz.prog ((w.alloc (.cells x.arr 40)).alloc (.cells Z 40)) = .ok () ((w.alloc (.cells x.arr 40)).alloc (.cells x.arr 40)) := by
  have := run_storeCells_new (P := Tryz.prog) (w.alloc (.cells x.arr 40)) 40 Z x.arr (by rw [arr_size]; kernel_rfl) (by rw [hZ1, arr_size]) h.one
  rwa [World.size_alloc] at this
 have l00 := (n0.alloc (.cells Z 40)).load (m := m) ((arr_size x).trans hm)
 have hsz : x.arr.size = m := (arr_size x).trans hm
 have bW := b0.alloc b0.size (.cells (bset x.arr) 40)
 have nA := n0.alloc (.cells (bset x.arr) 40)
 have nB := nb1 w (.cells x.arr 40) (bset x.arr) 40
 obtain ⟨W, hW⟩ : ∃ W, (w.alloc (.cells x.arr 40)).alloc (.cells (bset x.arr) 40) = W := ⟨_, rfl⟩
 rw [hW] at bW nA nB
 rw [bar_arr x] at nB
 have v0 : x.arr[0]? = some (.int .i64 x.N.b) := rfl
 have v1 : x.arr[1]? = some (.int .i64 x.N.n) := rfl
 have v2 : x.arr[2]? = some (.int .i64 x.N.c) := rfl
 have v3 : x.arr[3]? = some (.int .i64 x.N.y) := rfl
 have v4 : x.arr[4]? = some (.int .i64 x.N.k) := rfl
 have v5 : x.arr[5]? = some (.int .i64 x.N.f) := rfl
 have L2 := fun z : Grow W => (nA.keep z.b).load (m := m) ((arr_size x).trans hm)
 have L5 := fun z : Grow W => (nB.keep z.b).load (m := m) ((arr_size (bar x)).trans hm)
 have C1 := fun z : Grow W => used179_0 x k hk' z.w ((h.keep bW).keep z.b)
 have C2 := Lib.hid (fun z : Grow W => sameNote_any (bar x) (us0 x) z.w (bar_nv ((h.keep bW).keep z.b)) (us0_nv ((h.keep bW).keep z.b)))
 have C2' := C2
 have NA := Lib.hid nA
 have HH := Lib.hid h
 have BW := Lib.hid bW
 have HM := Lib.hid hm
 obtain ⟨V, hV⟩ : ∃ V, x.arr = V := ⟨_, rfl⟩
 rw [hV] at NA
 have HV := Lib.hid hV
 rw [hV] at l0 s0 l00 hsz hW L2 C1 v0 v1 v2 v3 v4 v5 ⊢
 have HW := Lib.hid hW
 clear hV n0 b0 nA nB bW h hm hW C2'
 generalize hUa : (bar x).arr = U at *
 generalize hUb : (us0 x).arr = T at *
 clear hUa hUb
 have HL2 := Lib.hid L2
 have HL5 := Lib.hid L5
 have HC1 := Lib.hid C1
 clear L2 L5 C1
 generalize x.N.b = gb at v0
 generalize x.N.n = gn at v1
 generalize x.N.c = gc at v2
 generalize x.N.y = gy at v3
 generalize x.N.k = gk at v4
 generalize x.N.f = gf at v5
 by_cases hE : (bar x).N = (us0 x).N
 ·have HC2 := Lib.hid (fun z : Grow W => (C2.out z).mono fun e w' (h : Say e _ ∧ _) => And.intro (say_t h.1 hE) h.2)
  clear C2
  have HE := Lib.hid hE
  clear hE
  go_enter Tryz.func111, Tryz.ntmps111
  go_wp2_with fail
  rw [HW.out]
  have L2 := HL2.out
  have L5 := HL5.out
  have C1 := HC1.out
  have C2 := HC2.out
  clear HL2 HL5 HC1 HC2 v0 v1 v2 v3 v4 v5 l0 s0 l00 hz
  refine wp_region_grow (by kernel_rfl) (by kernel_rfl) ?_
  repeat (go_big_quiet_step (first | (go_at_call 179; with_reducible exact calls_grow (C1 _)) | (go_at_call 23; with_reducible exact calls_grow (C2 _))))
  refine wpQuiet_nil ?_
  rintro w2 ⟨z, rfl⟩
  have NA2 := Lib.hid (NA.out.keep z.b)
  have B2 := Lib.hid (BW.out.trans (z.b.mono BW.out.size))
  clear L2 L5 C1 C2 hZ1 hZ2 NA BW HW
  generalize z.w = w2 at *
  clear z
  have c7 := NA2.out.c (k := 7) (v := .int .i64 x.N.q) (by rw [← HV.out]; rfl)
  have c6 := NA2.out.c (k := 6) (v := .int .i64 x.N.p) (by rw [← HV.out]; rfl)
  go_upto_region 5 with fail
  go_cut [6] from 23 to 30 (fun a wx => a = .bool (wi x.N.q 1 64) ∧ wx = w2)
  case first =>
   go_wp2_with fail
   all_goals (go_meet; exact ⟨congrArg Value.bool (by unfold wi; first | (simp; omega) | (simp [*]; done)), rfl⟩)
  case rest =>
   obtain ⟨rfl, rfl⟩ := hcut
   clear c7
   go_upto_region 6 with fail
   go_cut [7] from 31 to 38 (fun a wx => a = .bool (wi x.N.p 1 65535) ∧ wx = wc)
   case first =>
    go_wp2_with fail
    all_goals (go_meet; exact ⟨congrArg Value.bool (by unfold wi; first | (simp; omega) | (simp [*]; done)), rfl⟩)
   case rest =>
    obtain ⟨rfl, rfl⟩ := hcut
    clear c6
    generalize wi x.N.p 1 65535 = pp at *
    generalize wi x.N.q 1 64 = pq at *
    go_wp2_with fail
    go_ret
    exact ⟨rfl, B2.out⟩
 ·have HC2 := Lib.hid (fun z : Grow W => (C2.out z).mono fun e w' (h : Say e _ ∧ _) => And.intro (say_f h.1 hE) h.2)
  clear C2
  have HE := Lib.hid hE
  clear hE
  go_enter Tryz.func111, Tryz.ntmps111
  go_wp2_with fail
  rw [HW.out]
  have L2 := HL2.out
  have L5 := HL5.out
  have C1 := HC1.out
  have C2 := HC2.out
  clear HL2 HL5 HC1 HC2 v0 v1 v2 v3 v4 v5 l0 s0 l00 hz
  refine wp_region_grow (by kernel_rfl) (by kernel_rfl) ?_
  repeat (go_big_quiet_step (first | (go_at_call 179; with_reducible exact calls_grow (C1 _)) | (go_at_call 23; with_reducible exact calls_grow (C2 _))))
  refine wpQuiet_nil ?_
  rintro w2 ⟨z, rfl⟩
  have B2 := Lib.hid (BW.out.trans (z.b.mono BW.out.size))
  clear L2 L5 C1 C2 hZ1 hZ2 NA BW HW
  generalize z.w = w2 at *
  clear z
  go_wp2_with fail
  go_ret
  exact ⟨rfl, B2.out⟩

end Go.Proofs.YtcgmmfcphfkdhaaGreat

/- Walks: the reference's content, of the kind 1. -/
namespace Go.Proofs.YtcgmmfcphfkdhaaGreat
open Go Go.RowKit Go.Proofs

set_option maxRecDepth 100000 in
set_option maxHeartbeats 4000000 in
theorem content111_1 (x : Nv) (w : World) (h : NV w x) :
  Calls Tryz.prog 111 #[.agg x.arr, .int .i64 1] w fun e w' => Say e ((bar x).N = (us1 x).N ∧ (x.N.D.length = 1 ∧ Dat x.N.D)) ∧ Below w.heap.size w w' := by
 obtain ⟨RR, hRR⟩ : ∃ RR : Prop, ((bar x).N = (us1 x).N ∧ (x.N.D.length = 1 ∧ Dat x.N.D)) = RR := ⟨_, rfl⟩
 rw [hRR]
 have HRR := Lib.hid (Iff.of_eq hRR)
 clear hRR
 obtain ⟨m, hm, ⟨hm0, hm1, hm2⟩, hs40⟩ := m40.out
 obtain ⟨FS, hu40, fs0, fs1, fs2, fs3, fs4, fs5, fs6, fs7, fs8, fs9, fs10, fs11, fs12, fs13, fs14, fs15⟩ := f40.out
 obtain ⟨Z, hz, hZ1, hZ2⟩ := z40.out
 have n0 := NB.new w x.arr 40
 have b0 : Below w.heap.size w (w.alloc (.cells x.arr 40)) := (Below.refl _ _).alloc (Nat.le_refl _) _
 have l0 := n0.load (m := m) ((arr_size x).trans hm)
 have s0 : (storeCells ⟨w.heap.size + 1, 0, none⟩ x.arr.toList 0).run Tryz.prog ((w.alloc (.cells x.arr 40)).alloc (.cells Z 40)) = .ok () ((w.alloc (.cells x.arr 40)).alloc (.cells x.arr 40)) := by
  have := run_storeCells_new (P := Tryz.prog) (w.alloc (.cells x.arr 40)) 40 Z x.arr (by rw [arr_size]; kernel_rfl) (by rw [hZ1, arr_size]) h.one
  rwa [World.size_alloc] at this
 have l00 := (n0.alloc (.cells Z 40)).load (m := m) ((arr_size x).trans hm)
 have hsz : x.arr.size = m := (arr_size x).trans hm
 have bW := b0.alloc b0.size (.cells (bset x.arr) 40)
 have nA := n0.alloc (.cells (bset x.arr) 40)
 have nB := nb1 w (.cells x.arr 40) (bset x.arr) 40
 obtain ⟨W, hW⟩ : ∃ W, (w.alloc (.cells x.arr 40)).alloc (.cells (bset x.arr) 40) = W := ⟨_, rfl⟩
 rw [hW] at bW nA nB
 rw [bar_arr x] at nB
 have v0 : x.arr[0]? = some (.int .i64 x.N.b) := rfl
 have v1 : x.arr[1]? = some (.int .i64 x.N.n) := rfl
 have v2 : x.arr[2]? = some (.int .i64 x.N.c) := rfl
 have v3 : x.arr[3]? = some (.int .i64 x.N.y) := rfl
 have v4 : x.arr[4]? = some (.int .i64 x.N.k) := rfl
 have v5 : x.arr[5]? = some (.int .i64 x.N.f) := rfl
 have L2 := fun z : Grow W => (nA.keep z.b).load (m := m) ((arr_size x).trans hm)
 have L5 := fun z : Grow W => (nB.keep z.b).load (m := m) ((arr_size (bar x)).trans hm)
 have C1 := fun z : Grow W => used179_1 x z.w ((h.keep bW).keep z.b)
 have C2 := Lib.hid (fun z : Grow W => sameNote_any (bar x) (us1 x) z.w (bar_nv ((h.keep bW).keep z.b)) (us1_nv ((h.keep bW).keep z.b)))
 have C2' := C2
 have NA := Lib.hid nA
 have HH := Lib.hid h
 have BW := Lib.hid bW
 have HM := Lib.hid hm
 obtain ⟨V, hV⟩ : ∃ V, x.arr = V := ⟨_, rfl⟩
 rw [hV] at NA
 have HV := Lib.hid hV
 rw [hV] at l0 s0 l00 hsz hW L2 C1 v0 v1 v2 v3 v4 v5 ⊢
 have HW := Lib.hid hW
 clear hV n0 b0 nA nB bW h hm hW C2'
 generalize hUa : (bar x).arr = U at *
 generalize hUb : (us1 x).arr = T at *
 clear hUa hUb
 have HL2 := Lib.hid L2
 have HL5 := Lib.hid L5
 have HC1 := Lib.hid C1
 clear L2 L5 C1
 generalize x.N.b = gb at v0
 generalize x.N.n = gn at v1
 generalize x.N.c = gc at v2
 generalize x.N.y = gy at v3
 generalize x.N.k = gk at v4
 generalize x.N.f = gf at v5
 by_cases hE : (bar x).N = (us1 x).N
 ·have HC2 := Lib.hid (fun z : Grow W => (C2.out z).mono fun e w' (h : Say e _ ∧ _) => And.intro (say_t h.1 hE) h.2)
  clear C2
  have HE := Lib.hid hE
  clear hE
  go_enter Tryz.func111, Tryz.ntmps111
  go_wp2_with fail
  rw [HW.out]
  have L2 := HL2.out
  have L5 := HL5.out
  have C1 := HC1.out
  have C2 := HC2.out
  clear HL2 HL5 HC1 HC2 v0 v1 v2 v3 v4 v5 l0 s0 l00 hz
  refine wp_region_grow (by kernel_rfl) (by kernel_rfl) ?_
  repeat (go_big_quiet_step (first | (go_at_call 179; with_reducible exact calls_grow (C1 _)) | (go_at_call 23; with_reducible exact calls_grow (C2 _))))
  refine wpQuiet_nil ?_
  rintro w2 ⟨z, rfl⟩
  have NA2 := Lib.hid (NA.out.keep z.b)
  have B2 := Lib.hid (BW.out.trans (z.b.mono BW.out.size))
  clear L2 L5 C1 C2 hZ1 hZ2 NA BW HW
  generalize z.w = w2 at *
  clear z
  have c7 := NA2.out.c (k := 7) (v := .int .i64 x.N.q) (by rw [← HV.out]; rfl)
  have c6 := NA2.out.c (k := 6) (v := .int .i64 x.N.p) (by rw [← HV.out]; rfl)
  go_upto_region 5 with fail
  go_cut [6] from 23 to 30 (fun a wx => a = .bool (wi x.N.q 1 64) ∧ wx = w2)
  case first =>
   go_wp2_with fail
   all_goals (go_meet; exact ⟨congrArg Value.bool (by unfold wi; first | (simp; omega) | (simp [*]; done)), rfl⟩)
  case rest =>
   obtain ⟨rfl, rfl⟩ := hcut
   clear c7
   go_upto_region 6 with fail
   go_cut [7] from 31 to 38 (fun a wx => a = .bool (wi x.N.p 1 65535) ∧ wx = wc)
   case first =>
    go_wp2_with fail
    all_goals (go_meet; exact ⟨congrArg Value.bool (by unfold wi; first | (simp; omega) | (simp [*]; done)), rfl⟩)
   case rest =>
    obtain ⟨rfl, rfl⟩ := hcut
    clear c6
    have hD := HH.out.D.keep B2.out
    have C := given180 x.uD x.N.D wc hD
    obtain ⟨aD, cD, eD, -⟩ := hD
    rw [eD] at C
    have c16 := NA2.out.c (k := 16) (v := .slice aD x.N.D.length cD) (by rw [← HV.out, ← eD]; rfl)
    clear eD
    by_cases hn : x.N.D.length = 1
    ·have j1 : (x.N.D.length : Int) = 1 := by omega
     have HN := Lib.hid hn
     clear hn
     generalize x.N.D.length = n at *
     go_wp2_with fail
     refine C.mono ?_
     rintro e w3 ⟨⟨r, hr, rfl⟩, hb⟩
     have HR := Lib.hid hr
     have B3 := Lib.hid (B2.out.trans (hb.mono B2.out.size))
     clear hr hb C
     go_wp2_with fail
     go_ret
     exact ⟨say_is (HR.out.trans ⟨fun k => HRR.out.1 ⟨HE.out, HN.out, k⟩, fun k => (HRR.out.2 k).2.2⟩), B3.out⟩
    ·have j1 : ¬ (x.N.D.length : Int) = 1 := by omega
     have HN := Lib.hid hn
     clear hn C
     generalize x.N.D.length = n at *
     go_wp2_with fail
     go_ret
     exact ⟨say_no (fun k => HN.out (HRR.out.2 k).2.1), B2.out⟩
 ·have HC2 := Lib.hid (fun z : Grow W => (C2.out z).mono fun e w' (h : Say e _ ∧ _) => And.intro (say_f h.1 hE) h.2)
  clear C2
  have HE := Lib.hid hE
  clear hE
  go_enter Tryz.func111, Tryz.ntmps111
  go_wp2_with fail
  rw [HW.out]
  have L2 := HL2.out
  have L5 := HL5.out
  have C1 := HC1.out
  have C2 := HC2.out
  clear HL2 HL5 HC1 HC2 v0 v1 v2 v3 v4 v5 l0 s0 l00 hz
  refine wp_region_grow (by kernel_rfl) (by kernel_rfl) ?_
  repeat (go_big_quiet_step (first | (go_at_call 179; with_reducible exact calls_grow (C1 _)) | (go_at_call 23; with_reducible exact calls_grow (C2 _))))
  refine wpQuiet_nil ?_
  rintro w2 ⟨z, rfl⟩
  have B2 := Lib.hid (BW.out.trans (z.b.mono BW.out.size))
  clear L2 L5 C1 C2 hZ1 hZ2 NA BW HW
  generalize z.w = w2 at *
  clear z
  go_wp2_with fail
  go_ret
  exact ⟨say_no (fun k => HE.out (HRR.out.2 k).1), B2.out⟩

end Go.Proofs.YtcgmmfcphfkdhaaGreat

/- Walks: the reference's content, of the kind 2. -/
namespace Go.Proofs.YtcgmmfcphfkdhaaGreat
open Go Go.RowKit Go.Proofs

set_option maxRecDepth 100000 in
set_option maxHeartbeats 4000000 in
theorem content111_2 (x : Nv) (w : World) (h : NV w x) :
  Calls Tryz.prog 111 #[.agg x.arr, .int .i64 2] w fun e w' => Say e ((bar x).N = (us2 x).N ∧ vRc x.N.X = true) ∧ Below w.heap.size w w' := by
 obtain ⟨RR, hRR⟩ : ∃ RR : Prop, ((bar x).N = (us2 x).N ∧ vRc x.N.X = true) = RR := ⟨_, rfl⟩
 rw [hRR]
 have HRR := Lib.hid (Iff.of_eq hRR)
 clear hRR
 obtain ⟨m, hm, ⟨hm0, hm1, hm2⟩, hs40⟩ := m40.out
 obtain ⟨FS, hu40, fs0, fs1, fs2, fs3, fs4, fs5, fs6, fs7, fs8, fs9, fs10, fs11, fs12, fs13, fs14, fs15⟩ := f40.out
 obtain ⟨Z, hz, hZ1, hZ2⟩ := z40.out
 have n0 := NB.new w x.arr 40
 have b0 : Below w.heap.size w (w.alloc (.cells x.arr 40)) := (Below.refl _ _).alloc (Nat.le_refl _) _
 have l0 := n0.load (m := m) ((arr_size x).trans hm)
 have s0 : (storeCells ⟨w.heap.size + 1, 0, none⟩ x.arr.toList 0).run Tryz.prog ((w.alloc (.cells x.arr 40)).alloc (.cells Z 40)) = .ok () ((w.alloc (.cells x.arr 40)).alloc (.cells x.arr 40)) := by
  have := run_storeCells_new (P := Tryz.prog) (w.alloc (.cells x.arr 40)) 40 Z x.arr (by rw [arr_size]; kernel_rfl) (by rw [hZ1, arr_size]) h.one
  rwa [World.size_alloc] at this
 have l00 := (n0.alloc (.cells Z 40)).load (m := m) ((arr_size x).trans hm)
 have hsz : x.arr.size = m := (arr_size x).trans hm
 have bW := b0.alloc b0.size (.cells (bset x.arr) 40)
 have nA := n0.alloc (.cells (bset x.arr) 40)
 have nB := nb1 w (.cells x.arr 40) (bset x.arr) 40
 obtain ⟨W, hW⟩ : ∃ W, (w.alloc (.cells x.arr 40)).alloc (.cells (bset x.arr) 40) = W := ⟨_, rfl⟩
 rw [hW] at bW nA nB
 rw [bar_arr x] at nB
 have v0 : x.arr[0]? = some (.int .i64 x.N.b) := rfl
 have v1 : x.arr[1]? = some (.int .i64 x.N.n) := rfl
 have v2 : x.arr[2]? = some (.int .i64 x.N.c) := rfl
 have v3 : x.arr[3]? = some (.int .i64 x.N.y) := rfl
 have v4 : x.arr[4]? = some (.int .i64 x.N.k) := rfl
 have v5 : x.arr[5]? = some (.int .i64 x.N.f) := rfl
 have L2 := fun z : Grow W => (nA.keep z.b).load (m := m) ((arr_size x).trans hm)
 have L5 := fun z : Grow W => (nB.keep z.b).load (m := m) ((arr_size (bar x)).trans hm)
 have C1 := fun z : Grow W => used179_2 x z.w ((h.keep bW).keep z.b)
 have C2 := Lib.hid (fun z : Grow W => sameNote_any (bar x) (us2 x) z.w (bar_nv ((h.keep bW).keep z.b)) (us2_nv ((h.keep bW).keep z.b)))
 have C2' := C2
 have NA := Lib.hid nA
 have HH := Lib.hid h
 have BW := Lib.hid bW
 have HM := Lib.hid hm
 obtain ⟨V, hV⟩ : ∃ V, x.arr = V := ⟨_, rfl⟩
 rw [hV] at NA
 have HV := Lib.hid hV
 rw [hV] at l0 s0 l00 hsz hW L2 C1 v0 v1 v2 v3 v4 v5 ⊢
 have HW := Lib.hid hW
 clear hV n0 b0 nA nB bW h hm hW C2'
 generalize hUa : (bar x).arr = U at *
 generalize hUb : (us2 x).arr = T at *
 clear hUa hUb
 have HL2 := Lib.hid L2
 have HL5 := Lib.hid L5
 have HC1 := Lib.hid C1
 clear L2 L5 C1
 generalize x.N.b = gb at v0
 generalize x.N.n = gn at v1
 generalize x.N.c = gc at v2
 generalize x.N.y = gy at v3
 generalize x.N.k = gk at v4
 generalize x.N.f = gf at v5
 by_cases hE : (bar x).N = (us2 x).N
 ·have HC2 := Lib.hid (fun z : Grow W => (C2.out z).mono fun e w' (h : Say e _ ∧ _) => And.intro (say_t h.1 hE) h.2)
  clear C2
  have HE := Lib.hid hE
  clear hE
  go_enter Tryz.func111, Tryz.ntmps111
  go_wp2_with fail
  rw [HW.out]
  have L2 := HL2.out
  have L5 := HL5.out
  have C1 := HC1.out
  have C2 := HC2.out
  clear HL2 HL5 HC1 HC2 v0 v1 v2 v3 v4 v5 l0 s0 l00 hz
  refine wp_region_grow (by kernel_rfl) (by kernel_rfl) ?_
  repeat (go_big_quiet_step (first | (go_at_call 179; with_reducible exact calls_grow (C1 _)) | (go_at_call 23; with_reducible exact calls_grow (C2 _))))
  refine wpQuiet_nil ?_
  rintro w2 ⟨z, rfl⟩
  have NA2 := Lib.hid (NA.out.keep z.b)
  have B2 := Lib.hid (BW.out.trans (z.b.mono BW.out.size))
  clear L2 L5 C1 C2 hZ1 hZ2 NA BW HW
  generalize z.w = w2 at *
  clear z
  have c7 := NA2.out.c (k := 7) (v := .int .i64 x.N.q) (by rw [← HV.out]; rfl)
  have c6 := NA2.out.c (k := 6) (v := .int .i64 x.N.p) (by rw [← HV.out]; rfl)
  go_upto_region 5 with fail
  go_cut [6] from 23 to 30 (fun a wx => a = .bool (wi x.N.q 1 64) ∧ wx = w2)
  case first =>
   go_wp2_with fail
   all_goals (go_meet; exact ⟨congrArg Value.bool (by unfold wi; first | (simp; omega) | (simp [*]; done)), rfl⟩)
  case rest =>
   obtain ⟨rfl, rfl⟩ := hcut
   clear c7
   go_upto_region 6 with fail
   go_cut [7] from 31 to 38 (fun a wx => a = .bool (wi x.N.p 1 65535) ∧ wx = wc)
   case first =>
    go_wp2_with fail
    all_goals (go_meet; exact ⟨congrArg Value.bool (by unfold wi; first | (simp; omega) | (simp [*]; done)), rfl⟩)
   case rest =>
    obtain ⟨rfl, rfl⟩ := hcut
    clear c6
    have C := item181 x wc (HH.out.X.keep B2.out)
    obtain ⟨m', hm', ⟨hm0', hm1', hm2'⟩, hs38⟩ := m38.out
    have lX := NB.loadX (x := x) (by rw [HV.out]; exact NA2.out) hm'
    clear hm'
    generalize x.itm = I at *
    generalize vRc x.N.X = p at *
    go_wp2_with fail
    refine C.mono ?_
    rintro e w3 ⟨rfl, hb⟩
    have B3 := Lib.hid (B2.out.trans (hb.mono B2.out.size))
    clear hb C
    go_wp2_with fail
    go_ret
    exact ⟨say_is ⟨fun k => HRR.out.1 ⟨HE.out, k⟩, fun k => (HRR.out.2 k).2⟩, B3.out⟩
 ·have HC2 := Lib.hid (fun z : Grow W => (C2.out z).mono fun e w' (h : Say e _ ∧ _) => And.intro (say_f h.1 hE) h.2)
  clear C2
  have HE := Lib.hid hE
  clear hE
  go_enter Tryz.func111, Tryz.ntmps111
  go_wp2_with fail
  rw [HW.out]
  have L2 := HL2.out
  have L5 := HL5.out
  have C1 := HC1.out
  have C2 := HC2.out
  clear HL2 HL5 HC1 HC2 v0 v1 v2 v3 v4 v5 l0 s0 l00 hz
  refine wp_region_grow (by kernel_rfl) (by kernel_rfl) ?_
  repeat (go_big_quiet_step (first | (go_at_call 179; with_reducible exact calls_grow (C1 _)) | (go_at_call 23; with_reducible exact calls_grow (C2 _))))
  refine wpQuiet_nil ?_
  rintro w2 ⟨z, rfl⟩
  have B2 := Lib.hid (BW.out.trans (z.b.mono BW.out.size))
  clear L2 L5 C1 C2 hZ1 hZ2 NA BW HW
  generalize z.w = w2 at *
  clear z
  go_wp2_with fail
  go_ret
  exact ⟨say_no (fun k => HE.out (HRR.out.2 k).1), B2.out⟩

end Go.Proofs.YtcgmmfcphfkdhaaGreat

/- Walks: the reference's content, of the kind 3. -/
namespace Go.Proofs.YtcgmmfcphfkdhaaGreat
open Go Go.RowKit Go.Proofs

set_option maxRecDepth 100000 in
set_option maxHeartbeats 4000000 in
theorem content111_3 (x : Nv) (w : World) (h : NV w x) :
  Calls Tryz.prog 111 #[.agg x.arr, .int .i64 3] w fun e w' => Say e ((bar x).N = (us3 x).N ∧ (0 < x.N.Q.length ∧ Ris x.N.Q 64)) ∧ Below w.heap.size w w' := by
 obtain ⟨RR, hRR⟩ : ∃ RR : Prop, ((bar x).N = (us3 x).N ∧ (0 < x.N.Q.length ∧ Ris x.N.Q 64)) = RR := ⟨_, rfl⟩
 rw [hRR]
 have HRR := Lib.hid (Iff.of_eq hRR)
 clear hRR
 obtain ⟨m, hm, ⟨hm0, hm1, hm2⟩, hs40⟩ := m40.out
 obtain ⟨FS, hu40, fs0, fs1, fs2, fs3, fs4, fs5, fs6, fs7, fs8, fs9, fs10, fs11, fs12, fs13, fs14, fs15⟩ := f40.out
 obtain ⟨Z, hz, hZ1, hZ2⟩ := z40.out
 have n0 := NB.new w x.arr 40
 have b0 : Below w.heap.size w (w.alloc (.cells x.arr 40)) := (Below.refl _ _).alloc (Nat.le_refl _) _
 have l0 := n0.load (m := m) ((arr_size x).trans hm)
 have s0 : (storeCells ⟨w.heap.size + 1, 0, none⟩ x.arr.toList 0).run Tryz.prog ((w.alloc (.cells x.arr 40)).alloc (.cells Z 40)) = .ok () ((w.alloc (.cells x.arr 40)).alloc (.cells x.arr 40)) := by
  have := run_storeCells_new (P := Tryz.prog) (w.alloc (.cells x.arr 40)) 40 Z x.arr (by rw [arr_size]; kernel_rfl) (by rw [hZ1, arr_size]) h.one
  rwa [World.size_alloc] at this
 have l00 := (n0.alloc (.cells Z 40)).load (m := m) ((arr_size x).trans hm)
 have hsz : x.arr.size = m := (arr_size x).trans hm
 have bW := b0.alloc b0.size (.cells (bset x.arr) 40)
 have nA := n0.alloc (.cells (bset x.arr) 40)
 have nB := nb1 w (.cells x.arr 40) (bset x.arr) 40
 obtain ⟨W, hW⟩ : ∃ W, (w.alloc (.cells x.arr 40)).alloc (.cells (bset x.arr) 40) = W := ⟨_, rfl⟩
 rw [hW] at bW nA nB
 rw [bar_arr x] at nB
 have v0 : x.arr[0]? = some (.int .i64 x.N.b) := rfl
 have v1 : x.arr[1]? = some (.int .i64 x.N.n) := rfl
 have v2 : x.arr[2]? = some (.int .i64 x.N.c) := rfl
 have v3 : x.arr[3]? = some (.int .i64 x.N.y) := rfl
 have v4 : x.arr[4]? = some (.int .i64 x.N.k) := rfl
 have v5 : x.arr[5]? = some (.int .i64 x.N.f) := rfl
 have L2 := fun z : Grow W => (nA.keep z.b).load (m := m) ((arr_size x).trans hm)
 have L5 := fun z : Grow W => (nB.keep z.b).load (m := m) ((arr_size (bar x)).trans hm)
 have C1 := fun z : Grow W => used179_3 x z.w ((h.keep bW).keep z.b)
 have C2 := Lib.hid (fun z : Grow W => sameNote_any (bar x) (us3 x) z.w (bar_nv ((h.keep bW).keep z.b)) (us3_nv ((h.keep bW).keep z.b)))
 have C2' := C2
 have NA := Lib.hid nA
 have HH := Lib.hid h
 have BW := Lib.hid bW
 have HM := Lib.hid hm
 obtain ⟨V, hV⟩ : ∃ V, x.arr = V := ⟨_, rfl⟩
 rw [hV] at NA
 have HV := Lib.hid hV
 rw [hV] at l0 s0 l00 hsz hW L2 C1 v0 v1 v2 v3 v4 v5 ⊢
 have HW := Lib.hid hW
 clear hV n0 b0 nA nB bW h hm hW C2'
 generalize hUa : (bar x).arr = U at *
 generalize hUb : (us3 x).arr = T at *
 clear hUa hUb
 have HL2 := Lib.hid L2
 have HL5 := Lib.hid L5
 have HC1 := Lib.hid C1
 clear L2 L5 C1
 generalize x.N.b = gb at v0
 generalize x.N.n = gn at v1
 generalize x.N.c = gc at v2
 generalize x.N.y = gy at v3
 generalize x.N.k = gk at v4
 generalize x.N.f = gf at v5
 by_cases hE : (bar x).N = (us3 x).N
 ·have HC2 := Lib.hid (fun z : Grow W => (C2.out z).mono fun e w' (h : Say e _ ∧ _) => And.intro (say_t h.1 hE) h.2)
  clear C2
  have HE := Lib.hid hE
  clear hE
  go_enter Tryz.func111, Tryz.ntmps111
  go_wp2_with fail
  rw [HW.out]
  have L2 := HL2.out
  have L5 := HL5.out
  have C1 := HC1.out
  have C2 := HC2.out
  clear HL2 HL5 HC1 HC2 v0 v1 v2 v3 v4 v5 l0 s0 l00 hz
  refine wp_region_grow (by kernel_rfl) (by kernel_rfl) ?_
  repeat (go_big_quiet_step (first | (go_at_call 179; with_reducible exact calls_grow (C1 _)) | (go_at_call 23; with_reducible exact calls_grow (C2 _))))
  refine wpQuiet_nil ?_
  rintro w2 ⟨z, rfl⟩
  have NA2 := Lib.hid (NA.out.keep z.b)
  have B2 := Lib.hid (BW.out.trans (z.b.mono BW.out.size))
  clear L2 L5 C1 C2 hZ1 hZ2 NA BW HW
  generalize z.w = w2 at *
  clear z
  have c7 := NA2.out.c (k := 7) (v := .int .i64 x.N.q) (by rw [← HV.out]; rfl)
  have c6 := NA2.out.c (k := 6) (v := .int .i64 x.N.p) (by rw [← HV.out]; rfl)
  go_upto_region 5 with fail
  go_cut [6] from 23 to 30 (fun a wx => a = .bool (wi x.N.q 1 64) ∧ wx = w2)
  case first =>
   go_wp2_with fail
   all_goals (go_meet; exact ⟨congrArg Value.bool (by unfold wi; first | (simp; omega) | (simp [*]; done)), rfl⟩)
  case rest =>
   obtain ⟨rfl, rfl⟩ := hcut
   clear c7
   go_upto_region 6 with fail
   go_cut [7] from 31 to 38 (fun a wx => a = .bool (wi x.N.p 1 65535) ∧ wx = wc)
   case first =>
    go_wp2_with fail
    all_goals (go_meet; exact ⟨congrArg Value.bool (by unfold wi; first | (simp; omega) | (simp [*]; done)), rfl⟩)
   case rest =>
    obtain ⟨rfl, rfl⟩ := hcut
    clear c6
    have hD := HH.out.Q.keep B2.out
    have C := rising182 x.uQ x.N.Q 64 wc hD
    obtain ⟨aD, cD, eD, -⟩ := hD
    rw [eD] at C
    have c15 := NA2.out.c (k := 15) (v := .slice aD x.N.Q.length cD) (by rw [← HV.out, ← eD]; rfl)
    clear eD
    by_cases hn : 0 < x.N.Q.length
    ·have j1 : (x.N.Q.length : Int) ≥ 1 := by omega
     have HN := Lib.hid hn
     clear hn
     generalize x.N.Q.length = n at *
     go_wp2_with fail
     refine C.mono ?_
     rintro e w3 ⟨⟨r, hr, rfl⟩, hb⟩
     have HR := Lib.hid hr
     have B3 := Lib.hid (B2.out.trans (hb.mono B2.out.size))
     clear hr hb C
     go_wp2_with fail
     go_ret
     exact ⟨say_is (HR.out.trans ⟨fun k => HRR.out.1 ⟨HE.out, HN.out, k⟩, fun k => (HRR.out.2 k).2.2⟩), B3.out⟩
    ·have j1 : ¬ (x.N.Q.length : Int) ≥ 1 := by omega
     have HN := Lib.hid hn
     clear hn C
     generalize x.N.Q.length = n at *
     go_wp2_with fail
     go_ret
     exact ⟨say_no (fun k => HN.out (HRR.out.2 k).2.1), B2.out⟩
 ·have HC2 := Lib.hid (fun z : Grow W => (C2.out z).mono fun e w' (h : Say e _ ∧ _) => And.intro (say_f h.1 hE) h.2)
  clear C2
  have HE := Lib.hid hE
  clear hE
  go_enter Tryz.func111, Tryz.ntmps111
  go_wp2_with fail
  rw [HW.out]
  have L2 := HL2.out
  have L5 := HL5.out
  have C1 := HC1.out
  have C2 := HC2.out
  clear HL2 HL5 HC1 HC2 v0 v1 v2 v3 v4 v5 l0 s0 l00 hz
  refine wp_region_grow (by kernel_rfl) (by kernel_rfl) ?_
  repeat (go_big_quiet_step (first | (go_at_call 179; with_reducible exact calls_grow (C1 _)) | (go_at_call 23; with_reducible exact calls_grow (C2 _))))
  refine wpQuiet_nil ?_
  rintro w2 ⟨z, rfl⟩
  have B2 := Lib.hid (BW.out.trans (z.b.mono BW.out.size))
  clear L2 L5 C1 C2 hZ1 hZ2 NA BW HW
  generalize z.w = w2 at *
  clear z
  go_wp2_with fail
  go_ret
  exact ⟨say_no (fun k => HE.out (HRR.out.2 k).1), B2.out⟩

end Go.Proofs.YtcgmmfcphfkdhaaGreat

/- Walks: the reference's content, of the kind 4. -/
namespace Go.Proofs.YtcgmmfcphfkdhaaGreat
open Go Go.RowKit Go.Proofs

set_option maxRecDepth 100000 in
set_option maxHeartbeats 4000000 in
theorem content111_4 (x : Nv) (w : World) (h : NV w x) :
  Calls Tryz.prog 111 #[.agg x.arr, .int .i64 4] w fun e w' => Say e ((bar x).N = (us4 x).N ∧ ((wi (x.N.P.length : Int) 1 64 = true ∧ Ris x.N.P 65535) ∧ wi x.N.t 1 8 = true)) ∧ Below w.heap.size w w' := by
 obtain ⟨RR, hRR⟩ : ∃ RR : Prop, ((bar x).N = (us4 x).N ∧ ((wi (x.N.P.length : Int) 1 64 = true ∧ Ris x.N.P 65535) ∧ wi x.N.t 1 8 = true)) = RR := ⟨_, rfl⟩
 rw [hRR]
 have HRR := Lib.hid (Iff.of_eq hRR)
 clear hRR
 obtain ⟨m, hm, ⟨hm0, hm1, hm2⟩, hs40⟩ := m40.out
 obtain ⟨FS, hu40, fs0, fs1, fs2, fs3, fs4, fs5, fs6, fs7, fs8, fs9, fs10, fs11, fs12, fs13, fs14, fs15⟩ := f40.out
 obtain ⟨Z, hz, hZ1, hZ2⟩ := z40.out
 have n0 := NB.new w x.arr 40
 have b0 : Below w.heap.size w (w.alloc (.cells x.arr 40)) := (Below.refl _ _).alloc (Nat.le_refl _) _
 have l0 := n0.load (m := m) ((arr_size x).trans hm)
 have s0 : (storeCells ⟨w.heap.size + 1, 0, none⟩ x.arr.toList 0).run Tryz.prog ((w.alloc (.cells x.arr 40)).alloc (.cells Z 40)) = .ok () ((w.alloc (.cells x.arr 40)).alloc (.cells x.arr 40)) := by
  have := run_storeCells_new (P := Tryz.prog) (w.alloc (.cells x.arr 40)) 40 Z x.arr (by rw [arr_size]; kernel_rfl) (by rw [hZ1, arr_size]) h.one
  rwa [World.size_alloc] at this
 have l00 := (n0.alloc (.cells Z 40)).load (m := m) ((arr_size x).trans hm)
 have hsz : x.arr.size = m := (arr_size x).trans hm
 have bW := b0.alloc b0.size (.cells (bset x.arr) 40)
 have nA := n0.alloc (.cells (bset x.arr) 40)
 have nB := nb1 w (.cells x.arr 40) (bset x.arr) 40
 obtain ⟨W, hW⟩ : ∃ W, (w.alloc (.cells x.arr 40)).alloc (.cells (bset x.arr) 40) = W := ⟨_, rfl⟩
 rw [hW] at bW nA nB
 rw [bar_arr x] at nB
 have v0 : x.arr[0]? = some (.int .i64 x.N.b) := rfl
 have v1 : x.arr[1]? = some (.int .i64 x.N.n) := rfl
 have v2 : x.arr[2]? = some (.int .i64 x.N.c) := rfl
 have v3 : x.arr[3]? = some (.int .i64 x.N.y) := rfl
 have v4 : x.arr[4]? = some (.int .i64 x.N.k) := rfl
 have v5 : x.arr[5]? = some (.int .i64 x.N.f) := rfl
 have L2 := fun z : Grow W => (nA.keep z.b).load (m := m) ((arr_size x).trans hm)
 have L5 := fun z : Grow W => (nB.keep z.b).load (m := m) ((arr_size (bar x)).trans hm)
 have C1 := fun z : Grow W => used179_4 x z.w ((h.keep bW).keep z.b)
 have C2 := Lib.hid (fun z : Grow W => sameNote_any (bar x) (us4 x) z.w (bar_nv ((h.keep bW).keep z.b)) (us4_nv ((h.keep bW).keep z.b)))
 have C2' := C2
 have NA := Lib.hid nA
 have HH := Lib.hid h
 have BW := Lib.hid bW
 have HM := Lib.hid hm
 obtain ⟨V, hV⟩ : ∃ V, x.arr = V := ⟨_, rfl⟩
 rw [hV] at NA
 have HV := Lib.hid hV
 rw [hV] at l0 s0 l00 hsz hW L2 C1 v0 v1 v2 v3 v4 v5 ⊢
 have HW := Lib.hid hW
 clear hV n0 b0 nA nB bW h hm hW C2'
 generalize hUa : (bar x).arr = U at *
 generalize hUb : (us4 x).arr = T at *
 clear hUa hUb
 have HL2 := Lib.hid L2
 have HL5 := Lib.hid L5
 have HC1 := Lib.hid C1
 clear L2 L5 C1
 generalize x.N.b = gb at v0
 generalize x.N.n = gn at v1
 generalize x.N.c = gc at v2
 generalize x.N.y = gy at v3
 generalize x.N.k = gk at v4
 generalize x.N.f = gf at v5
 by_cases hE : (bar x).N = (us4 x).N
 ·have HC2 := Lib.hid (fun z : Grow W => (C2.out z).mono fun e w' (h : Say e _ ∧ _) => And.intro (say_t h.1 hE) h.2)
  clear C2
  have HE := Lib.hid hE
  clear hE
  go_enter Tryz.func111, Tryz.ntmps111
  go_wp2_with fail
  rw [HW.out]
  have L2 := HL2.out
  have L5 := HL5.out
  have C1 := HC1.out
  have C2 := HC2.out
  clear HL2 HL5 HC1 HC2 v0 v1 v2 v3 v4 v5 l0 s0 l00 hz
  refine wp_region_grow (by kernel_rfl) (by kernel_rfl) ?_
  repeat (go_big_quiet_step (first | (go_at_call 179; with_reducible exact calls_grow (C1 _)) | (go_at_call 23; with_reducible exact calls_grow (C2 _))))
  refine wpQuiet_nil ?_
  rintro w2 ⟨z, rfl⟩
  have NA2 := Lib.hid (NA.out.keep z.b)
  have B2 := Lib.hid (BW.out.trans (z.b.mono BW.out.size))
  clear L2 L5 C1 C2 hZ1 hZ2 NA BW HW
  generalize z.w = w2 at *
  clear z
  have c7 := NA2.out.c (k := 7) (v := .int .i64 x.N.q) (by rw [← HV.out]; rfl)
  have c6 := NA2.out.c (k := 6) (v := .int .i64 x.N.p) (by rw [← HV.out]; rfl)
  go_upto_region 5 with fail
  go_cut [6] from 23 to 30 (fun a wx => a = .bool (wi x.N.q 1 64) ∧ wx = w2)
  case first =>
   go_wp2_with fail
   all_goals (go_meet; exact ⟨congrArg Value.bool (by unfold wi; first | (simp; omega) | (simp [*]; done)), rfl⟩)
  case rest =>
   obtain ⟨rfl, rfl⟩ := hcut
   clear c7
   go_upto_region 6 with fail
   go_cut [7] from 31 to 38 (fun a wx => a = .bool (wi x.N.p 1 65535) ∧ wx = wc)
   case first =>
    go_wp2_with fail
    all_goals (go_meet; exact ⟨congrArg Value.bool (by unfold wi; first | (simp; omega) | (simp [*]; done)), rfl⟩)
   case rest =>
    obtain ⟨rfl, rfl⟩ := hcut
    clear c6
    have hD := HH.out.P.keep B2.out
    have C := rising182 x.uP x.N.P 65535 wc hD
    obtain ⟨aD, cD, eD, -⟩ := hD
    rw [eD] at C
    have c14 := NA2.out.c (k := 14) (v := .slice aD x.N.P.length cD) (by rw [← HV.out, ← eD]; rfl)
    have hw : wi (x.N.P.length : Int) 1 64 = true ↔ (1 ≤ (x.N.P.length : Int) ∧ (x.N.P.length : Int) ≤ 64) := by unfold wi; simp
    have hw2 : wi x.N.t 1 8 = true ↔ (1 ≤ x.N.t ∧ x.N.t ≤ 8) := by unfold wi; simp
    have HW1 := Lib.hid hw
    have HW2 := Lib.hid hw2
    clear eD hw hw2
    generalize wi (x.N.P.length : Int) 1 64 = pw at *
    generalize wi x.N.t 1 8 = pt at *
    have K9 := Lib.hid (fun w3 (hb : Below wc.heap.size wc w3) => (NA2.out.keep hb).c (k := 9) (v := .int .i64 x.N.t) (by rw [← HV.out]; rfl))
    generalize x.N.t = t at *
    by_cases hn : 1 ≤ (x.N.P.length : Int)
    ·by_cases hn2 : (x.N.P.length : Int) ≤ 64
     ·have HN : Hid (pw = true) := Lib.hid (HW1.out.2 ⟨hn, hn2⟩)
      generalize x.N.P.length = n at *
      go_wp2_with fail
      refine C.mono ?_
      rintro e w3 ⟨⟨r, hr, rfl⟩, hb⟩
      have HR := Lib.hid hr
      have c9 := K9.out w3 hb
      have B3 := Lib.hid (B2.out.trans (hb.mono B2.out.size))
      clear hr hb C hn hn2
      cases r
      ·go_wp2_with fail
       go_ret
       exact ⟨say_no (fun k => by have := HR.out.2 (HRR.out.2 k).2.1.2; simp at this), B3.out⟩
      ·by_cases h1 : 1 ≤ t
       ·by_cases h2 : t ≤ 8
        ·go_wp2_with fail
         go_ret
         exact ⟨say_yes (HRR.out.1 ⟨HE.out, ⟨HN.out, HR.out.1 (by simp)⟩, HW2.out.2 ⟨h1, h2⟩⟩), B3.out⟩
        ·have d2 : decide (t ≤ 8) = false := decide_eq_false h2
         go_wp2_with fail
         go_ret
         exact ⟨say_no (fun k => by have := (HW2.out.1 (HRR.out.2 k).2.2).2; omega), B3.out⟩
       ·go_wp2_with fail
        go_ret
        exact ⟨say_no (fun k => by have := (HW2.out.1 (HRR.out.2 k).2.2).1; omega), B3.out⟩
     ·have HN : Hid (¬ pw = true) := Lib.hid fun k => hn2 (HW1.out.1 k).2
      clear C
      generalize x.N.P.length = n at *
      go_wp2_with fail
      go_ret
      exact ⟨say_no (fun k => HN.out (HRR.out.2 k).2.1.1), B2.out⟩
    ·have HN : Hid (¬ pw = true) := Lib.hid fun k => hn (HW1.out.1 k).1
     clear C
     generalize x.N.P.length = n at *
     go_wp2_with fail
     go_ret
     exact ⟨say_no (fun k => HN.out (HRR.out.2 k).2.1.1), B2.out⟩
 ·have HC2 := Lib.hid (fun z : Grow W => (C2.out z).mono fun e w' (h : Say e _ ∧ _) => And.intro (say_f h.1 hE) h.2)
  clear C2
  have HE := Lib.hid hE
  clear hE
  go_enter Tryz.func111, Tryz.ntmps111
  go_wp2_with fail
  rw [HW.out]
  have L2 := HL2.out
  have L5 := HL5.out
  have C1 := HC1.out
  have C2 := HC2.out
  clear HL2 HL5 HC1 HC2 v0 v1 v2 v3 v4 v5 l0 s0 l00 hz
  refine wp_region_grow (by kernel_rfl) (by kernel_rfl) ?_
  repeat (go_big_quiet_step (first | (go_at_call 179; with_reducible exact calls_grow (C1 _)) | (go_at_call 23; with_reducible exact calls_grow (C2 _))))
  refine wpQuiet_nil ?_
  rintro w2 ⟨z, rfl⟩
  have B2 := Lib.hid (BW.out.trans (z.b.mono BW.out.size))
  clear L2 L5 C1 C2 hZ1 hZ2 NA BW HW
  generalize z.w = w2 at *
  clear z
  go_wp2_with fail
  go_ret
  exact ⟨say_no (fun k => HE.out (HRR.out.2 k).1), B2.out⟩

end Go.Proofs.YtcgmmfcphfkdhaaGreat

/- Walks: the reference's content, of the kind 5. -/
namespace Go.Proofs.YtcgmmfcphfkdhaaGreat
open Go Go.RowKit Go.Proofs

set_option maxRecDepth 100000 in
set_option maxHeartbeats 4000000 in
theorem content111_5 (x : Nv) (w : World) (h : NV w x) :
  Calls Tryz.prog 111 #[.agg x.arr, .int .i64 5] w fun e w' => Say e ((bar x).N = (us5 x).N ∧ vRf x.N.rb x.N.rn = true) ∧ Below w.heap.size w w' := by
 obtain ⟨RR, hRR⟩ : ∃ RR : Prop, ((bar x).N = (us5 x).N ∧ vRf x.N.rb x.N.rn = true) = RR := ⟨_, rfl⟩
 rw [hRR]
 have HRR := Lib.hid (Iff.of_eq hRR)
 clear hRR
 obtain ⟨m, hm, ⟨hm0, hm1, hm2⟩, hs40⟩ := m40.out
 obtain ⟨FS, hu40, fs0, fs1, fs2, fs3, fs4, fs5, fs6, fs7, fs8, fs9, fs10, fs11, fs12, fs13, fs14, fs15⟩ := f40.out
 obtain ⟨Z, hz, hZ1, hZ2⟩ := z40.out
 have n0 := NB.new w x.arr 40
 have b0 : Below w.heap.size w (w.alloc (.cells x.arr 40)) := (Below.refl _ _).alloc (Nat.le_refl _) _
 have l0 := n0.load (m := m) ((arr_size x).trans hm)
 have s0 : (storeCells ⟨w.heap.size + 1, 0, none⟩ x.arr.toList 0).run Tryz.prog ((w.alloc (.cells x.arr 40)).alloc (.cells Z 40)) = .ok () ((w.alloc (.cells x.arr 40)).alloc (.cells x.arr 40)) := by
  have := run_storeCells_new (P := Tryz.prog) (w.alloc (.cells x.arr 40)) 40 Z x.arr (by rw [arr_size]; kernel_rfl) (by rw [hZ1, arr_size]) h.one
  rwa [World.size_alloc] at this
 have l00 := (n0.alloc (.cells Z 40)).load (m := m) ((arr_size x).trans hm)
 have hsz : x.arr.size = m := (arr_size x).trans hm
 have bW := b0.alloc b0.size (.cells (bset x.arr) 40)
 have nA := n0.alloc (.cells (bset x.arr) 40)
 have nB := nb1 w (.cells x.arr 40) (bset x.arr) 40
 obtain ⟨W, hW⟩ : ∃ W, (w.alloc (.cells x.arr 40)).alloc (.cells (bset x.arr) 40) = W := ⟨_, rfl⟩
 rw [hW] at bW nA nB
 rw [bar_arr x] at nB
 have v0 : x.arr[0]? = some (.int .i64 x.N.b) := rfl
 have v1 : x.arr[1]? = some (.int .i64 x.N.n) := rfl
 have v2 : x.arr[2]? = some (.int .i64 x.N.c) := rfl
 have v3 : x.arr[3]? = some (.int .i64 x.N.y) := rfl
 have v4 : x.arr[4]? = some (.int .i64 x.N.k) := rfl
 have v5 : x.arr[5]? = some (.int .i64 x.N.f) := rfl
 have L2 := fun z : Grow W => (nA.keep z.b).load (m := m) ((arr_size x).trans hm)
 have L5 := fun z : Grow W => (nB.keep z.b).load (m := m) ((arr_size (bar x)).trans hm)
 have C1 := fun z : Grow W => used179_5 x z.w ((h.keep bW).keep z.b)
 have C2 := Lib.hid (fun z : Grow W => sameNote_any (bar x) (us5 x) z.w (bar_nv ((h.keep bW).keep z.b)) (us5_nv ((h.keep bW).keep z.b)))
 have C2' := C2
 have NA := Lib.hid nA
 have HH := Lib.hid h
 have BW := Lib.hid bW
 have HM := Lib.hid hm
 obtain ⟨V, hV⟩ : ∃ V, x.arr = V := ⟨_, rfl⟩
 rw [hV] at NA
 have HV := Lib.hid hV
 rw [hV] at l0 s0 l00 hsz hW L2 C1 v0 v1 v2 v3 v4 v5 ⊢
 have HW := Lib.hid hW
 clear hV n0 b0 nA nB bW h hm hW C2'
 generalize hUa : (bar x).arr = U at *
 generalize hUb : (us5 x).arr = T at *
 clear hUa hUb
 have HL2 := Lib.hid L2
 have HL5 := Lib.hid L5
 have HC1 := Lib.hid C1
 clear L2 L5 C1
 generalize x.N.b = gb at v0
 generalize x.N.n = gn at v1
 generalize x.N.c = gc at v2
 generalize x.N.y = gy at v3
 generalize x.N.k = gk at v4
 generalize x.N.f = gf at v5
 by_cases hE : (bar x).N = (us5 x).N
 ·have HC2 := Lib.hid (fun z : Grow W => (C2.out z).mono fun e w' (h : Say e _ ∧ _) => And.intro (say_t h.1 hE) h.2)
  clear C2
  have HE := Lib.hid hE
  clear hE
  go_enter Tryz.func111, Tryz.ntmps111
  go_wp2_with fail
  rw [HW.out]
  have L2 := HL2.out
  have L5 := HL5.out
  have C1 := HC1.out
  have C2 := HC2.out
  clear HL2 HL5 HC1 HC2 v0 v1 v2 v3 v4 v5 l0 s0 l00 hz
  refine wp_region_grow (by kernel_rfl) (by kernel_rfl) ?_
  repeat (go_big_quiet_step (first | (go_at_call 179; with_reducible exact calls_grow (C1 _)) | (go_at_call 23; with_reducible exact calls_grow (C2 _))))
  refine wpQuiet_nil ?_
  rintro w2 ⟨z, rfl⟩
  have NA2 := Lib.hid (NA.out.keep z.b)
  have B2 := Lib.hid (BW.out.trans (z.b.mono BW.out.size))
  clear L2 L5 C1 C2 hZ1 hZ2 NA BW HW
  generalize z.w = w2 at *
  clear z
  have c7 := NA2.out.c (k := 7) (v := .int .i64 x.N.q) (by rw [← HV.out]; rfl)
  have c6 := NA2.out.c (k := 6) (v := .int .i64 x.N.p) (by rw [← HV.out]; rfl)
  go_upto_region 5 with fail
  go_cut [6] from 23 to 30 (fun a wx => a = .bool (wi x.N.q 1 64) ∧ wx = w2)
  case first =>
   go_wp2_with fail
   all_goals (go_meet; exact ⟨congrArg Value.bool (by unfold wi; first | (simp; omega) | (simp [*]; done)), rfl⟩)
  case rest =>
   obtain ⟨rfl, rfl⟩ := hcut
   clear c7
   go_upto_region 6 with fail
   go_cut [7] from 31 to 38 (fun a wx => a = .bool (wi x.N.p 1 65535) ∧ wx = wc)
   case first =>
    go_wp2_with fail
    all_goals (go_meet; exact ⟨congrArg Value.bool (by unfold wi; first | (simp; omega) | (simp [*]; done)), rfl⟩)
   case rest =>
    obtain ⟨rfl, rfl⟩ := hcut
    clear c6
    have C := ref110 x.N.rb x.N.rn wc
    have c12 := NA2.out.c (k := 12) (v := .int .i64 x.N.rb) (by rw [← HV.out]; rfl)
    have c13 := NA2.out.c (k := 13) (v := .int .i64 x.N.rn) (by rw [← HV.out]; rfl)
    generalize vRf x.N.rb x.N.rn = p at *
    go_wp2_with fail
    refine C.mono ?_
    rintro e w3 ⟨rfl, hb⟩
    have B3 := Lib.hid (B2.out.trans (hb.mono B2.out.size))
    clear hb C
    go_wp2_with fail
    go_ret
    exact ⟨say_is ⟨fun k => HRR.out.1 ⟨HE.out, k⟩, fun k => (HRR.out.2 k).2⟩, B3.out⟩
 ·have HC2 := Lib.hid (fun z : Grow W => (C2.out z).mono fun e w' (h : Say e _ ∧ _) => And.intro (say_f h.1 hE) h.2)
  clear C2
  have HE := Lib.hid hE
  clear hE
  go_enter Tryz.func111, Tryz.ntmps111
  go_wp2_with fail
  rw [HW.out]
  have L2 := HL2.out
  have L5 := HL5.out
  have C1 := HC1.out
  have C2 := HC2.out
  clear HL2 HL5 HC1 HC2 v0 v1 v2 v3 v4 v5 l0 s0 l00 hz
  refine wp_region_grow (by kernel_rfl) (by kernel_rfl) ?_
  repeat (go_big_quiet_step (first | (go_at_call 179; with_reducible exact calls_grow (C1 _)) | (go_at_call 23; with_reducible exact calls_grow (C2 _))))
  refine wpQuiet_nil ?_
  rintro w2 ⟨z, rfl⟩
  have B2 := Lib.hid (BW.out.trans (z.b.mono BW.out.size))
  clear L2 L5 C1 C2 hZ1 hZ2 NA BW HW
  generalize z.w = w2 at *
  clear z
  go_wp2_with fail
  go_ret
  exact ⟨say_no (fun k => HE.out (HRR.out.2 k).1), B2.out⟩

end Go.Proofs.YtcgmmfcphfkdhaaGreat

/- Walks: the reference's content, of the kind 6. -/
namespace Go.Proofs.YtcgmmfcphfkdhaaGreat
open Go Go.RowKit Go.Proofs

set_option maxRecDepth 100000 in
set_option maxHeartbeats 4000000 in
theorem content111_6 (x : Nv) (w : World) (h : NV w x) :
  Calls Tryz.prog 111 #[.agg x.arr, .int .i64 6] w fun e w' => Say e ((bar x).N = (us6 x).N ∧ (wi x.N.q 1 64 = true ∧ (sPc x.N = true ∨ sGl x.N = true))) ∧ Below w.heap.size w w' := by
 obtain ⟨RR, hRR⟩ : ∃ RR : Prop, ((bar x).N = (us6 x).N ∧ (wi x.N.q 1 64 = true ∧ (sPc x.N = true ∨ sGl x.N = true))) = RR := ⟨_, rfl⟩
 rw [hRR]
 have HRR := Lib.hid (Iff.of_eq hRR)
 clear hRR
 obtain ⟨m, hm, ⟨hm0, hm1, hm2⟩, hs40⟩ := m40.out
 obtain ⟨FS, hu40, fs0, fs1, fs2, fs3, fs4, fs5, fs6, fs7, fs8, fs9, fs10, fs11, fs12, fs13, fs14, fs15⟩ := f40.out
 obtain ⟨Z, hz, hZ1, hZ2⟩ := z40.out
 have n0 := NB.new w x.arr 40
 have b0 : Below w.heap.size w (w.alloc (.cells x.arr 40)) := (Below.refl _ _).alloc (Nat.le_refl _) _
 have l0 := n0.load (m := m) ((arr_size x).trans hm)
 have s0 : (storeCells ⟨w.heap.size + 1, 0, none⟩ x.arr.toList 0).run Tryz.prog ((w.alloc (.cells x.arr 40)).alloc (.cells Z 40)) = .ok () ((w.alloc (.cells x.arr 40)).alloc (.cells x.arr 40)) := by
  have := run_storeCells_new (P := Tryz.prog) (w.alloc (.cells x.arr 40)) 40 Z x.arr (by rw [arr_size]; kernel_rfl) (by rw [hZ1, arr_size]) h.one
  rwa [World.size_alloc] at this
 have l00 := (n0.alloc (.cells Z 40)).load (m := m) ((arr_size x).trans hm)
 have hsz : x.arr.size = m := (arr_size x).trans hm
 have bW := b0.alloc b0.size (.cells (bset x.arr) 40)
 have nA := n0.alloc (.cells (bset x.arr) 40)
 have nB := nb1 w (.cells x.arr 40) (bset x.arr) 40
 obtain ⟨W, hW⟩ : ∃ W, (w.alloc (.cells x.arr 40)).alloc (.cells (bset x.arr) 40) = W := ⟨_, rfl⟩
 rw [hW] at bW nA nB
 rw [bar_arr x] at nB
 have v0 : x.arr[0]? = some (.int .i64 x.N.b) := rfl
 have v1 : x.arr[1]? = some (.int .i64 x.N.n) := rfl
 have v2 : x.arr[2]? = some (.int .i64 x.N.c) := rfl
 have v3 : x.arr[3]? = some (.int .i64 x.N.y) := rfl
 have v4 : x.arr[4]? = some (.int .i64 x.N.k) := rfl
 have v5 : x.arr[5]? = some (.int .i64 x.N.f) := rfl
 have L2 := fun z : Grow W => (nA.keep z.b).load (m := m) ((arr_size x).trans hm)
 have L5 := fun z : Grow W => (nB.keep z.b).load (m := m) ((arr_size (bar x)).trans hm)
 have C1 := fun z : Grow W => used179_6 x z.w ((h.keep bW).keep z.b)
 have C2 := Lib.hid (fun z : Grow W => sameNote_any (bar x) (us6 x) z.w (bar_nv ((h.keep bW).keep z.b)) (us6_nv ((h.keep bW).keep z.b)))
 have C2' := C2
 have NA := Lib.hid nA
 have HH := Lib.hid h
 have BW := Lib.hid bW
 have HM := Lib.hid hm
 obtain ⟨V, hV⟩ : ∃ V, x.arr = V := ⟨_, rfl⟩
 rw [hV] at NA
 have HV := Lib.hid hV
 rw [hV] at l0 s0 l00 hsz hW L2 C1 v0 v1 v2 v3 v4 v5 ⊢
 have HW := Lib.hid hW
 clear hV n0 b0 nA nB bW h hm hW C2'
 generalize hUa : (bar x).arr = U at *
 generalize hUb : (us6 x).arr = T at *
 clear hUa hUb
 have HL2 := Lib.hid L2
 have HL5 := Lib.hid L5
 have HC1 := Lib.hid C1
 clear L2 L5 C1
 generalize x.N.b = gb at v0
 generalize x.N.n = gn at v1
 generalize x.N.c = gc at v2
 generalize x.N.y = gy at v3
 generalize x.N.k = gk at v4
 generalize x.N.f = gf at v5
 by_cases hE : (bar x).N = (us6 x).N
 ·have HC2 := Lib.hid (fun z : Grow W => (C2.out z).mono fun e w' (h : Say e _ ∧ _) => And.intro (say_t h.1 hE) h.2)
  clear C2
  have HE := Lib.hid hE
  clear hE
  go_enter Tryz.func111, Tryz.ntmps111
  go_wp2_with fail
  rw [HW.out]
  have L2 := HL2.out
  have L5 := HL5.out
  have C1 := HC1.out
  have C2 := HC2.out
  clear HL2 HL5 HC1 HC2 v0 v1 v2 v3 v4 v5 l0 s0 l00 hz
  refine wp_region_grow (by kernel_rfl) (by kernel_rfl) ?_
  repeat (go_big_quiet_step (first | (go_at_call 179; with_reducible exact calls_grow (C1 _)) | (go_at_call 23; with_reducible exact calls_grow (C2 _))))
  refine wpQuiet_nil ?_
  rintro w2 ⟨z, rfl⟩
  have NA2 := Lib.hid (NA.out.keep z.b)
  have B2 := Lib.hid (BW.out.trans (z.b.mono BW.out.size))
  clear L2 L5 C1 C2 hZ1 hZ2 NA BW HW
  generalize z.w = w2 at *
  clear z
  have c7 := NA2.out.c (k := 7) (v := .int .i64 x.N.q) (by rw [← HV.out]; rfl)
  have c6 := NA2.out.c (k := 6) (v := .int .i64 x.N.p) (by rw [← HV.out]; rfl)
  go_upto_region 5 with fail
  go_cut [6] from 23 to 30 (fun a wx => a = .bool (wi x.N.q 1 64) ∧ wx = w2)
  case first =>
   go_wp2_with fail
   all_goals (go_meet; exact ⟨congrArg Value.bool (by unfold wi; first | (simp; omega) | (simp [*]; done)), rfl⟩)
  case rest =>
   obtain ⟨rfl, rfl⟩ := hcut
   clear c7
   go_upto_region 6 with fail
   go_cut [7] from 31 to 38 (fun a wx => a = .bool (wi x.N.p 1 65535) ∧ wx = wc)
   case first =>
    go_wp2_with fail
    all_goals (go_meet; exact ⟨congrArg Value.bool (by unfold wi; first | (simp; omega) | (simp [*]; done)), rfl⟩)
   case rest =>
    obtain ⟨rfl, rfl⟩ := hcut
    clear c6
    have c6 := NA2.out.c (k := 6) (v := .int .i64 x.N.p) (by rw [← HV.out]; rfl)
    have c8 := NA2.out.c (k := 8) (v := .int .i64 x.N.o) (by rw [← HV.out]; rfl)
    have c10 := NA2.out.c (k := 10) (v := .int .i64 x.N.sh) (by rw [← HV.out]; rfl)
    have c11 := NA2.out.c (k := 11) (v := .bool x.N.bk) (by rw [← HV.out]; rfl)
    obtain ⟨b7, h7⟩ : ∃ b, wi x.N.p 1 65535 = b := ⟨_, rfl⟩
    rw [h7]
    have H7 := Lib.hid h7
    clear h7
    obtain ⟨b6, h6⟩ : ∃ b, wi x.N.q 1 64 = b := ⟨_, rfl⟩
    rw [h6]
    have H6 := Lib.hid h6
    clear h6
    go_upto_region 19 with fail
    go_cut [8] from 101 to 119 (fun a wx => a = .bool (sGl x.N) ∧ wx = wc)
    case first =>
     obtain ⟨bk, hbk⟩ : ∃ b, x.N.bk = b := ⟨_, rfl⟩
     rw [hbk] at c11
     have HBK := Lib.hid hbk
     clear hbk
     cases bk
     all_goals go_wp2_with fail
     all_goals (go_meet; exact ⟨congrArg Value.bool (by unfold sGl wi; rw [HBK.out]; first | (simp [*]; done) | (simp [*]; omega)), rfl⟩)
    case rest =>
     obtain ⟨rfl, rfl⟩ := hcut
     clear c6 c11
     go_upto_region 20 with fail
     go_cut [9] from 120 to 137 (fun a wx => a = .bool (sPc x.N) ∧ wx = wc)
     case first =>
      cases b7
      all_goals go_wp2_with fail
      all_goals (go_meet; exact ⟨congrArg Value.bool (by unfold sPc; rw [H7.out]; unfold wi; first | rfl | (simp [*]; done) | (simp [*]; omega)), rfl⟩)
     case rest =>
      obtain ⟨rfl, rfl⟩ := hcut
      clear c8 c10
      generalize sGl x.N = sg at *
      generalize sPc x.N = sp at *
      have h6 := H6.out
      rw [h6] at HRR
      clear h6
      cases b6 <;> cases sg <;> cases sp
      all_goals go_wp2_with fail
      all_goals go_ret
      all_goals first
       | exact ⟨say_yes (HRR.out.1 ⟨HE.out, by simp⟩), B2.out⟩
       | exact ⟨say_no (fun k => by have := (HRR.out.2 k).2; simp at this), B2.out⟩
 ·have HC2 := Lib.hid (fun z : Grow W => (C2.out z).mono fun e w' (h : Say e _ ∧ _) => And.intro (say_f h.1 hE) h.2)
  clear C2
  have HE := Lib.hid hE
  clear hE
  go_enter Tryz.func111, Tryz.ntmps111
  go_wp2_with fail
  rw [HW.out]
  have L2 := HL2.out
  have L5 := HL5.out
  have C1 := HC1.out
  have C2 := HC2.out
  clear HL2 HL5 HC1 HC2 v0 v1 v2 v3 v4 v5 l0 s0 l00 hz
  refine wp_region_grow (by kernel_rfl) (by kernel_rfl) ?_
  repeat (go_big_quiet_step (first | (go_at_call 179; with_reducible exact calls_grow (C1 _)) | (go_at_call 23; with_reducible exact calls_grow (C2 _))))
  refine wpQuiet_nil ?_
  rintro w2 ⟨z, rfl⟩
  have B2 := Lib.hid (BW.out.trans (z.b.mono BW.out.size))
  clear L2 L5 C1 C2 hZ1 hZ2 NA BW HW
  generalize z.w = w2 at *
  clear z
  go_wp2_with fail
  go_ret
  exact ⟨say_no (fun k => HE.out (HRR.out.2 k).1), B2.out⟩

end Go.Proofs.YtcgmmfcphfkdhaaGreat

/- Walks: the reference's content, of the kind 7. -/
namespace Go.Proofs.YtcgmmfcphfkdhaaGreat
open Go Go.RowKit Go.Proofs

set_option maxRecDepth 100000 in
set_option maxHeartbeats 4000000 in
theorem content111_7 (x : Nv) (w : World) (h : NV w x) :
  Calls Tryz.prog 111 #[.agg x.arr, .int .i64 7] w fun e w' => Say e ((bar x).N = (us7 x).N ∧ wi x.N.q 1 64 = true) ∧ Below w.heap.size w w' := by
 obtain ⟨RR, hRR⟩ : ∃ RR : Prop, ((bar x).N = (us7 x).N ∧ wi x.N.q 1 64 = true) = RR := ⟨_, rfl⟩
 rw [hRR]
 have HRR := Lib.hid (Iff.of_eq hRR)
 clear hRR
 obtain ⟨m, hm, ⟨hm0, hm1, hm2⟩, hs40⟩ := m40.out
 obtain ⟨FS, hu40, fs0, fs1, fs2, fs3, fs4, fs5, fs6, fs7, fs8, fs9, fs10, fs11, fs12, fs13, fs14, fs15⟩ := f40.out
 obtain ⟨Z, hz, hZ1, hZ2⟩ := z40.out
 have n0 := NB.new w x.arr 40
 have b0 : Below w.heap.size w (w.alloc (.cells x.arr 40)) := (Below.refl _ _).alloc (Nat.le_refl _) _
 have l0 := n0.load (m := m) ((arr_size x).trans hm)
 have s0 : (storeCells ⟨w.heap.size + 1, 0, none⟩ x.arr.toList 0).run Tryz.prog ((w.alloc (.cells x.arr 40)).alloc (.cells Z 40)) = .ok () ((w.alloc (.cells x.arr 40)).alloc (.cells x.arr 40)) := by
  have := run_storeCells_new (P := Tryz.prog) (w.alloc (.cells x.arr 40)) 40 Z x.arr (by rw [arr_size]; kernel_rfl) (by rw [hZ1, arr_size]) h.one
  rwa [World.size_alloc] at this
 have l00 := (n0.alloc (.cells Z 40)).load (m := m) ((arr_size x).trans hm)
 have hsz : x.arr.size = m := (arr_size x).trans hm
 have bW := b0.alloc b0.size (.cells (bset x.arr) 40)
 have nA := n0.alloc (.cells (bset x.arr) 40)
 have nB := nb1 w (.cells x.arr 40) (bset x.arr) 40
 obtain ⟨W, hW⟩ : ∃ W, (w.alloc (.cells x.arr 40)).alloc (.cells (bset x.arr) 40) = W := ⟨_, rfl⟩
 rw [hW] at bW nA nB
 rw [bar_arr x] at nB
 have v0 : x.arr[0]? = some (.int .i64 x.N.b) := rfl
 have v1 : x.arr[1]? = some (.int .i64 x.N.n) := rfl
 have v2 : x.arr[2]? = some (.int .i64 x.N.c) := rfl
 have v3 : x.arr[3]? = some (.int .i64 x.N.y) := rfl
 have v4 : x.arr[4]? = some (.int .i64 x.N.k) := rfl
 have v5 : x.arr[5]? = some (.int .i64 x.N.f) := rfl
 have L2 := fun z : Grow W => (nA.keep z.b).load (m := m) ((arr_size x).trans hm)
 have L5 := fun z : Grow W => (nB.keep z.b).load (m := m) ((arr_size (bar x)).trans hm)
 have C1 := fun z : Grow W => used179_7 x z.w ((h.keep bW).keep z.b)
 have C2 := Lib.hid (fun z : Grow W => sameNote_any (bar x) (us7 x) z.w (bar_nv ((h.keep bW).keep z.b)) (us7_nv ((h.keep bW).keep z.b)))
 have C2' := C2
 have NA := Lib.hid nA
 have HH := Lib.hid h
 have BW := Lib.hid bW
 have HM := Lib.hid hm
 obtain ⟨V, hV⟩ : ∃ V, x.arr = V := ⟨_, rfl⟩
 rw [hV] at NA
 have HV := Lib.hid hV
 rw [hV] at l0 s0 l00 hsz hW L2 C1 v0 v1 v2 v3 v4 v5 ⊢
 have HW := Lib.hid hW
 clear hV n0 b0 nA nB bW h hm hW C2'
 generalize hUa : (bar x).arr = U at *
 generalize hUb : (us7 x).arr = T at *
 clear hUa hUb
 have HL2 := Lib.hid L2
 have HL5 := Lib.hid L5
 have HC1 := Lib.hid C1
 clear L2 L5 C1
 generalize x.N.b = gb at v0
 generalize x.N.n = gn at v1
 generalize x.N.c = gc at v2
 generalize x.N.y = gy at v3
 generalize x.N.k = gk at v4
 generalize x.N.f = gf at v5
 by_cases hE : (bar x).N = (us7 x).N
 ·have HC2 := Lib.hid (fun z : Grow W => (C2.out z).mono fun e w' (h : Say e _ ∧ _) => And.intro (say_t h.1 hE) h.2)
  clear C2
  have HE := Lib.hid hE
  clear hE
  go_enter Tryz.func111, Tryz.ntmps111
  go_wp2_with fail
  rw [HW.out]
  have L2 := HL2.out
  have L5 := HL5.out
  have C1 := HC1.out
  have C2 := HC2.out
  clear HL2 HL5 HC1 HC2 v0 v1 v2 v3 v4 v5 l0 s0 l00 hz
  refine wp_region_grow (by kernel_rfl) (by kernel_rfl) ?_
  repeat (go_big_quiet_step (first | (go_at_call 179; with_reducible exact calls_grow (C1 _)) | (go_at_call 23; with_reducible exact calls_grow (C2 _))))
  refine wpQuiet_nil ?_
  rintro w2 ⟨z, rfl⟩
  have NA2 := Lib.hid (NA.out.keep z.b)
  have B2 := Lib.hid (BW.out.trans (z.b.mono BW.out.size))
  clear L2 L5 C1 C2 hZ1 hZ2 NA BW HW
  generalize z.w = w2 at *
  clear z
  have c7 := NA2.out.c (k := 7) (v := .int .i64 x.N.q) (by rw [← HV.out]; rfl)
  have c6 := NA2.out.c (k := 6) (v := .int .i64 x.N.p) (by rw [← HV.out]; rfl)
  go_upto_region 5 with fail
  go_cut [6] from 23 to 30 (fun a wx => a = .bool (wi x.N.q 1 64) ∧ wx = w2)
  case first =>
   go_wp2_with fail
   all_goals (go_meet; exact ⟨congrArg Value.bool (by unfold wi; first | (simp; omega) | (simp [*]; done)), rfl⟩)
  case rest =>
   obtain ⟨rfl, rfl⟩ := hcut
   clear c7
   go_upto_region 6 with fail
   go_cut [7] from 31 to 38 (fun a wx => a = .bool (wi x.N.p 1 65535) ∧ wx = wc)
   case first =>
    go_wp2_with fail
    all_goals (go_meet; exact ⟨congrArg Value.bool (by unfold wi; first | (simp; omega) | (simp [*]; done)), rfl⟩)
   case rest =>
    obtain ⟨rfl, rfl⟩ := hcut
    clear c6
    generalize wi x.N.q 1 64 = p at *
    go_wp2_with fail
    go_ret
    exact ⟨say_is ⟨fun k => HRR.out.1 ⟨HE.out, k⟩, fun k => (HRR.out.2 k).2⟩, B2.out⟩
 ·have HC2 := Lib.hid (fun z : Grow W => (C2.out z).mono fun e w' (h : Say e _ ∧ _) => And.intro (say_f h.1 hE) h.2)
  clear C2
  have HE := Lib.hid hE
  clear hE
  go_enter Tryz.func111, Tryz.ntmps111
  go_wp2_with fail
  rw [HW.out]
  have L2 := HL2.out
  have L5 := HL5.out
  have C1 := HC1.out
  have C2 := HC2.out
  clear HL2 HL5 HC1 HC2 v0 v1 v2 v3 v4 v5 l0 s0 l00 hz
  refine wp_region_grow (by kernel_rfl) (by kernel_rfl) ?_
  repeat (go_big_quiet_step (first | (go_at_call 179; with_reducible exact calls_grow (C1 _)) | (go_at_call 23; with_reducible exact calls_grow (C2 _))))
  refine wpQuiet_nil ?_
  rintro w2 ⟨z, rfl⟩
  have B2 := Lib.hid (BW.out.trans (z.b.mono BW.out.size))
  clear L2 L5 C1 C2 hZ1 hZ2 NA BW HW
  generalize z.w = w2 at *
  clear z
  go_wp2_with fail
  go_ret
  exact ⟨say_no (fun k => HE.out (HRR.out.2 k).1), B2.out⟩

end Go.Proofs.YtcgmmfcphfkdhaaGreat

/- Walks: the reference's content, of the kind 8. -/
namespace Go.Proofs.YtcgmmfcphfkdhaaGreat
open Go Go.RowKit Go.Proofs

set_option maxRecDepth 100000 in
set_option maxHeartbeats 4000000 in
theorem content111_8 (x : Nv) (w : World) (h : NV w x) :
  Calls Tryz.prog 111 #[.agg x.arr, .int .i64 8] w fun e w' => Say e ((bar x).N = (us8 x).N ∧ ((wi x.N.p 1 65535 = true ∧ wi (x.N.D.length : Int) 1 4 = true) ∧ Dat x.N.D)) ∧ Below w.heap.size w w' := by
 obtain ⟨RR, hRR⟩ : ∃ RR : Prop, ((bar x).N = (us8 x).N ∧ ((wi x.N.p 1 65535 = true ∧ wi (x.N.D.length : Int) 1 4 = true) ∧ Dat x.N.D)) = RR := ⟨_, rfl⟩
 rw [hRR]
 have HRR := Lib.hid (Iff.of_eq hRR)
 clear hRR
 obtain ⟨m, hm, ⟨hm0, hm1, hm2⟩, hs40⟩ := m40.out
 obtain ⟨FS, hu40, fs0, fs1, fs2, fs3, fs4, fs5, fs6, fs7, fs8, fs9, fs10, fs11, fs12, fs13, fs14, fs15⟩ := f40.out
 obtain ⟨Z, hz, hZ1, hZ2⟩ := z40.out
 have n0 := NB.new w x.arr 40
 have b0 : Below w.heap.size w (w.alloc (.cells x.arr 40)) := (Below.refl _ _).alloc (Nat.le_refl _) _
 have l0 := n0.load (m := m) ((arr_size x).trans hm)
 have s0 : (storeCells ⟨w.heap.size + 1, 0, none⟩ x.arr.toList 0).run Tryz.prog ((w.alloc (.cells x.arr 40)).alloc (.cells Z 40)) = .ok () ((w.alloc (.cells x.arr 40)).alloc (.cells x.arr 40)) := by
  have := run_storeCells_new (P := Tryz.prog) (w.alloc (.cells x.arr 40)) 40 Z x.arr (by rw [arr_size]; kernel_rfl) (by rw [hZ1, arr_size]) h.one
  rwa [World.size_alloc] at this
 have l00 := (n0.alloc (.cells Z 40)).load (m := m) ((arr_size x).trans hm)
 have hsz : x.arr.size = m := (arr_size x).trans hm
 have bW := b0.alloc b0.size (.cells (bset x.arr) 40)
 have nA := n0.alloc (.cells (bset x.arr) 40)
 have nB := nb1 w (.cells x.arr 40) (bset x.arr) 40
 obtain ⟨W, hW⟩ : ∃ W, (w.alloc (.cells x.arr 40)).alloc (.cells (bset x.arr) 40) = W := ⟨_, rfl⟩
 rw [hW] at bW nA nB
 rw [bar_arr x] at nB
 have v0 : x.arr[0]? = some (.int .i64 x.N.b) := rfl
 have v1 : x.arr[1]? = some (.int .i64 x.N.n) := rfl
 have v2 : x.arr[2]? = some (.int .i64 x.N.c) := rfl
 have v3 : x.arr[3]? = some (.int .i64 x.N.y) := rfl
 have v4 : x.arr[4]? = some (.int .i64 x.N.k) := rfl
 have v5 : x.arr[5]? = some (.int .i64 x.N.f) := rfl
 have L2 := fun z : Grow W => (nA.keep z.b).load (m := m) ((arr_size x).trans hm)
 have L5 := fun z : Grow W => (nB.keep z.b).load (m := m) ((arr_size (bar x)).trans hm)
 have C1 := fun z : Grow W => used179_8 x z.w ((h.keep bW).keep z.b)
 have C2 := Lib.hid (fun z : Grow W => sameNote_any (bar x) (us8 x) z.w (bar_nv ((h.keep bW).keep z.b)) (us8_nv ((h.keep bW).keep z.b)))
 have C2' := C2
 have NA := Lib.hid nA
 have HH := Lib.hid h
 have BW := Lib.hid bW
 have HM := Lib.hid hm
 obtain ⟨V, hV⟩ : ∃ V, x.arr = V := ⟨_, rfl⟩
 rw [hV] at NA
 have HV := Lib.hid hV
 rw [hV] at l0 s0 l00 hsz hW L2 C1 v0 v1 v2 v3 v4 v5 ⊢
 have HW := Lib.hid hW
 clear hV n0 b0 nA nB bW h hm hW C2'
 generalize hUa : (bar x).arr = U at *
 generalize hUb : (us8 x).arr = T at *
 clear hUa hUb
 have HL2 := Lib.hid L2
 have HL5 := Lib.hid L5
 have HC1 := Lib.hid C1
 clear L2 L5 C1
 generalize x.N.b = gb at v0
 generalize x.N.n = gn at v1
 generalize x.N.c = gc at v2
 generalize x.N.y = gy at v3
 generalize x.N.k = gk at v4
 generalize x.N.f = gf at v5
 by_cases hE : (bar x).N = (us8 x).N
 ·have HC2 := Lib.hid (fun z : Grow W => (C2.out z).mono fun e w' (h : Say e _ ∧ _) => And.intro (say_t h.1 hE) h.2)
  clear C2
  have HE := Lib.hid hE
  clear hE
  go_enter Tryz.func111, Tryz.ntmps111
  go_wp2_with fail
  rw [HW.out]
  have L2 := HL2.out
  have L5 := HL5.out
  have C1 := HC1.out
  have C2 := HC2.out
  clear HL2 HL5 HC1 HC2 v0 v1 v2 v3 v4 v5 l0 s0 l00 hz
  refine wp_region_grow (by kernel_rfl) (by kernel_rfl) ?_
  repeat (go_big_quiet_step (first | (go_at_call 179; with_reducible exact calls_grow (C1 _)) | (go_at_call 23; with_reducible exact calls_grow (C2 _))))
  refine wpQuiet_nil ?_
  rintro w2 ⟨z, rfl⟩
  have NA2 := Lib.hid (NA.out.keep z.b)
  have B2 := Lib.hid (BW.out.trans (z.b.mono BW.out.size))
  clear L2 L5 C1 C2 hZ1 hZ2 NA BW HW
  generalize z.w = w2 at *
  clear z
  have c7 := NA2.out.c (k := 7) (v := .int .i64 x.N.q) (by rw [← HV.out]; rfl)
  have c6 := NA2.out.c (k := 6) (v := .int .i64 x.N.p) (by rw [← HV.out]; rfl)
  go_upto_region 5 with fail
  go_cut [6] from 23 to 30 (fun a wx => a = .bool (wi x.N.q 1 64) ∧ wx = w2)
  case first =>
   go_wp2_with fail
   all_goals (go_meet; exact ⟨congrArg Value.bool (by unfold wi; first | (simp; omega) | (simp [*]; done)), rfl⟩)
  case rest =>
   obtain ⟨rfl, rfl⟩ := hcut
   clear c7
   go_upto_region 6 with fail
   go_cut [7] from 31 to 38 (fun a wx => a = .bool (wi x.N.p 1 65535) ∧ wx = wc)
   case first =>
    go_wp2_with fail
    all_goals (go_meet; exact ⟨congrArg Value.bool (by unfold wi; first | (simp; omega) | (simp [*]; done)), rfl⟩)
   case rest =>
    obtain ⟨rfl, rfl⟩ := hcut
    clear c6
    have hD := HH.out.D.keep B2.out
    have C := given180 x.uD x.N.D wc hD
    obtain ⟨aD, cD, eD, -⟩ := hD
    rw [eD] at C
    have c16 := NA2.out.c (k := 16) (v := .slice aD x.N.D.length cD) (by rw [← HV.out, ← eD]; rfl)
    have hw : wi (x.N.D.length : Int) 1 4 = true ↔ (1 ≤ (x.N.D.length : Int) ∧ (x.N.D.length : Int) ≤ 4) := by unfold wi; simp
    have HW1 := Lib.hid hw
    clear eD hw
    generalize wi (x.N.D.length : Int) 1 4 = pw at *
    generalize wi x.N.p 1 65535 = pp at *
    cases pp
    ·clear C
     generalize x.N.D.length = n at *
     go_wp2_with fail
     go_ret
     exact ⟨say_no (fun k => by have := (HRR.out.2 k).2.1.1; simp at this), B2.out⟩
    ·by_cases hn : 1 ≤ (x.N.D.length : Int)
     ·by_cases hn2 : (x.N.D.length : Int) ≤ 4
      ·have HN : Hid (pw = true) := Lib.hid (HW1.out.2 ⟨hn, hn2⟩)
       generalize x.N.D.length = n at *
       go_wp2_with fail
       refine C.mono ?_
       rintro e w3 ⟨⟨r, hr, rfl⟩, hb⟩
       have HR := Lib.hid hr
       have B3 := Lib.hid (B2.out.trans (hb.mono B2.out.size))
       clear hr hb C
       go_wp2_with fail
       go_ret
       exact ⟨say_is (HR.out.trans ⟨fun k => HRR.out.1 ⟨HE.out, ⟨by simp, HN.out⟩, k⟩, fun k => (HRR.out.2 k).2.2⟩), B3.out⟩
      ·have HN : Hid (¬ pw = true) := Lib.hid fun k => hn2 (HW1.out.1 k).2
       clear C
       generalize x.N.D.length = n at *
       go_wp2_with fail
       go_ret
       exact ⟨say_no (fun k => HN.out (HRR.out.2 k).2.1.2), B2.out⟩
     ·have HN : Hid (¬ pw = true) := Lib.hid fun k => hn (HW1.out.1 k).1
      clear C
      generalize x.N.D.length = n at *
      go_wp2_with fail
      go_ret
      exact ⟨say_no (fun k => HN.out (HRR.out.2 k).2.1.2), B2.out⟩
 ·have HC2 := Lib.hid (fun z : Grow W => (C2.out z).mono fun e w' (h : Say e _ ∧ _) => And.intro (say_f h.1 hE) h.2)
  clear C2
  have HE := Lib.hid hE
  clear hE
  go_enter Tryz.func111, Tryz.ntmps111
  go_wp2_with fail
  rw [HW.out]
  have L2 := HL2.out
  have L5 := HL5.out
  have C1 := HC1.out
  have C2 := HC2.out
  clear HL2 HL5 HC1 HC2 v0 v1 v2 v3 v4 v5 l0 s0 l00 hz
  refine wp_region_grow (by kernel_rfl) (by kernel_rfl) ?_
  repeat (go_big_quiet_step (first | (go_at_call 179; with_reducible exact calls_grow (C1 _)) | (go_at_call 23; with_reducible exact calls_grow (C2 _))))
  refine wpQuiet_nil ?_
  rintro w2 ⟨z, rfl⟩
  have B2 := Lib.hid (BW.out.trans (z.b.mono BW.out.size))
  clear L2 L5 C1 C2 hZ1 hZ2 NA BW HW
  generalize z.w = w2 at *
  clear z
  go_wp2_with fail
  go_ret
  exact ⟨say_no (fun k => HE.out (HRR.out.2 k).1), B2.out⟩

end Go.Proofs.YtcgmmfcphfkdhaaGreat
