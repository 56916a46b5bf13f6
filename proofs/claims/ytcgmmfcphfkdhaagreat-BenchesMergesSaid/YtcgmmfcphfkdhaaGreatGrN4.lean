/- The abstract machine, part GrN4. -/
import Derived.Test.YtcgmmfcphfkdhaaGreatGrN3
import Derived.Deep.WholeRow
/- Walks: the content of a note. -/
namespace Go.Proofs.YtcgmmfcphfkdhaaGreat
open Go Go.RowKit Go.Proofs

def zN : Value := .agg #[.int .i64 0, .int .i64 0, .int .i64 0, .int .i64 0, .int .i64 0, .int .i64 0, .int .i64 0, .int .i64 0, .int .i64 0, .int .i64 0, .int .i64 0, .bool false, .int .i64 0, .int .i64 0, .slice none 0 0, .slice none 0 0, .slice none 0 0,
  .int .i64 0, .int .i64 0, .int .i64 0, .int .i64 0, .int .i64 0, .int .i64 0, .int .i64 0, .slice none 0 0, .slice none 0 0, .int .i64 0, .int .i64 0, .slice none 0 0]

def zA : Array Value := zN.cells
theorem zA_run (w : World) : (zeroValue 40).run Tryz.prog w = .ok (.agg zA) w := Tryz.zeroValue40 w

theorem z40 : Hid (∃ Z : Array Value, (∀ w, (zeroValue 40).run Tryz.prog w = .ok (.agg Z) w) ∧ Z.size = 29 ∧ Z.all (·.oneCell') = true) := Lib.hid ⟨zA, zA_run, by kernel_rfl, by kernel_rfl⟩

theorem below_set {w W : World} (h : Below w.heap.size w W) {b : Nat} (hb : w.heap.size ≤ b) (o : Nat) (u : Value) : Below w.heap.size w (W.setCell ⟨b, o, none⟩ u) :=
  ⟨h.os, h.tape, h.output, by rw [size_set]; exact h.size, fun k hk => (heap_set (by omega)).trans (h.block k hk)⟩

theorem slp_nil (w : World) : SlP w (.slice none 0 0) [] := ⟨none, 0, rfl, by simp, fun k hk => absurd hk (Nat.not_lt_zero k)⟩
theorem sli_nil (w : World) : SlI w (.slice none 0 0) [] := ⟨none, 0, rfl, by simp, fun k hk => absurd hk (Nat.not_lt_zero k)⟩
theorem sls_nil (w : World) : SlS w (.slice none 0 0) [] := ⟨none, 0, rfl, by simp, fun k hk => absurd hk (Nat.not_lt_zero k)⟩

abbrev It0 : It := ⟨0, 0, 0, 0, 0, 0, 0, [], [], 0, 0, []⟩
abbrev nilS : Value := .slice none 0 0

end Go.Proofs.YtcgmmfcphfkdhaaGreat

/- Walks: the content of a note of the kind 1. -/
namespace Go.Proofs.YtcgmmfcphfkdhaaGreat
open Go Go.RowKit Go.Proofs

set_option maxRecDepth 100000 in
set_option maxHeartbeats 4000000 in
theorem content115_1 (x : Nv) (w : World) (h : NV w x) :
  Calls Tryz.prog 115 #[.agg x.arr, .int .i64 1] w fun e w' => Say e ((x.N.D.length = 1 ∧ Dat x.N.D) ∧ blN { x.N with D := [] } = true) ∧ Below w.heap.size w w' := by
 obtain ⟨RR, hRR⟩ : ∃ RR : Prop, ((x.N.D.length = 1 ∧ Dat x.N.D) ∧ blN { x.N with D := [] } = true) = RR := ⟨_, rfl⟩
 rw [hRR]
 have HRR := Lib.hid (Iff.of_eq hRR)
 clear hRR
 obtain ⟨m, hm, ⟨hm0, hm1, hm2⟩, hs40⟩ := m40.out
 obtain ⟨FS, hu40, fs0, fs1, fs2, fs3, fs4, fs5, fs6, fs7, fs8, fs9, fs10, fs11, fs12, fs13, fs14, fs15⟩ := f40.out
 obtain ⟨Z, hz, hZ1, hZ2⟩ := z40.out
 have n0 := NB.new w x.arr 40
 have hl1d : (loadCellsFrom ⟨w.heap.size, 0, none⟩ 0 m #[]).run Tryz.prog (w.alloc (.cells x.arr 40)).drew = .ok x.arr (w.alloc (.cells x.arr 40)).drew := NB.load (w := (w.alloc (.cells x.arr 40)).drew) (V := x.arr) (t := 40) n0 ((arr_size x).trans hm)
 have hl2d : (loadCellsFrom ⟨w.heap.size, 0, none⟩ 0 m #[]).run Tryz.prog ((w.alloc (.cells x.arr 40)).alloc (.cells Z 40)).drew = .ok x.arr ((w.alloc (.cells x.arr 40)).alloc (.cells Z 40)).drew := NB.load (w := ((w.alloc (.cells x.arr 40)).alloc (.cells Z 40)).drew) (V := x.arr) (t := 40) (n0.alloc (.cells Z 40)) ((arr_size x).trans hm)
 have hstd : (storeCells ⟨w.heap.size + 1, 0, none⟩ x.arr.toList 0).run Tryz.prog ((w.alloc (.cells x.arr 40)).alloc (.cells Z 40)).drew = .ok () ((w.alloc (.cells x.arr 40)).alloc (.cells x.arr 40)).drew := by
  have := run_storeCells_new (P := Tryz.prog) (w.alloc (.cells x.arr 40)).drew 40 Z x.arr (by rw [arr_size]; kernel_rfl) (by rw [hZ1, arr_size]) h.one
  rw [show (w.alloc (.cells x.arr 40)).drew.heap.size = w.heap.size + 1 from World.size_alloc _ _] at this
  exact this
 have hsz : x.arr.size = m := (arr_size x).trans hm
 have HM := Lib.hid hm
 have nA : NB ((w.alloc (.cells x.arr 40)).alloc (.cells x.arr 40)).drew w.heap.size x.arr 40 := n0.alloc _
 have nB : NB ((w.alloc (.cells x.arr 40)).alloc (.cells x.arr 40)).drew (w.heap.size + 1) x.arr 40 := nb1 w (.cells x.arr 40) x.arr 40
 have bW : Below w.heap.size w ((w.alloc (.cells x.arr 40)).alloc (.cells x.arr 40)).drew := by
  have bb : Below w.heap.size w ((w.alloc (.cells x.arr 40)).alloc (.cells x.arr 40)) := ((Below.refl _ _).alloc (Nat.le_refl _) _).alloc (by simp) _
  exact ⟨bb.os, bb.tape, bb.output, bb.size, bb.block⟩
 obtain ⟨V, hV⟩ : ∃ V, x.arr = V := ⟨_, rfl⟩
 rw [hV] at n0 hl1d hl2d hstd hsz nA nB bW ⊢
 obtain ⟨W, hW⟩ : ∃ W, ((w.alloc (.cells V 40)).alloc (.cells V 40)).drew = W := ⟨_, rfl⟩
 rw [hW] at nA nB bW
 have HV := Lib.hid hV
 have HW := Lib.hid hW
 have HN := Lib.hid h
 have NA := Lib.hid nA
 have NBB := Lib.hid nB
 have BW := Lib.hid bW
 clear hm n0 nA nB bW hV hW h
 have CD := fun hl => data184 x.uD x.N.D hl W (HN.out.D.keep BW.out)
 obtain ⟨aD, cD, eD, -⟩ := HN.out.D
 rw [eD] at CD
 have c16 := NA.out.c (k := 16) (v := .slice aD x.N.D.length cD) (by rw [← HV.out, ← eD]; rfl)
 clear eD
 by_cases hn : x.N.D.length = 1
 ·have C := CD (by omega)
  have j1 : (x.N.D.length : Int) = 1 := by omega
  by_cases hd : Dat x.N.D
  ·replace C := C.mono fun e w' h => And.intro (say_t h.1 hd) h.2
   have HD := Lib.hid (And.intro hn hd)
   clear hd hn CD
   generalize x.N.D.length = nD at *
   go_enter Tryz.func115, Tryz.ntmps115
   go_wp2_with fail
   go_region
   rw [HW.out]
   clear hl1d hl2d hstd hz hZ1 hZ2
   go_wp2_with fail
   refine C.mono ?_
   rintro e w1 ⟨rfl, hb⟩
   have t16 := (NBB.out.keep hb).c (k := 16) (v := x.uD) (by rw [← HV.out]; rfl)
   have t16f := (NBB.out.keep hb).f 16
   obtain ⟨x', hx'⟩ : ∃ x' : Nv, ({ x with N := { x.N with D := [] }, uD := .slice none 0 0 } : Nv) = x' := ⟨_, rfl⟩
   have hb3 := (below_set (BW.out.trans ((hb).mono BW.out.size)) (Nat.le_succ _) 16 (.slice none 0 0))
   have hl3 := NB.load (m := m) (V := x'.arr) (t := 40) (by rw [← hx']; have := ((NBB.out.keep (hb)).set 16 (.slice none 0 0)); rw [← HV.out] at this; exact this) ((arr_size x').trans HM.out)
   have CB := blank116 x' (w1.setCell ⟨w.heap.size + 1, 16, none⟩ (.slice none 0 0)) (by rw [← hx']; exact ⟨HN.out.P.keep hb3, HN.out.Q.keep hb3, slp_nil _, ⟨HN.out.X.P.keep hb3, HN.out.X.C.keep hb3, HN.out.X.S.keep hb3⟩⟩)
   have HE : Hid (blN x'.N = true ↔ (RR)) := Lib.hid (by rw [← hx']; exact ⟨fun k => HRR.out.1 ⟨HD.out, k⟩, fun k => (HRR.out.2 k).2⟩)
   have HB3 := Lib.hid hb3
   clear hb3 hx'
   generalize x'.arr = V' at *
   generalize blN x'.N = bl at *
   clear hb C
   go_wp2_with fail
   refine CB.mono ?_
   rintro e w9 ⟨rfl, hb9⟩
   have HB9 := Lib.hid (HB3.out.trans (hb9.mono HB3.out.size))
   clear hb9 CB hl3
   go_wp2_with fail
   go_ret
   exact ⟨say_is HE.out, HB9.out⟩
  ·replace C := C.mono fun e w' h => And.intro (say_f h.1 hd) h.2
   have HF := Lib.hid (fun k : x.N.D.length = 1 ∧ Dat x.N.D => hd k.2)
   clear hd hn CD
   generalize x.N.D.length = nD at *
   go_enter Tryz.func115, Tryz.ntmps115
   go_wp2_with fail
   go_region
   rw [HW.out]
   clear hl1d hl2d hstd hz hZ1 hZ2
   go_wp2_with fail
   refine C.mono ?_
   rintro e w1 ⟨rfl, hb⟩
   have t16 := (NBB.out.keep hb).c (k := 16) (v := x.uD) (by rw [← HV.out]; rfl)
   have t16f := (NBB.out.keep hb).f 16
   have HB := Lib.hid (below_set (BW.out.trans (hb.mono BW.out.size)) (Nat.le_succ _) 16 (.slice none 0 0))
   clear hb C
   go_wp2_with fail
   go_ret
   exact ⟨say_no (fun k => HF.out (HRR.out.2 k).1), HB.out⟩
 ·have j1 : ¬ (x.N.D.length : Int) = 1 := by omega
  have HF := Lib.hid (fun k : x.N.D.length = 1 ∧ Dat x.N.D => hn k.1)
  clear hn CD
  have t16 := NBB.out.c (k := 16) (v := x.uD) (by rw [← HV.out]; rfl)
  have t16f := NBB.out.f 16
  generalize x.N.D.length = nD at *
  go_enter Tryz.func115, Tryz.ntmps115
  go_wp2_with fail
  go_region
  rw [HW.out]
  clear hl1d hl2d hstd hz hZ1 hZ2
  have HB := Lib.hid (below_set BW.out (Nat.le_succ _) 16 (.slice none 0 0))
  go_wp2_with fail
  go_ret
  exact ⟨say_no (fun k => HF.out (HRR.out.2 k).1), HB.out⟩

end Go.Proofs.YtcgmmfcphfkdhaaGreat

/- Storing the empty item into a note. -/
namespace Go.Proofs.YtcgmmfcphfkdhaaGreat
open Go Go.RowKit Go.Proofs

abbrev z12 : Array Value := #[.int .i64 0, .int .i64 0, .int .i64 0, .int .i64 0, .int .i64 0, .int .i64 0, .int .i64 0, .slice none 0 0, .slice none 0 0, .int .i64 0, .int .i64 0, .slice none 0 0]

set_option maxRecDepth 100000 in
theorem set12 {w : World} {B : Nat} {x : Nv} (h : NB w B x.arr 40) : NB (w.setCells B 17 z12.toList) B (Nv.arr { x with N := { x.N with X := It0 }, iP := .slice none 0 0, iC := .slice none 0 0, iS := .slice none 0 0 }) 40 := by
  have h0 : NB _ B (Nv.arr { x with N := { x.N with X := { x.N.X with id := 0 } } }) 40 := h.set 17 (.int .i64 0)
  have h1 : NB _ B (Nv.arr { x with N := { x.N with X := { x.N.X with id := 0, k := 0 } } }) 40 := h0.set 18 (.int .i64 0)
  have h2 : NB _ B (Nv.arr { x with N := { x.N with X := { x.N.X with id := 0, k := 0, y := 0 } } }) 40 := h1.set 19 (.int .i64 0)
  have h3 : NB _ B (Nv.arr { x with N := { x.N with X := { x.N.X with id := 0, k := 0, y := 0, f := 0 } } }) 40 := h2.set 20 (.int .i64 0)
  have h4 : NB _ B (Nv.arr { x with N := { x.N with X := { x.N.X with id := 0, k := 0, y := 0, f := 0, p := 0 } } }) 40 := h3.set 21 (.int .i64 0)
  have h5 : NB _ B (Nv.arr { x with N := { x.N with X := { x.N.X with id := 0, k := 0, y := 0, f := 0, p := 0, l := 0 } } }) 40 := h4.set 22 (.int .i64 0)
  have h6 : NB _ B (Nv.arr { x with N := { x.N with X := { x.N.X with id := 0, k := 0, y := 0, f := 0, p := 0, l := 0, s := 0 } } }) 40 := h5.set 23 (.int .i64 0)
  have h7 : NB _ B (Nv.arr { x with N := { x.N with X := { x.N.X with id := 0, k := 0, y := 0, f := 0, p := 0, l := 0, s := 0 } }, iP := .slice none 0 0 }) 40 := h6.set 24 (.slice none 0 0)
  have h8 : NB _ B (Nv.arr { x with N := { x.N with X := { x.N.X with id := 0, k := 0, y := 0, f := 0, p := 0, l := 0, s := 0 } }, iP := .slice none 0 0, iC := .slice none 0 0 }) 40 := h7.set 25 (.slice none 0 0)
  have h9 : NB _ B (Nv.arr { x with N := { x.N with X := { x.N.X with id := 0, k := 0, y := 0, f := 0, p := 0, l := 0, s := 0, lo := 0 } }, iP := .slice none 0 0, iC := .slice none 0 0 }) 40 := h8.set 26 (.int .i64 0)
  have h10 : NB _ B (Nv.arr { x with N := { x.N with X := { x.N.X with id := 0, k := 0, y := 0, f := 0, p := 0, l := 0, s := 0, lo := 0, hi := 0 } }, iP := .slice none 0 0, iC := .slice none 0 0 }) 40 := h9.set 27 (.int .i64 0)
  exact h10.set 28 (.slice none 0 0)

theorem below_sets {w W : World} (h : Below w.heap.size w W) {b : Nat} (hb : w.heap.size ≤ b) : ∀ (l : List Value) (o : Nat), Below w.heap.size w (W.setCells b o l)
  | [], _ => h
  | v :: l, o => below_sets (below_set h hb o v) hb l (o + 1)

theorem store12 {w : World} {B : Nat} {x : Nv} (h : NB w B x.arr 40) : (storeCells ⟨B, 17, none⟩ z12.toList 0).run Tryz.prog w = .ok () (w.setCells B 17 z12.toList) := by
  have := run_storeVar_mid (P := Tryz.prog) w B 17 38 z12 (fun j hj => by
    have hj : j < 12 := hj
    refine ⟨?_, h.f _⟩
    have hs : (x.arr[17 + j]?).isSome = true := by
      rw [Array.getElem?_eq_getElem (by rw [arr_size]; omega)]; rfl
    obtain ⟨v, hv⟩ := Option.isSome_iff_exists.1 hs
    rw [h.c hv]
    rfl) (by kernel_rfl) (by kernel_rfl)
  simpa [storeVar, Tryz.sizeOf38, Value.cells] using this

end Go.Proofs.YtcgmmfcphfkdhaaGreat

/- Walks: the content of a note of the kind 2. -/
namespace Go.Proofs.YtcgmmfcphfkdhaaGreat
open Go Go.RowKit Go.Proofs

set_option maxRecDepth 100000 in
set_option maxHeartbeats 4000000 in
theorem content115_2 (x : Nv) (w : World) (h : NV w x) :
  Calls Tryz.prog 115 #[.agg x.arr, .int .i64 2] w fun e w' => Say e (vRc x.N.X = true ∧ blN { x.N with X := It0 } = true) ∧ Below w.heap.size w w' := by
 obtain ⟨RR, hRR⟩ : ∃ RR : Prop, (vRc x.N.X = true ∧ blN { x.N with X := It0 } = true) = RR := ⟨_, rfl⟩
 rw [hRR]
 have HRR := Lib.hid (Iff.of_eq hRR)
 clear hRR
 obtain ⟨m, hm, ⟨hm0, hm1, hm2⟩, hs40⟩ := m40.out
 obtain ⟨FS, hu40, fs0, fs1, fs2, fs3, fs4, fs5, fs6, fs7, fs8, fs9, fs10, fs11, fs12, fs13, fs14, fs15⟩ := f40.out
 obtain ⟨Z, hz, hZ1, hZ2⟩ := z40.out
 have n0 := NB.new w x.arr 40
 have hl1d : (loadCellsFrom ⟨w.heap.size, 0, none⟩ 0 m #[]).run Tryz.prog (w.alloc (.cells x.arr 40)).drew = .ok x.arr (w.alloc (.cells x.arr 40)).drew := NB.load (w := (w.alloc (.cells x.arr 40)).drew) (V := x.arr) (t := 40) n0 ((arr_size x).trans hm)
 have hl2d : (loadCellsFrom ⟨w.heap.size, 0, none⟩ 0 m #[]).run Tryz.prog ((w.alloc (.cells x.arr 40)).alloc (.cells Z 40)).drew = .ok x.arr ((w.alloc (.cells x.arr 40)).alloc (.cells Z 40)).drew := NB.load (w := ((w.alloc (.cells x.arr 40)).alloc (.cells Z 40)).drew) (V := x.arr) (t := 40) (n0.alloc (.cells Z 40)) ((arr_size x).trans hm)
 have hstd : (storeCells ⟨w.heap.size + 1, 0, none⟩ x.arr.toList 0).run Tryz.prog ((w.alloc (.cells x.arr 40)).alloc (.cells Z 40)).drew = .ok () ((w.alloc (.cells x.arr 40)).alloc (.cells x.arr 40)).drew := by
  have := run_storeCells_new (P := Tryz.prog) (w.alloc (.cells x.arr 40)).drew 40 Z x.arr (by rw [arr_size]; kernel_rfl) (by rw [hZ1, arr_size]) h.one
  rw [show (w.alloc (.cells x.arr 40)).drew.heap.size = w.heap.size + 1 from World.size_alloc _ _] at this
  exact this
 have hsz : x.arr.size = m := (arr_size x).trans hm
 have HM := Lib.hid hm
 have nA : NB ((w.alloc (.cells x.arr 40)).alloc (.cells x.arr 40)).drew w.heap.size x.arr 40 := n0.alloc _
 have nB : NB ((w.alloc (.cells x.arr 40)).alloc (.cells x.arr 40)).drew (w.heap.size + 1) x.arr 40 := nb1 w (.cells x.arr 40) x.arr 40
 have bW : Below w.heap.size w ((w.alloc (.cells x.arr 40)).alloc (.cells x.arr 40)).drew := by
  have bb : Below w.heap.size w ((w.alloc (.cells x.arr 40)).alloc (.cells x.arr 40)) := ((Below.refl _ _).alloc (Nat.le_refl _) _).alloc (by simp) _
  exact ⟨bb.os, bb.tape, bb.output, bb.size, bb.block⟩
 obtain ⟨V, hV⟩ : ∃ V, x.arr = V := ⟨_, rfl⟩
 rw [hV] at n0 hl1d hl2d hstd hsz nA nB bW ⊢
 obtain ⟨W, hW⟩ : ∃ W, ((w.alloc (.cells V 40)).alloc (.cells V 40)).drew = W := ⟨_, rfl⟩
 rw [hW] at nA nB bW
 have HV := Lib.hid hV
 have HW := Lib.hid hW
 have HN := Lib.hid h
 have NA := Lib.hid nA
 have NBB := Lib.hid nB
 have BW := Lib.hid bW
 clear hm n0 nA nB bW hV hW h
 obtain ⟨m', hm', ⟨hm0', hm1', hm2'⟩, hs38⟩ := m38.out
 have hz38 : ∀ w, (zeroValue 38).run Tryz.prog w = .ok (.agg z12) w := Tryz.zeroValue38
 have hz12 : z12.size = m' := hm'
 have C := record185 x W (HN.out.X.keep BW.out)
 have lX : (loadCellsFrom ⟨w.heap.size, 17, none⟩ 0 m' #[]).run Tryz.prog W = .ok x.itm W := NB.loadX (x := x) (t := 40) (by rw [HV.out]; exact NA.out) hm'
 clear hm'
 obtain ⟨p, hp⟩ : ∃ p, vRc x.N.X = p := ⟨_, rfl⟩
 rw [hp] at C
 have S12 := Lib.hid (fun w1 (h : NB w1 (w.heap.size + 1) x.arr 40) => And.intro (store12 h) (set12 h))
 obtain ⟨Y, hY⟩ : ∃ Y, z12 = Y := ⟨_, rfl⟩
 rw [hY] at hz38 hz12 S12
 clear hY
 generalize x.itm = I at *
 cases p
 ·have HF := Lib.hid (fun k : vRc x.N.X = true => show False from by rw [hp] at k; simp at k)
  clear hp
  go_enter Tryz.func115, Tryz.ntmps115
  go_wp2_with fail
  go_region
  rw [HW.out]
  clear hl1d hl2d hstd hz hZ1 hZ2
  go_wp2_with fail
  refine C.mono ?_
  rintro e w1 ⟨rfl, hb⟩
  obtain ⟨r1, n3⟩ := S12.out w1 (by rw [HV.out]; exact NBB.out.keep hb)
  have b3 := below_sets (BW.out.trans (hb.mono BW.out.size)) (Nat.le_succ w.heap.size) Y.toList 17
  obtain ⟨W3, hW3⟩ : ∃ W3, w1.setCells (w.heap.size + 1) 17 Y.toList = W3 := ⟨_, rfl⟩
  rw [hW3] at r1 n3 b3
  clear hW3
  have HB := Lib.hid b3
  clear n3 b3 hb C
  go_wp2_with fail
  go_ret
  exact ⟨say_no (fun k => HF.out (HRR.out.2 k).1), HB.out⟩
 ·have HD := Lib.hid hp
  clear hp
  go_enter Tryz.func115, Tryz.ntmps115
  go_wp2_with fail
  go_region
  rw [HW.out]
  clear hl1d hl2d hstd hz hZ1 hZ2
  go_wp2_with fail
  refine C.mono ?_
  rintro e w1 ⟨rfl, hb⟩
  obtain ⟨r1, n3⟩ := S12.out w1 (by rw [HV.out]; exact NBB.out.keep hb)
  have b3 := below_sets (BW.out.trans (hb.mono BW.out.size)) (Nat.le_succ w.heap.size) Y.toList 17
  obtain ⟨W3, hW3⟩ : ∃ W3, w1.setCells (w.heap.size + 1) 17 Y.toList = W3 := ⟨_, rfl⟩
  rw [hW3] at r1 n3 b3
  clear hW3
  obtain ⟨x', hx'⟩ : ∃ x' : Nv, ({ x with N := { x.N with X := It0 }, iP := .slice none 0 0, iC := .slice none 0 0, iS := .slice none 0 0 } : Nv) = x' := ⟨_, rfl⟩
  have CB := blank116 x' W3 (by rw [← hx']; exact ⟨HN.out.P.keep b3, HN.out.Q.keep b3, HN.out.D.keep b3, ⟨sli_nil _, sli_nil _, sls_nil _⟩⟩)
  have HE : Hid (blN x'.N = true ↔ RR) := Lib.hid (by rw [← hx']; exact ⟨fun k => HRR.out.1 ⟨HD.out, k⟩, fun k => (HRR.out.2 k).2⟩)
  rw [hx'] at n3
  have hl3 := n3.load (m := m) ((arr_size x').trans HM.out)
  have HB3 := Lib.hid b3
  clear b3 hx' n3 hb C
  generalize x'.arr = V' at *
  generalize blN x'.N = bl at *
  go_wp2_with fail
  refine CB.mono ?_
  rintro e w9 ⟨rfl, hb9⟩
  have HB9 := Lib.hid (HB3.out.trans (hb9.mono HB3.out.size))
  clear hb9 CB hl3
  go_wp2_with fail
  go_ret
  exact ⟨say_is HE.out, HB9.out⟩

end Go.Proofs.YtcgmmfcphfkdhaaGreat

/- Walks: the content of a note of the kind 3. -/
namespace Go.Proofs.YtcgmmfcphfkdhaaGreat
open Go Go.RowKit Go.Proofs

set_option maxRecDepth 100000 in
set_option maxHeartbeats 4000000 in
theorem content115_3 (x : Nv) (w : World) (h : NV w x) :
  Calls Tryz.prog 115 #[.agg x.arr, .int .i64 3] w fun e w' => Say e ((0 < x.N.Q.length ∧ Ris x.N.Q 64) ∧ blN { x.N with Q := [] } = true) ∧ Below w.heap.size w w' := by
 obtain ⟨RR, hRR⟩ : ∃ RR : Prop, ((0 < x.N.Q.length ∧ Ris x.N.Q 64) ∧ blN { x.N with Q := [] } = true) = RR := ⟨_, rfl⟩
 rw [hRR]
 have HRR := Lib.hid (Iff.of_eq hRR)
 clear hRR
 obtain ⟨m, hm, ⟨hm0, hm1, hm2⟩, hs40⟩ := m40.out
 obtain ⟨FS, hu40, fs0, fs1, fs2, fs3, fs4, fs5, fs6, fs7, fs8, fs9, fs10, fs11, fs12, fs13, fs14, fs15⟩ := f40.out
 obtain ⟨Z, hz, hZ1, hZ2⟩ := z40.out
 have n0 := NB.new w x.arr 40
 have hl1d : (loadCellsFrom ⟨w.heap.size, 0, none⟩ 0 m #[]).run Tryz.prog (w.alloc (.cells x.arr 40)).drew = .ok x.arr (w.alloc (.cells x.arr 40)).drew := NB.load (w := (w.alloc (.cells x.arr 40)).drew) (V := x.arr) (t := 40) n0 ((arr_size x).trans hm)
 have hl2d : (loadCellsFrom ⟨w.heap.size, 0, none⟩ 0 m #[]).run Tryz.prog ((w.alloc (.cells x.arr 40)).alloc (.cells Z 40)).drew = .ok x.arr ((w.alloc (.cells x.arr 40)).alloc (.cells Z 40)).drew := NB.load (w := ((w.alloc (.cells x.arr 40)).alloc (.cells Z 40)).drew) (V := x.arr) (t := 40) (n0.alloc (.cells Z 40)) ((arr_size x).trans hm)
 have hstd : (storeCells ⟨w.heap.size + 1, 0, none⟩ x.arr.toList 0).run Tryz.prog ((w.alloc (.cells x.arr 40)).alloc (.cells Z 40)).drew = .ok () ((w.alloc (.cells x.arr 40)).alloc (.cells x.arr 40)).drew := by
  have := run_storeCells_new (P := Tryz.prog) (w.alloc (.cells x.arr 40)).drew 40 Z x.arr (by rw [arr_size]; kernel_rfl) (by rw [hZ1, arr_size]) h.one
  rw [show (w.alloc (.cells x.arr 40)).drew.heap.size = w.heap.size + 1 from World.size_alloc _ _] at this
  exact this
 have hsz : x.arr.size = m := (arr_size x).trans hm
 have HM := Lib.hid hm
 have nA : NB ((w.alloc (.cells x.arr 40)).alloc (.cells x.arr 40)).drew w.heap.size x.arr 40 := n0.alloc _
 have nB : NB ((w.alloc (.cells x.arr 40)).alloc (.cells x.arr 40)).drew (w.heap.size + 1) x.arr 40 := nb1 w (.cells x.arr 40) x.arr 40
 have bW : Below w.heap.size w ((w.alloc (.cells x.arr 40)).alloc (.cells x.arr 40)).drew := by
  have bb : Below w.heap.size w ((w.alloc (.cells x.arr 40)).alloc (.cells x.arr 40)) := ((Below.refl _ _).alloc (Nat.le_refl _) _).alloc (by simp) _
  exact ⟨bb.os, bb.tape, bb.output, bb.size, bb.block⟩
 obtain ⟨V, hV⟩ : ∃ V, x.arr = V := ⟨_, rfl⟩
 rw [hV] at n0 hl1d hl2d hstd hsz nA nB bW ⊢
 obtain ⟨W, hW⟩ : ∃ W, ((w.alloc (.cells V 40)).alloc (.cells V 40)).drew = W := ⟨_, rfl⟩
 rw [hW] at nA nB bW
 have HV := Lib.hid hV
 have HW := Lib.hid hW
 have HN := Lib.hid h
 have NA := Lib.hid nA
 have NBB := Lib.hid nB
 have BW := Lib.hid bW
 clear hm n0 nA nB bW hV hW h
 have C := rising186 x.uQ x.N.Q 64 (by omega) (by omega) W (HN.out.Q.keep BW.out)
 obtain ⟨aD, cD, eD, -⟩ := HN.out.Q
 rw [eD] at C
 have c15 := NA.out.c (k := 15) (v := .slice aD x.N.Q.length cD) (by rw [← HV.out, ← eD]; rfl)
 clear eD
 by_cases hn : 0 < x.N.Q.length
 ·have j1 : (x.N.Q.length : Int) > 0 := by omega
  by_cases hd : Ris x.N.Q 64
  ·replace C := C.mono fun e w' h => And.intro (say_t h.1 hd) h.2
   have HD := Lib.hid (And.intro hn hd)
   clear hd
   generalize x.N.Q.length = nD at *
   go_enter Tryz.func115, Tryz.ntmps115
   go_wp2_with fail
   go_region
   rw [HW.out]
   clear hl1d hl2d hstd hz hZ1 hZ2
   go_wp2_with fail
   refine C.mono ?_
   rintro e w1 ⟨rfl, hb⟩
   have t15 := (NBB.out.keep (hb)).c (k := 15) (v := x.uQ) (by rw [← HV.out]; rfl)
   have t15f := (NBB.out.keep (hb)).f 15
   obtain ⟨x', hx'⟩ : ∃ x' : Nv, ({ x with N := { x.N with Q := [] }, uQ := .slice none 0 0 } : Nv) = x' := ⟨_, rfl⟩
   have hb3 := (below_set (BW.out.trans ((hb).mono BW.out.size)) (Nat.le_succ _) 15 (.slice none 0 0))
   have hl3 := NB.load (m := m) (V := x'.arr) (t := 40) (by rw [← hx']; have := ((NBB.out.keep (hb)).set 15 (.slice none 0 0)); rw [← HV.out] at this; exact this) ((arr_size x').trans HM.out)
   have CB := blank116 x' (w1.setCell ⟨w.heap.size + 1, 15, none⟩ (.slice none 0 0)) (by rw [← hx']; exact ⟨HN.out.P.keep hb3, sli_nil _, HN.out.D.keep hb3, ⟨HN.out.X.P.keep hb3, HN.out.X.C.keep hb3, HN.out.X.S.keep hb3⟩⟩)
   have HE : Hid (blN x'.N = true ↔ (RR)) := Lib.hid (by rw [← hx']; exact ⟨fun k => HRR.out.1 ⟨HD.out, k⟩, fun k => (HRR.out.2 k).2⟩)
   have HB3 := Lib.hid hb3
   clear hb3 hx'
   generalize x'.arr = V' at *
   generalize blN x'.N = bl at *
   clear hb C
   go_wp2_with fail
   refine CB.mono ?_
   rintro e w9 ⟨rfl, hb9⟩
   have HB9 := Lib.hid (HB3.out.trans (hb9.mono HB3.out.size))
   clear hb9 CB hl3
   go_wp2_with fail
   go_ret
   exact ⟨say_is HE.out, HB9.out⟩
  ·replace C := C.mono fun e w' h => And.intro (say_f h.1 hd) h.2
   have HF := Lib.hid (fun k : 0 < x.N.Q.length ∧ Ris x.N.Q 64 => hd k.2)
   clear hd
   generalize x.N.Q.length = nD at *
   go_enter Tryz.func115, Tryz.ntmps115
   go_wp2_with fail
   go_region
   rw [HW.out]
   clear hl1d hl2d hstd hz hZ1 hZ2
   go_wp2_with fail
   refine C.mono ?_
   rintro e w1 ⟨rfl, hb⟩
   have t15 := (NBB.out.keep (hb)).c (k := 15) (v := x.uQ) (by rw [← HV.out]; rfl)
   have t15f := (NBB.out.keep (hb)).f 15
   have HB := Lib.hid (below_set (BW.out.trans ((hb).mono BW.out.size)) (Nat.le_succ _) 15 (.slice none 0 0))
   clear hb C
   go_wp2_with fail
   go_ret
   exact ⟨say_no (fun k => HF.out (HRR.out.2 k).1), HB.out⟩
 ·have HF := Lib.hid (fun k : 0 < x.N.Q.length ∧ Ris x.N.Q 64 => hn k.1)
  clear C
  have t15 := (NBB.out.keep (Below.refl W.heap.size W)).c (k := 15) (v := x.uQ) (by rw [← HV.out]; rfl)
  have t15f := (NBB.out.keep (Below.refl W.heap.size W)).f 15
  generalize x.N.Q.length = nD at *
  have d1 : decide ((nD : Int) > 0) = false := by simp; omega
  have d2 : decide (0 < nD) = false := by simp; omega
  clear hn
  go_enter Tryz.func115, Tryz.ntmps115
  go_wp2_with fail
  go_region
  rw [HW.out]
  clear hl1d hl2d hstd hz hZ1 hZ2
  have HB := Lib.hid (below_set (BW.out.trans ((Below.refl W.heap.size W).mono BW.out.size)) (Nat.le_succ _) 15 (.slice none 0 0))
  go_wp2_with fail
  go_ret
  exact ⟨say_no (fun k => HF.out (HRR.out.2 k).1), HB.out⟩

end Go.Proofs.YtcgmmfcphfkdhaaGreat

/- Walks: the content of a note of the kind 4. -/
namespace Go.Proofs.YtcgmmfcphfkdhaaGreat
open Go Go.RowKit Go.Proofs

set_option maxRecDepth 100000 in
set_option maxHeartbeats 4000000 in
theorem content115_4 (x : Nv) (w : World) (h : NV w x) :
  Calls Tryz.prog 115 #[.agg x.arr, .int .i64 4] w fun e w' => Say e (((wi (x.N.P.length : Int) 1 64 = true ∧ Ris x.N.P 65535) ∧ wi x.N.t 1 8 = true) ∧ blN { x.N with P := [], t := 0 } = true) ∧ Below w.heap.size w w' := by
 obtain ⟨RR, hRR⟩ : ∃ RR : Prop, (((wi (x.N.P.length : Int) 1 64 = true ∧ Ris x.N.P 65535) ∧ wi x.N.t 1 8 = true) ∧ blN { x.N with P := [], t := 0 } = true) = RR := ⟨_, rfl⟩
 rw [hRR]
 have HRR := Lib.hid (Iff.of_eq hRR)
 clear hRR
 obtain ⟨m, hm, ⟨hm0, hm1, hm2⟩, hs40⟩ := m40.out
 obtain ⟨FS, hu40, fs0, fs1, fs2, fs3, fs4, fs5, fs6, fs7, fs8, fs9, fs10, fs11, fs12, fs13, fs14, fs15⟩ := f40.out
 obtain ⟨Z, hz, hZ1, hZ2⟩ := z40.out
 have n0 := NB.new w x.arr 40
 have hl1d : (loadCellsFrom ⟨w.heap.size, 0, none⟩ 0 m #[]).run Tryz.prog (w.alloc (.cells x.arr 40)).drew = .ok x.arr (w.alloc (.cells x.arr 40)).drew := NB.load (w := (w.alloc (.cells x.arr 40)).drew) (V := x.arr) (t := 40) n0 ((arr_size x).trans hm)
 have hl2d : (loadCellsFrom ⟨w.heap.size, 0, none⟩ 0 m #[]).run Tryz.prog ((w.alloc (.cells x.arr 40)).alloc (.cells Z 40)).drew = .ok x.arr ((w.alloc (.cells x.arr 40)).alloc (.cells Z 40)).drew := NB.load (w := ((w.alloc (.cells x.arr 40)).alloc (.cells Z 40)).drew) (V := x.arr) (t := 40) (n0.alloc (.cells Z 40)) ((arr_size x).trans hm)
 have hstd : (storeCells ⟨w.heap.size + 1, 0, none⟩ x.arr.toList 0).run Tryz.prog ((w.alloc (.cells x.arr 40)).alloc (.cells Z 40)).drew = .ok () ((w.alloc (.cells x.arr 40)).alloc (.cells x.arr 40)).drew := by
  have := run_storeCells_new (P := Tryz.prog) (w.alloc (.cells x.arr 40)).drew 40 Z x.arr (by rw [arr_size]; kernel_rfl) (by rw [hZ1, arr_size]) h.one
  rw [show (w.alloc (.cells x.arr 40)).drew.heap.size = w.heap.size + 1 from World.size_alloc _ _] at this
  exact this
 have hsz : x.arr.size = m := (arr_size x).trans hm
 have HM := Lib.hid hm
 have nA : NB ((w.alloc (.cells x.arr 40)).alloc (.cells x.arr 40)).drew w.heap.size x.arr 40 := n0.alloc _
 have nB : NB ((w.alloc (.cells x.arr 40)).alloc (.cells x.arr 40)).drew (w.heap.size + 1) x.arr 40 := nb1 w (.cells x.arr 40) x.arr 40
 have bW : Below w.heap.size w ((w.alloc (.cells x.arr 40)).alloc (.cells x.arr 40)).drew := by
  have bb : Below w.heap.size w ((w.alloc (.cells x.arr 40)).alloc (.cells x.arr 40)) := ((Below.refl _ _).alloc (Nat.le_refl _) _).alloc (by simp) _
  exact ⟨bb.os, bb.tape, bb.output, bb.size, bb.block⟩
 obtain ⟨V, hV⟩ : ∃ V, x.arr = V := ⟨_, rfl⟩
 rw [hV] at n0 hl1d hl2d hstd hsz nA nB bW ⊢
 obtain ⟨W, hW⟩ : ∃ W, ((w.alloc (.cells V 40)).alloc (.cells V 40)).drew = W := ⟨_, rfl⟩
 rw [hW] at nA nB bW
 have HV := Lib.hid hV
 have HW := Lib.hid hW
 have HN := Lib.hid h
 have NA := Lib.hid nA
 have NBB := Lib.hid nB
 have BW := Lib.hid bW
 clear hm n0 nA nB bW hV hW h
 have C := rising186 x.uP x.N.P 65535 (by omega) (by omega) W (HN.out.P.keep BW.out)
 have C0 := fun w => in84 (x.N.P.length : Int) 1 64 w
 have C2 := fun w => in84 x.N.t 1 8 w
 obtain ⟨aD, cD, eD, -⟩ := HN.out.P
 rw [eD] at C
 have c14 := NA.out.c (k := 14) (v := .slice aD x.N.P.length cD) (by rw [← HV.out, ← eD]; rfl)
 have c9 := NA.out.c (k := 9) (v := .int .i64 x.N.t) (by rw [← HV.out]; rfl)
 clear eD
 obtain ⟨p0, hp0⟩ : ∃ p, wi (x.N.P.length : Int) 1 64 = p := ⟨_, rfl⟩
 obtain ⟨p2, hp2⟩ : ∃ p, wi x.N.t 1 8 = p := ⟨_, rfl⟩
 rw [hp0] at C0
 rw [hp2] at C2
 cases p0
 ·have HF := Lib.hid (fun k : (wi (x.N.P.length : Int) 1 64 = true ∧ Ris x.N.P 65535) ∧ wi x.N.t 1 8 = true => show False from by rw [hp0] at k; simp at k)
  clear hp0 hp2 C
  have t14 := (NBB.out.keep (Below.refl W.heap.size W)).c (k := 14) (v := x.uP) (by rw [← HV.out]; rfl)
  have t14f := (NBB.out.keep (Below.refl W.heap.size W)).f 14
  have t9 := (NBB.out.keep (Below.refl W.heap.size W)).c (k := 9) (v := .int .i64 x.N.t) (by rw [← HV.out]; rfl)
  have t9f := (NBB.out.keep (Below.refl W.heap.size W)).f 9
  generalize x.N.P.length = nD at *
  go_enter Tryz.func115, Tryz.ntmps115
  go_wp2_with fail
  go_region
  rw [HW.out]
  clear hl1d hl2d hstd hz hZ1 hZ2
  have HB := Lib.hid (below_set (below_set BW.out (Nat.le_succ _) 14 (.slice none 0 0)) (Nat.le_succ _) 9 (.int .i64 0))
  go_wp2_with (go_at_call 84; with_reducible refine (C0 _).mono ?_; rintro e w1 ⟨rfl, rfl⟩)
  go_ret
  exact ⟨say_no (fun k => HF.out (HRR.out.2 k).1), HB.out⟩
 ·by_cases hd : Ris x.N.P 65535
  ·replace C := C.mono fun e w' h => And.intro (say_t h.1 hd) h.2
   cases p2
   ·have HF := Lib.hid (fun k : (wi (x.N.P.length : Int) 1 64 = true ∧ Ris x.N.P 65535) ∧ wi x.N.t 1 8 = true => show False from by rw [hp2] at k; simp at k)
    clear hp0 hp2 hd
    generalize x.N.P.length = nD at *
    go_enter Tryz.func115, Tryz.ntmps115
    go_wp2_with fail
    go_region
    rw [HW.out]
    clear hl1d hl2d hstd hz hZ1 hZ2
    go_wp2_with (go_at_call 84; with_reducible refine (C0 _).mono ?_; rintro e w1 ⟨rfl, rfl⟩)
    refine C.mono ?_
    rintro e w1 ⟨rfl, hb⟩
    have t14 := (NBB.out.keep (hb)).c (k := 14) (v := x.uP) (by rw [← HV.out]; rfl)
    have t14f := (NBB.out.keep (hb)).f 14
    have t9 := (NBB.out.keep (hb)).c (k := 9) (v := .int .i64 x.N.t) (by rw [← HV.out]; rfl)
    have t9f := (NBB.out.keep (hb)).f 9
    have c9' := (NA.out.keep hb).c (k := 9) (v := .int .i64 x.N.t) (by rw [← HV.out]; rfl)
    have HB := Lib.hid (below_set (below_set (BW.out.trans (hb.mono BW.out.size)) (Nat.le_succ _) 14 (.slice none 0 0)) (Nat.le_succ _) 9 (.int .i64 0))
    clear hb C
    go_wp2_with (go_at_call 84; with_reducible refine (C2 _).mono ?_; rintro e w1 ⟨rfl, rfl⟩)
    go_ret
    exact ⟨say_no (fun k => HF.out (HRR.out.2 k).1), HB.out⟩
   ·have HD := Lib.hid (And.intro (And.intro hp0 hd) hp2)
    clear hp0 hp2 hd
    generalize x.N.P.length = nD at *
    go_enter Tryz.func115, Tryz.ntmps115
    go_wp2_with fail
    go_region
    rw [HW.out]
    clear hl1d hl2d hstd hz hZ1 hZ2
    go_wp2_with (go_at_call 84; with_reducible refine (C0 _).mono ?_; rintro e w1 ⟨rfl, rfl⟩)
    refine C.mono ?_
    rintro e w1 ⟨rfl, hb⟩
    have t14 := (NBB.out.keep (hb)).c (k := 14) (v := x.uP) (by rw [← HV.out]; rfl)
    have t14f := (NBB.out.keep (hb)).f 14
    have t9 := (NBB.out.keep (hb)).c (k := 9) (v := .int .i64 x.N.t) (by rw [← HV.out]; rfl)
    have t9f := (NBB.out.keep (hb)).f 9
    have c9' := (NA.out.keep hb).c (k := 9) (v := .int .i64 x.N.t) (by rw [← HV.out]; rfl)
    obtain ⟨x', hx'⟩ : ∃ x' : Nv, ({ x with N := { x.N with P := [], t := 0 }, uP := .slice none 0 0 } : Nv) = x' := ⟨_, rfl⟩
    have hb3 := (below_set (below_set (BW.out.trans ((hb).mono BW.out.size)) (Nat.le_succ _) 14 (.slice none 0 0)) (Nat.le_succ _) 9 (.int .i64 0))
    have hl3 := NB.load (m := m) (V := x'.arr) (t := 40) (by rw [← hx']; have := (((NBB.out.keep (hb)).set 14 (.slice none 0 0)).set 9 (.int .i64 0)); rw [← HV.out] at this; exact this) ((arr_size x').trans HM.out)
    have CB := blank116 x' ((w1.setCell ⟨w.heap.size + 1, 14, none⟩ (.slice none 0 0)).setCell ⟨w.heap.size + 1, 9, none⟩ (.int .i64 0)) (by rw [← hx']; exact ⟨sli_nil _, HN.out.Q.keep hb3, HN.out.D.keep hb3, ⟨HN.out.X.P.keep hb3, HN.out.X.C.keep hb3, HN.out.X.S.keep hb3⟩⟩)
    have HE : Hid (blN x'.N = true ↔ (RR)) := Lib.hid (by rw [← hx']; exact ⟨fun k => HRR.out.1 ⟨HD.out, k⟩, fun k => (HRR.out.2 k).2⟩)
    have HB3 := Lib.hid hb3
    clear hb3 hx'
    generalize x'.arr = V' at *
    generalize blN x'.N = bl at *
    clear hb C
    go_wp2_with (go_at_call 84; with_reducible refine (C2 _).mono ?_; rintro e w1 ⟨rfl, rfl⟩)
    refine CB.mono ?_
    rintro e w9 ⟨rfl, hb9⟩
    have HB9 := Lib.hid (HB3.out.trans (hb9.mono HB3.out.size))
    clear hb9 CB hl3
    go_wp2_with fail
    go_ret
    exact ⟨say_is HE.out, HB9.out⟩
  ·replace C := C.mono fun e w' h => And.intro (say_f h.1 hd) h.2
   have HF := Lib.hid (fun k : (wi (x.N.P.length : Int) 1 64 = true ∧ Ris x.N.P 65535) ∧ wi x.N.t 1 8 = true => hd k.1.2)
   clear hp0 hp2 hd
   generalize x.N.P.length = nD at *
   go_enter Tryz.func115, Tryz.ntmps115
   go_wp2_with fail
   go_region
   rw [HW.out]
   clear hl1d hl2d hstd hz hZ1 hZ2
   go_wp2_with (go_at_call 84; with_reducible refine (C0 _).mono ?_; rintro e w1 ⟨rfl, rfl⟩)
   refine C.mono ?_
   rintro e w1 ⟨rfl, hb⟩
   have t14 := (NBB.out.keep (hb)).c (k := 14) (v := x.uP) (by rw [← HV.out]; rfl)
   have t14f := (NBB.out.keep (hb)).f 14
   have t9 := (NBB.out.keep (hb)).c (k := 9) (v := .int .i64 x.N.t) (by rw [← HV.out]; rfl)
   have t9f := (NBB.out.keep (hb)).f 9
   have HB := Lib.hid (below_set (below_set (BW.out.trans ((hb).mono BW.out.size)) (Nat.le_succ _) 14 (.slice none 0 0)) (Nat.le_succ _) 9 (.int .i64 0))
   clear hb C
   go_wp2_with fail
   go_ret
   exact ⟨say_no (fun k => HF.out (HRR.out.2 k).1), HB.out⟩

end Go.Proofs.YtcgmmfcphfkdhaaGreat

/- Walks: the content of a note of the kind 5. -/
namespace Go.Proofs.YtcgmmfcphfkdhaaGreat
open Go Go.RowKit Go.Proofs

set_option maxRecDepth 100000 in
set_option maxHeartbeats 4000000 in
theorem content115_5 (x : Nv) (w : World) (h : NV w x) :
  Calls Tryz.prog 115 #[.agg x.arr, .int .i64 5] w fun e w' => Say e (vRf x.N.rb x.N.rn = true ∧ blN { x.N with rb := 0, rn := 0 } = true) ∧ Below w.heap.size w w' := by
 obtain ⟨RR, hRR⟩ : ∃ RR : Prop, (vRf x.N.rb x.N.rn = true ∧ blN { x.N with rb := 0, rn := 0 } = true) = RR := ⟨_, rfl⟩
 rw [hRR]
 have HRR := Lib.hid (Iff.of_eq hRR)
 clear hRR
 obtain ⟨m, hm, ⟨hm0, hm1, hm2⟩, hs40⟩ := m40.out
 obtain ⟨FS, hu40, fs0, fs1, fs2, fs3, fs4, fs5, fs6, fs7, fs8, fs9, fs10, fs11, fs12, fs13, fs14, fs15⟩ := f40.out
 obtain ⟨Z, hz, hZ1, hZ2⟩ := z40.out
 have n0 := NB.new w x.arr 40
 have hl1d : (loadCellsFrom ⟨w.heap.size, 0, none⟩ 0 m #[]).run Tryz.prog (w.alloc (.cells x.arr 40)).drew = .ok x.arr (w.alloc (.cells x.arr 40)).drew := NB.load (w := (w.alloc (.cells x.arr 40)).drew) (V := x.arr) (t := 40) n0 ((arr_size x).trans hm)
 have hl2d : (loadCellsFrom ⟨w.heap.size, 0, none⟩ 0 m #[]).run Tryz.prog ((w.alloc (.cells x.arr 40)).alloc (.cells Z 40)).drew = .ok x.arr ((w.alloc (.cells x.arr 40)).alloc (.cells Z 40)).drew := NB.load (w := ((w.alloc (.cells x.arr 40)).alloc (.cells Z 40)).drew) (V := x.arr) (t := 40) (n0.alloc (.cells Z 40)) ((arr_size x).trans hm)
 have hstd : (storeCells ⟨w.heap.size + 1, 0, none⟩ x.arr.toList 0).run Tryz.prog ((w.alloc (.cells x.arr 40)).alloc (.cells Z 40)).drew = .ok () ((w.alloc (.cells x.arr 40)).alloc (.cells x.arr 40)).drew := by
  have := run_storeCells_new (P := Tryz.prog) (w.alloc (.cells x.arr 40)).drew 40 Z x.arr (by rw [arr_size]; kernel_rfl) (by rw [hZ1, arr_size]) h.one
  rw [show (w.alloc (.cells x.arr 40)).drew.heap.size = w.heap.size + 1 from World.size_alloc _ _] at this
  exact this
 have hsz : x.arr.size = m := (arr_size x).trans hm
 have HM := Lib.hid hm
 have nA : NB ((w.alloc (.cells x.arr 40)).alloc (.cells x.arr 40)).drew w.heap.size x.arr 40 := n0.alloc _
 have nB : NB ((w.alloc (.cells x.arr 40)).alloc (.cells x.arr 40)).drew (w.heap.size + 1) x.arr 40 := nb1 w (.cells x.arr 40) x.arr 40
 have bW : Below w.heap.size w ((w.alloc (.cells x.arr 40)).alloc (.cells x.arr 40)).drew := by
  have bb : Below w.heap.size w ((w.alloc (.cells x.arr 40)).alloc (.cells x.arr 40)) := ((Below.refl _ _).alloc (Nat.le_refl _) _).alloc (by simp) _
  exact ⟨bb.os, bb.tape, bb.output, bb.size, bb.block⟩
 obtain ⟨V, hV⟩ : ∃ V, x.arr = V := ⟨_, rfl⟩
 rw [hV] at n0 hl1d hl2d hstd hsz nA nB bW ⊢
 obtain ⟨W, hW⟩ : ∃ W, ((w.alloc (.cells V 40)).alloc (.cells V 40)).drew = W := ⟨_, rfl⟩
 rw [hW] at nA nB bW
 have HV := Lib.hid hV
 have HW := Lib.hid hW
 have HN := Lib.hid h
 have NA := Lib.hid nA
 have NBB := Lib.hid nB
 have BW := Lib.hid bW
 clear hm n0 nA nB bW hV hW h
 have C := ref113 x.N.rb x.N.rn W
 have c12 := NA.out.c (k := 12) (v := .int .i64 x.N.rb) (by rw [← HV.out]; rfl)
 have c13 := NA.out.c (k := 13) (v := .int .i64 x.N.rn) (by rw [← HV.out]; rfl)
 obtain ⟨p, hp⟩ : ∃ p, vRf x.N.rb x.N.rn = p := ⟨_, rfl⟩
 rw [hp] at C
 cases p
 ·have HF := Lib.hid (fun k : vRf x.N.rb x.N.rn = true => show False from by rw [hp] at k; simp at k)
  clear hp
  go_enter Tryz.func115, Tryz.ntmps115
  go_wp2_with fail
  go_region
  rw [HW.out]
  clear hl1d hl2d hstd hz hZ1 hZ2
  go_wp2_with fail
  refine C.mono ?_
  rintro e w1 ⟨rfl, hb⟩
  have t12 := (NBB.out.keep (hb)).c (k := 12) (v := .int .i64 x.N.rb) (by rw [← HV.out]; rfl)
  have t12f := (NBB.out.keep (hb)).f 12
  have t13 := (NBB.out.keep (hb)).c (k := 13) (v := .int .i64 x.N.rn) (by rw [← HV.out]; rfl)
  have t13f := (NBB.out.keep (hb)).f 13
  have HB := Lib.hid (below_set (below_set (BW.out.trans ((hb).mono BW.out.size)) (Nat.le_succ _) 12 (.int .i64 0)) (Nat.le_succ _) 13 (.int .i64 0))
  clear hb C
  go_wp2_with fail
  go_ret
  exact ⟨say_no (fun k => HF.out (HRR.out.2 k).1), HB.out⟩
 ·have HD := Lib.hid hp
  clear hp
  go_enter Tryz.func115, Tryz.ntmps115
  go_wp2_with fail
  go_region
  rw [HW.out]
  clear hl1d hl2d hstd hz hZ1 hZ2
  go_wp2_with fail
  refine C.mono ?_
  rintro e w1 ⟨rfl, hb⟩
  have t12 := (NBB.out.keep (hb)).c (k := 12) (v := .int .i64 x.N.rb) (by rw [← HV.out]; rfl)
  have t12f := (NBB.out.keep (hb)).f 12
  have t13 := (NBB.out.keep (hb)).c (k := 13) (v := .int .i64 x.N.rn) (by rw [← HV.out]; rfl)
  have t13f := (NBB.out.keep (hb)).f 13
  obtain ⟨x', hx'⟩ : ∃ x' : Nv, ({ x with N := { x.N with rb := 0, rn := 0 } } : Nv) = x' := ⟨_, rfl⟩
  have hb3 := (below_set (below_set (BW.out.trans ((hb).mono BW.out.size)) (Nat.le_succ _) 12 (.int .i64 0)) (Nat.le_succ _) 13 (.int .i64 0))
  have hl3 := NB.load (m := m) (V := x'.arr) (t := 40) (by rw [← hx']; have := (((NBB.out.keep (hb)).set 12 (.int .i64 0)).set 13 (.int .i64 0)); rw [← HV.out] at this; exact this) ((arr_size x').trans HM.out)
  have CB := blank116 x' ((w1.setCell ⟨w.heap.size + 1, 12, none⟩ (.int .i64 0)).setCell ⟨w.heap.size + 1, 13, none⟩ (.int .i64 0)) (by rw [← hx']; exact ⟨HN.out.P.keep hb3, HN.out.Q.keep hb3, HN.out.D.keep hb3, ⟨HN.out.X.P.keep hb3, HN.out.X.C.keep hb3, HN.out.X.S.keep hb3⟩⟩)
  have HE : Hid (blN x'.N = true ↔ (RR)) := Lib.hid (by rw [← hx']; exact ⟨fun k => HRR.out.1 ⟨HD.out, k⟩, fun k => (HRR.out.2 k).2⟩)
  have HB3 := Lib.hid hb3
  clear hb3 hx'
  generalize x'.arr = V' at *
  generalize blN x'.N = bl at *
  clear hb C
  go_wp2_with fail
  refine CB.mono ?_
  rintro e w9 ⟨rfl, hb9⟩
  have HB9 := Lib.hid (HB3.out.trans (hb9.mono HB3.out.size))
  clear hb9 CB hl3
  go_wp2_with fail
  go_ret
  exact ⟨say_is HE.out, HB9.out⟩

end Go.Proofs.YtcgmmfcphfkdhaaGreat

/- Walks: the content of a note of the kind 6. -/
namespace Go.Proofs.YtcgmmfcphfkdhaaGreat
open Go Go.RowKit Go.Proofs

set_option maxRecDepth 100000 in
set_option maxHeartbeats 4000000 in
theorem content115_6 (x : Nv) (w : World) (h : NV w x) :
  Calls Tryz.prog 115 #[.agg x.arr, .int .i64 6] w fun e w' => Say e ((wi x.N.q 1 64 = true ∧ (sPc x.N = true ∨ sGl x.N = true)) ∧ blN { x.N with q := 0, p := 0, o := 0, sh := 0, bk := false } = true) ∧ Below w.heap.size w w' := by
 obtain ⟨RR, hRR⟩ : ∃ RR : Prop, ((wi x.N.q 1 64 = true ∧ (sPc x.N = true ∨ sGl x.N = true)) ∧ blN { x.N with q := 0, p := 0, o := 0, sh := 0, bk := false } = true) = RR := ⟨_, rfl⟩
 rw [hRR]
 have HRR := Lib.hid (Iff.of_eq hRR)
 clear hRR
 obtain ⟨m, hm, ⟨hm0, hm1, hm2⟩, hs40⟩ := m40.out
 obtain ⟨FS, hu40, fs0, fs1, fs2, fs3, fs4, fs5, fs6, fs7, fs8, fs9, fs10, fs11, fs12, fs13, fs14, fs15⟩ := f40.out
 obtain ⟨Z, hz, hZ1, hZ2⟩ := z40.out
 have n0 := NB.new w x.arr 40
 have hl1d : (loadCellsFrom ⟨w.heap.size, 0, none⟩ 0 m #[]).run Tryz.prog (w.alloc (.cells x.arr 40)).drew = .ok x.arr (w.alloc (.cells x.arr 40)).drew := NB.load (w := (w.alloc (.cells x.arr 40)).drew) (V := x.arr) (t := 40) n0 ((arr_size x).trans hm)
 have hl2d : (loadCellsFrom ⟨w.heap.size, 0, none⟩ 0 m #[]).run Tryz.prog ((w.alloc (.cells x.arr 40)).alloc (.cells Z 40)).drew = .ok x.arr ((w.alloc (.cells x.arr 40)).alloc (.cells Z 40)).drew := NB.load (w := ((w.alloc (.cells x.arr 40)).alloc (.cells Z 40)).drew) (V := x.arr) (t := 40) (n0.alloc (.cells Z 40)) ((arr_size x).trans hm)
 have hstd : (storeCells ⟨w.heap.size + 1, 0, none⟩ x.arr.toList 0).run Tryz.prog ((w.alloc (.cells x.arr 40)).alloc (.cells Z 40)).drew = .ok () ((w.alloc (.cells x.arr 40)).alloc (.cells x.arr 40)).drew := by
  have := run_storeCells_new (P := Tryz.prog) (w.alloc (.cells x.arr 40)).drew 40 Z x.arr (by rw [arr_size]; kernel_rfl) (by rw [hZ1, arr_size]) h.one
  rw [show (w.alloc (.cells x.arr 40)).drew.heap.size = w.heap.size + 1 from World.size_alloc _ _] at this
  exact this
 have hsz : x.arr.size = m := (arr_size x).trans hm
 have HM := Lib.hid hm
 have nA : NB ((w.alloc (.cells x.arr 40)).alloc (.cells x.arr 40)).drew w.heap.size x.arr 40 := n0.alloc _
 have nB : NB ((w.alloc (.cells x.arr 40)).alloc (.cells x.arr 40)).drew (w.heap.size + 1) x.arr 40 := nb1 w (.cells x.arr 40) x.arr 40
 have bW : Below w.heap.size w ((w.alloc (.cells x.arr 40)).alloc (.cells x.arr 40)).drew := by
  have bb : Below w.heap.size w ((w.alloc (.cells x.arr 40)).alloc (.cells x.arr 40)) := ((Below.refl _ _).alloc (Nat.le_refl _) _).alloc (by simp) _
  exact ⟨bb.os, bb.tape, bb.output, bb.size, bb.block⟩
 obtain ⟨V, hV⟩ : ∃ V, x.arr = V := ⟨_, rfl⟩
 rw [hV] at n0 hl1d hl2d hstd hsz nA nB bW ⊢
 obtain ⟨W, hW⟩ : ∃ W, ((w.alloc (.cells V 40)).alloc (.cells V 40)).drew = W := ⟨_, rfl⟩
 rw [hW] at nA nB bW
 have HV := Lib.hid hV
 have HW := Lib.hid hW
 have HN := Lib.hid h
 have NA := Lib.hid nA
 have NBB := Lib.hid nB
 have BW := Lib.hid bW
 clear hm n0 nA nB bW hV hW h
 have C0 := fun w => in84 x.N.q 1 64 w
 have C1 := sets187 x W
 have C2 := fun w => sets188 x w
 have c7 := NA.out.c (k := 7) (v := .int .i64 x.N.q) (by rw [← HV.out]; rfl)
 have lA := NA.out.load hsz
 rw [HV.out] at C1 C2
 obtain ⟨p0, hp0⟩ : ∃ p, wi x.N.q 1 64 = p := ⟨_, rfl⟩
 obtain ⟨p1, hp1⟩ : ∃ p, sPc x.N = p := ⟨_, rfl⟩
 obtain ⟨p2, hp2⟩ : ∃ p, sGl x.N = p := ⟨_, rfl⟩
 rw [hp0] at C0
 rw [hp1] at C1
 rw [hp2] at C2
 cases p0
 ·have HF := Lib.hid (fun k : wi x.N.q 1 64 = true ∧ (sPc x.N = true ∨ sGl x.N = true) => show False from by rw [hp0] at k; simp at k)
  clear hp0 hp1 hp2 C1 C2
  have t7 := (NBB.out.keep (Below.refl W.heap.size W)).c (k := 7) (v := .int .i64 x.N.q) (by rw [← HV.out]; rfl)
  have t7f := (NBB.out.keep (Below.refl W.heap.size W)).f 7
  have t6 := (NBB.out.keep (Below.refl W.heap.size W)).c (k := 6) (v := .int .i64 x.N.p) (by rw [← HV.out]; rfl)
  have t6f := (NBB.out.keep (Below.refl W.heap.size W)).f 6
  have t8 := (NBB.out.keep (Below.refl W.heap.size W)).c (k := 8) (v := .int .i64 x.N.o) (by rw [← HV.out]; rfl)
  have t8f := (NBB.out.keep (Below.refl W.heap.size W)).f 8
  have t10 := (NBB.out.keep (Below.refl W.heap.size W)).c (k := 10) (v := .int .i64 x.N.sh) (by rw [← HV.out]; rfl)
  have t10f := (NBB.out.keep (Below.refl W.heap.size W)).f 10
  have t11 := (NBB.out.keep (Below.refl W.heap.size W)).c (k := 11) (v := .bool x.N.bk) (by rw [← HV.out]; rfl)
  have t11f := (NBB.out.keep (Below.refl W.heap.size W)).f 11
  go_enter Tryz.func115, Tryz.ntmps115
  go_wp2_with fail
  go_region
  rw [HW.out]
  clear hl1d hl2d hstd hz hZ1 hZ2
  have HB := Lib.hid (below_set (below_set (below_set (below_set (below_set BW.out (Nat.le_succ _) 7 (.int .i64 0)) (Nat.le_succ _) 6 (.int .i64 0)) (Nat.le_succ _) 8 (.int .i64 0)) (Nat.le_succ _) 10 (.int .i64 0)) (Nat.le_succ _) 11 (.bool false))
  go_wp2_with (go_at_call 84; with_reducible refine (C0 _).mono ?_; rintro e w1 ⟨rfl, rfl⟩)
  go_ret
  exact ⟨say_no (fun k => HF.out (HRR.out.2 k).1), HB.out⟩
 ·cases p1
  ·cases p2
   ·have HF := Lib.hid (fun k : wi x.N.q 1 64 = true ∧ (sPc x.N = true ∨ sGl x.N = true) => show False from by rw [hp1, hp2] at k; simp at k)
    clear hp0 hp1 hp2
    go_enter Tryz.func115, Tryz.ntmps115
    go_wp2_with fail
    go_region
    rw [HW.out]
    clear hl1d hl2d hstd hz hZ1 hZ2
    go_wp2_with (go_at_call 84; with_reducible refine (C0 _).mono ?_; rintro e w1 ⟨rfl, rfl⟩)
    refine C1.mono ?_
    rintro e w1 ⟨rfl, hb⟩
    have lA1 := (NA.out.keep hb).load hsz
    go_wp2_with fail
    refine (C2 _).mono ?_
    rintro e w2 ⟨rfl, hc⟩
    have hbc := hb.trans (hc.mono hb.size)
    clear lA1
    have t7 := (NBB.out.keep (hbc)).c (k := 7) (v := .int .i64 x.N.q) (by rw [← HV.out]; rfl)
    have t7f := (NBB.out.keep (hbc)).f 7
    have t6 := (NBB.out.keep (hbc)).c (k := 6) (v := .int .i64 x.N.p) (by rw [← HV.out]; rfl)
    have t6f := (NBB.out.keep (hbc)).f 6
    have t8 := (NBB.out.keep (hbc)).c (k := 8) (v := .int .i64 x.N.o) (by rw [← HV.out]; rfl)
    have t8f := (NBB.out.keep (hbc)).f 8
    have t10 := (NBB.out.keep (hbc)).c (k := 10) (v := .int .i64 x.N.sh) (by rw [← HV.out]; rfl)
    have t10f := (NBB.out.keep (hbc)).f 10
    have t11 := (NBB.out.keep (hbc)).c (k := 11) (v := .bool x.N.bk) (by rw [← HV.out]; rfl)
    have t11f := (NBB.out.keep (hbc)).f 11
    have HB := Lib.hid (below_set (below_set (below_set (below_set (below_set (BW.out.trans ((hbc).mono BW.out.size)) (Nat.le_succ _) 7 (.int .i64 0)) (Nat.le_succ _) 6 (.int .i64 0)) (Nat.le_succ _) 8 (.int .i64 0)) (Nat.le_succ _) 10 (.int .i64 0)) (Nat.le_succ _) 11 (.bool false))
    clear hb hc hbc C1 C2
    go_wp2_with fail
    go_ret
    exact ⟨say_no (fun k => HF.out (HRR.out.2 k).1), HB.out⟩
   ·have HD : Hid (wi x.N.q 1 64 = true ∧ (sPc x.N = true ∨ sGl x.N = true)) := Lib.hid ⟨hp0, .inr hp2⟩
    clear hp0 hp1 hp2
    go_enter Tryz.func115, Tryz.ntmps115
    go_wp2_with fail
    go_region
    rw [HW.out]
    clear hl1d hl2d hstd hz hZ1 hZ2
    go_wp2_with (go_at_call 84; with_reducible refine (C0 _).mono ?_; rintro e w1 ⟨rfl, rfl⟩)
    refine C1.mono ?_
    rintro e w1 ⟨rfl, hb⟩
    have lA1 := (NA.out.keep hb).load hsz
    go_wp2_with fail
    refine (C2 _).mono ?_
    rintro e w2 ⟨rfl, hc⟩
    have hbc := hb.trans (hc.mono hb.size)
    clear lA1
    have t7 := (NBB.out.keep (hbc)).c (k := 7) (v := .int .i64 x.N.q) (by rw [← HV.out]; rfl)
    have t7f := (NBB.out.keep (hbc)).f 7
    have t6 := (NBB.out.keep (hbc)).c (k := 6) (v := .int .i64 x.N.p) (by rw [← HV.out]; rfl)
    have t6f := (NBB.out.keep (hbc)).f 6
    have t8 := (NBB.out.keep (hbc)).c (k := 8) (v := .int .i64 x.N.o) (by rw [← HV.out]; rfl)
    have t8f := (NBB.out.keep (hbc)).f 8
    have t10 := (NBB.out.keep (hbc)).c (k := 10) (v := .int .i64 x.N.sh) (by rw [← HV.out]; rfl)
    have t10f := (NBB.out.keep (hbc)).f 10
    have t11 := (NBB.out.keep (hbc)).c (k := 11) (v := .bool x.N.bk) (by rw [← HV.out]; rfl)
    have t11f := (NBB.out.keep (hbc)).f 11
    obtain ⟨x', hx'⟩ : ∃ x' : Nv, ({ x with N := { x.N with q := 0, p := 0, o := 0, sh := 0, bk := false } } : Nv) = x' := ⟨_, rfl⟩
    have hb3 := (below_set (below_set (below_set (below_set (below_set (BW.out.trans ((hbc).mono BW.out.size)) (Nat.le_succ _) 7 (.int .i64 0)) (Nat.le_succ _) 6 (.int .i64 0)) (Nat.le_succ _) 8 (.int .i64 0)) (Nat.le_succ _) 10 (.int .i64 0)) (Nat.le_succ _) 11 (.bool false))
    have hl3 := NB.load (m := m) (V := x'.arr) (t := 40) (by rw [← hx']; have := ((((((NBB.out.keep (hbc)).set 7 (.int .i64 0)).set 6 (.int .i64 0)).set 8 (.int .i64 0)).set 10 (.int .i64 0)).set 11 (.bool false)); rw [← HV.out] at this; exact this) ((arr_size x').trans HM.out)
    have CB := blank116 x' (((((w2.setCell ⟨w.heap.size + 1, 7, none⟩ (.int .i64 0)).setCell ⟨w.heap.size + 1, 6, none⟩ (.int .i64 0)).setCell ⟨w.heap.size + 1, 8, none⟩ (.int .i64 0)).setCell ⟨w.heap.size + 1, 10, none⟩ (.int .i64 0)).setCell ⟨w.heap.size + 1, 11, none⟩ (.bool false)) (by rw [← hx']; exact ⟨HN.out.P.keep hb3, HN.out.Q.keep hb3, HN.out.D.keep hb3, ⟨HN.out.X.P.keep hb3, HN.out.X.C.keep hb3, HN.out.X.S.keep hb3⟩⟩)
    have HE : Hid (blN x'.N = true ↔ (RR)) := Lib.hid (by rw [← hx']; exact ⟨fun k => HRR.out.1 ⟨HD.out, k⟩, fun k => (HRR.out.2 k).2⟩)
    have HB3 := Lib.hid hb3
    clear hb3 hx'
    generalize x'.arr = V' at *
    generalize blN x'.N = bl at *
    clear hb hc hbc C1 C2
    go_wp2_with fail
    refine CB.mono ?_
    rintro e w9 ⟨rfl, hb9⟩
    have HB9 := Lib.hid (HB3.out.trans (hb9.mono HB3.out.size))
    clear hb9 CB hl3
    go_wp2_with fail
    go_ret
    exact ⟨say_is HE.out, HB9.out⟩
  ·have HD : Hid (wi x.N.q 1 64 = true ∧ (sPc x.N = true ∨ sGl x.N = true)) := Lib.hid ⟨hp0, .inl hp1⟩
   clear hp0 hp1 hp2 C2
   go_enter Tryz.func115, Tryz.ntmps115
   go_wp2_with fail
   go_region
   rw [HW.out]
   clear hl1d hl2d hstd hz hZ1 hZ2
   go_wp2_with (go_at_call 84; with_reducible refine (C0 _).mono ?_; rintro e w1 ⟨rfl, rfl⟩)
   refine C1.mono ?_
   rintro e w1 ⟨rfl, hb⟩
   have t7 := (NBB.out.keep (hb)).c (k := 7) (v := .int .i64 x.N.q) (by rw [← HV.out]; rfl)
   have t7f := (NBB.out.keep (hb)).f 7
   have t6 := (NBB.out.keep (hb)).c (k := 6) (v := .int .i64 x.N.p) (by rw [← HV.out]; rfl)
   have t6f := (NBB.out.keep (hb)).f 6
   have t8 := (NBB.out.keep (hb)).c (k := 8) (v := .int .i64 x.N.o) (by rw [← HV.out]; rfl)
   have t8f := (NBB.out.keep (hb)).f 8
   have t10 := (NBB.out.keep (hb)).c (k := 10) (v := .int .i64 x.N.sh) (by rw [← HV.out]; rfl)
   have t10f := (NBB.out.keep (hb)).f 10
   have t11 := (NBB.out.keep (hb)).c (k := 11) (v := .bool x.N.bk) (by rw [← HV.out]; rfl)
   have t11f := (NBB.out.keep (hb)).f 11
   obtain ⟨x', hx'⟩ : ∃ x' : Nv, ({ x with N := { x.N with q := 0, p := 0, o := 0, sh := 0, bk := false } } : Nv) = x' := ⟨_, rfl⟩
   have hb3 := (below_set (below_set (below_set (below_set (below_set (BW.out.trans ((hb).mono BW.out.size)) (Nat.le_succ _) 7 (.int .i64 0)) (Nat.le_succ _) 6 (.int .i64 0)) (Nat.le_succ _) 8 (.int .i64 0)) (Nat.le_succ _) 10 (.int .i64 0)) (Nat.le_succ _) 11 (.bool false))
   have hl3 := NB.load (m := m) (V := x'.arr) (t := 40) (by rw [← hx']; have := ((((((NBB.out.keep (hb)).set 7 (.int .i64 0)).set 6 (.int .i64 0)).set 8 (.int .i64 0)).set 10 (.int .i64 0)).set 11 (.bool false)); rw [← HV.out] at this; exact this) ((arr_size x').trans HM.out)
   have CB := blank116 x' (((((w1.setCell ⟨w.heap.size + 1, 7, none⟩ (.int .i64 0)).setCell ⟨w.heap.size + 1, 6, none⟩ (.int .i64 0)).setCell ⟨w.heap.size + 1, 8, none⟩ (.int .i64 0)).setCell ⟨w.heap.size + 1, 10, none⟩ (.int .i64 0)).setCell ⟨w.heap.size + 1, 11, none⟩ (.bool false)) (by rw [← hx']; exact ⟨HN.out.P.keep hb3, HN.out.Q.keep hb3, HN.out.D.keep hb3, ⟨HN.out.X.P.keep hb3, HN.out.X.C.keep hb3, HN.out.X.S.keep hb3⟩⟩)
   have HE : Hid (blN x'.N = true ↔ (RR)) := Lib.hid (by rw [← hx']; exact ⟨fun k => HRR.out.1 ⟨HD.out, k⟩, fun k => (HRR.out.2 k).2⟩)
   have HB3 := Lib.hid hb3
   clear hb3 hx'
   generalize x'.arr = V' at *
   generalize blN x'.N = bl at *
   clear hb C1
   go_wp2_with fail
   refine CB.mono ?_
   rintro e w9 ⟨rfl, hb9⟩
   have HB9 := Lib.hid (HB3.out.trans (hb9.mono HB3.out.size))
   clear hb9 CB hl3
   go_wp2_with fail
   go_ret
   exact ⟨say_is HE.out, HB9.out⟩

end Go.Proofs.YtcgmmfcphfkdhaaGreat

/- Walks: the content of a note of the kind 7. -/
namespace Go.Proofs.YtcgmmfcphfkdhaaGreat
open Go Go.RowKit Go.Proofs

set_option maxRecDepth 100000 in
set_option maxHeartbeats 4000000 in
theorem content115_7 (x : Nv) (w : World) (h : NV w x) :
  Calls Tryz.prog 115 #[.agg x.arr, .int .i64 7] w fun e w' => Say e (wi x.N.q 1 64 = true ∧ blN { x.N with q := 0 } = true) ∧ Below w.heap.size w w' := by
 obtain ⟨RR, hRR⟩ : ∃ RR : Prop, (wi x.N.q 1 64 = true ∧ blN { x.N with q := 0 } = true) = RR := ⟨_, rfl⟩
 rw [hRR]
 have HRR := Lib.hid (Iff.of_eq hRR)
 clear hRR
 obtain ⟨m, hm, ⟨hm0, hm1, hm2⟩, hs40⟩ := m40.out
 obtain ⟨FS, hu40, fs0, fs1, fs2, fs3, fs4, fs5, fs6, fs7, fs8, fs9, fs10, fs11, fs12, fs13, fs14, fs15⟩ := f40.out
 obtain ⟨Z, hz, hZ1, hZ2⟩ := z40.out
 have n0 := NB.new w x.arr 40
 have hl1d : (loadCellsFrom ⟨w.heap.size, 0, none⟩ 0 m #[]).run Tryz.prog (w.alloc (.cells x.arr 40)).drew = .ok x.arr (w.alloc (.cells x.arr 40)).drew := NB.load (w := (w.alloc (.cells x.arr 40)).drew) (V := x.arr) (t := 40) n0 ((arr_size x).trans hm)
 have hl2d : (loadCellsFrom ⟨w.heap.size, 0, none⟩ 0 m #[]).run Tryz.prog ((w.alloc (.cells x.arr 40)).alloc (.cells Z 40)).drew = .ok x.arr ((w.alloc (.cells x.arr 40)).alloc (.cells Z 40)).drew := NB.load (w := ((w.alloc (.cells x.arr 40)).alloc (.cells Z 40)).drew) (V := x.arr) (t := 40) (n0.alloc (.cells Z 40)) ((arr_size x).trans hm)
 have hstd : (storeCells ⟨w.heap.size + 1, 0, none⟩ x.arr.toList 0).run Tryz.prog ((w.alloc (.cells x.arr 40)).alloc (.cells Z 40)).drew = .ok () ((w.alloc (.cells x.arr 40)).alloc (.cells x.arr 40)).drew := by
  have := run_storeCells_new (P := Tryz.prog) (w.alloc (.cells x.arr 40)).drew 40 Z x.arr (by rw [arr_size]; kernel_rfl) (by rw [hZ1, arr_size]) h.one
  rw [show (w.alloc (.cells x.arr 40)).drew.heap.size = w.heap.size + 1 from World.size_alloc _ _] at this
  exact this
 have hsz : x.arr.size = m := (arr_size x).trans hm
 have HM := Lib.hid hm
 have nA : NB ((w.alloc (.cells x.arr 40)).alloc (.cells x.arr 40)).drew w.heap.size x.arr 40 := n0.alloc _
 have nB : NB ((w.alloc (.cells x.arr 40)).alloc (.cells x.arr 40)).drew (w.heap.size + 1) x.arr 40 := nb1 w (.cells x.arr 40) x.arr 40
 have bW : Below w.heap.size w ((w.alloc (.cells x.arr 40)).alloc (.cells x.arr 40)).drew := by
  have bb : Below w.heap.size w ((w.alloc (.cells x.arr 40)).alloc (.cells x.arr 40)) := ((Below.refl _ _).alloc (Nat.le_refl _) _).alloc (by simp) _
  exact ⟨bb.os, bb.tape, bb.output, bb.size, bb.block⟩
 obtain ⟨V, hV⟩ : ∃ V, x.arr = V := ⟨_, rfl⟩
 rw [hV] at n0 hl1d hl2d hstd hsz nA nB bW ⊢
 obtain ⟨W, hW⟩ : ∃ W, ((w.alloc (.cells V 40)).alloc (.cells V 40)).drew = W := ⟨_, rfl⟩
 rw [hW] at nA nB bW
 have HV := Lib.hid hV
 have HW := Lib.hid hW
 have HN := Lib.hid h
 have NA := Lib.hid nA
 have NBB := Lib.hid nB
 have BW := Lib.hid bW
 clear hm n0 nA nB bW hV hW h
 have C := in84 x.N.q 1 64 W
 have c7 := NA.out.c (k := 7) (v := .int .i64 x.N.q) (by rw [← HV.out]; rfl)
 obtain ⟨p, hp⟩ : ∃ p, wi x.N.q 1 64 = p := ⟨_, rfl⟩
 rw [hp] at C
 cases p
 ·have HF := Lib.hid (fun k : wi x.N.q 1 64 = true => show False from by rw [hp] at k; simp at k)
  clear hp
  have t7 := (NBB.out.keep (Below.refl W.heap.size W)).c (k := 7) (v := .int .i64 x.N.q) (by rw [← HV.out]; rfl)
  have t7f := (NBB.out.keep (Below.refl W.heap.size W)).f 7
  go_enter Tryz.func115, Tryz.ntmps115
  go_wp2_with fail
  go_region
  rw [HW.out]
  clear hl1d hl2d hstd hz hZ1 hZ2
  go_wp2_with fail
  refine C.mono ?_
  rintro e w1 ⟨rfl, rfl⟩
  clear C
  have HB := Lib.hid (below_set BW.out (Nat.le_succ _) 7 (.int .i64 0))
  go_wp2_with fail
  go_ret
  exact ⟨say_no (fun k => HF.out (HRR.out.2 k).1), HB.out⟩
 ·have HD := Lib.hid hp
  clear hp
  have t7 := (NBB.out.keep (Below.refl W.heap.size W)).c (k := 7) (v := .int .i64 x.N.q) (by rw [← HV.out]; rfl)
  have t7f := (NBB.out.keep (Below.refl W.heap.size W)).f 7
  go_enter Tryz.func115, Tryz.ntmps115
  go_wp2_with fail
  go_region
  rw [HW.out]
  clear hl1d hl2d hstd hz hZ1 hZ2
  go_wp2_with fail
  refine C.mono ?_
  rintro e w1 ⟨rfl, rfl⟩
  clear C
  obtain ⟨x', hx'⟩ : ∃ x' : Nv, ({ x with N := { x.N with q := 0 } } : Nv) = x' := ⟨_, rfl⟩
  have hb3 := (below_set (BW.out.trans ((Below.refl w1.heap.size w1).mono BW.out.size)) (Nat.le_succ _) 7 (.int .i64 0))
  have hl3 := NB.load (m := m) (V := x'.arr) (t := 40) (by rw [← hx']; have := ((NBB.out.keep (Below.refl w1.heap.size w1)).set 7 (.int .i64 0)); rw [← HV.out] at this; exact this) ((arr_size x').trans HM.out)
  have CB := blank116 x' (w1.setCell ⟨w.heap.size + 1, 7, none⟩ (.int .i64 0)) (by rw [← hx']; exact ⟨HN.out.P.keep hb3, HN.out.Q.keep hb3, HN.out.D.keep hb3, ⟨HN.out.X.P.keep hb3, HN.out.X.C.keep hb3, HN.out.X.S.keep hb3⟩⟩)
  have HE : Hid (blN x'.N = true ↔ (RR)) := Lib.hid (by rw [← hx']; exact ⟨fun k => HRR.out.1 ⟨HD.out, k⟩, fun k => (HRR.out.2 k).2⟩)
  have HB3 := Lib.hid hb3
  clear hb3 hx'
  generalize x'.arr = V' at *
  generalize blN x'.N = bl at *
  go_wp2_with fail
  refine CB.mono ?_
  rintro e w9 ⟨rfl, hb9⟩
  have HB9 := Lib.hid (HB3.out.trans (hb9.mono HB3.out.size))
  clear hb9 CB hl3
  go_wp2_with fail
  go_ret
  exact ⟨say_is HE.out, HB9.out⟩

end Go.Proofs.YtcgmmfcphfkdhaaGreat

/- Walks: the content of a note of the kind 8. -/
namespace Go.Proofs.YtcgmmfcphfkdhaaGreat
open Go Go.RowKit Go.Proofs

set_option maxRecDepth 100000 in
set_option maxHeartbeats 4000000 in
theorem content115_8 (x : Nv) (w : World) (h : NV w x) :
  Calls Tryz.prog 115 #[.agg x.arr, .int .i64 8] w fun e w' => Say e (((wi x.N.p 1 65535 = true ∧ wi (x.N.D.length : Int) 1 4 = true) ∧ Dat x.N.D) ∧ blN { x.N with p := 0, D := [] } = true) ∧ Below w.heap.size w w' := by
 obtain ⟨RR, hRR⟩ : ∃ RR : Prop, (((wi x.N.p 1 65535 = true ∧ wi (x.N.D.length : Int) 1 4 = true) ∧ Dat x.N.D) ∧ blN { x.N with p := 0, D := [] } = true) = RR := ⟨_, rfl⟩
 rw [hRR]
 have HRR := Lib.hid (Iff.of_eq hRR)
 clear hRR
 obtain ⟨m, hm, ⟨hm0, hm1, hm2⟩, hs40⟩ := m40.out
 obtain ⟨FS, hu40, fs0, fs1, fs2, fs3, fs4, fs5, fs6, fs7, fs8, fs9, fs10, fs11, fs12, fs13, fs14, fs15⟩ := f40.out
 obtain ⟨Z, hz, hZ1, hZ2⟩ := z40.out
 have n0 := NB.new w x.arr 40
 have hl1d : (loadCellsFrom ⟨w.heap.size, 0, none⟩ 0 m #[]).run Tryz.prog (w.alloc (.cells x.arr 40)).drew = .ok x.arr (w.alloc (.cells x.arr 40)).drew := NB.load (w := (w.alloc (.cells x.arr 40)).drew) (V := x.arr) (t := 40) n0 ((arr_size x).trans hm)
 have hl2d : (loadCellsFrom ⟨w.heap.size, 0, none⟩ 0 m #[]).run Tryz.prog ((w.alloc (.cells x.arr 40)).alloc (.cells Z 40)).drew = .ok x.arr ((w.alloc (.cells x.arr 40)).alloc (.cells Z 40)).drew := NB.load (w := ((w.alloc (.cells x.arr 40)).alloc (.cells Z 40)).drew) (V := x.arr) (t := 40) (n0.alloc (.cells Z 40)) ((arr_size x).trans hm)
 have hstd : (storeCells ⟨w.heap.size + 1, 0, none⟩ x.arr.toList 0).run Tryz.prog ((w.alloc (.cells x.arr 40)).alloc (.cells Z 40)).drew = .ok () ((w.alloc (.cells x.arr 40)).alloc (.cells x.arr 40)).drew := by
  have := run_storeCells_new (P := Tryz.prog) (w.alloc (.cells x.arr 40)).drew 40 Z x.arr (by rw [arr_size]; kernel_rfl) (by rw [hZ1, arr_size]) h.one
  rw [show (w.alloc (.cells x.arr 40)).drew.heap.size = w.heap.size + 1 from World.size_alloc _ _] at this
  exact this
 have hsz : x.arr.size = m := (arr_size x).trans hm
 have HM := Lib.hid hm
 have nA : NB ((w.alloc (.cells x.arr 40)).alloc (.cells x.arr 40)).drew w.heap.size x.arr 40 := n0.alloc _
 have nB : NB ((w.alloc (.cells x.arr 40)).alloc (.cells x.arr 40)).drew (w.heap.size + 1) x.arr 40 := nb1 w (.cells x.arr 40) x.arr 40
 have bW : Below w.heap.size w ((w.alloc (.cells x.arr 40)).alloc (.cells x.arr 40)).drew := by
  have bb : Below w.heap.size w ((w.alloc (.cells x.arr 40)).alloc (.cells x.arr 40)) := ((Below.refl _ _).alloc (Nat.le_refl _) _).alloc (by simp) _
  exact ⟨bb.os, bb.tape, bb.output, bb.size, bb.block⟩
 obtain ⟨V, hV⟩ : ∃ V, x.arr = V := ⟨_, rfl⟩
 rw [hV] at n0 hl1d hl2d hstd hsz nA nB bW ⊢
 obtain ⟨W, hW⟩ : ∃ W, ((w.alloc (.cells V 40)).alloc (.cells V 40)).drew = W := ⟨_, rfl⟩
 rw [hW] at nA nB bW
 have HV := Lib.hid hV
 have HW := Lib.hid hW
 have HN := Lib.hid h
 have NA := Lib.hid nA
 have NBB := Lib.hid nB
 have BW := Lib.hid bW
 clear hm n0 nA nB bW hV hW h
 have CD := fun hl => data184 x.uD x.N.D hl W (HN.out.D.keep BW.out)
 have C0 := fun w => in84 x.N.p 1 65535 w
 have C2 := fun w => in84 (x.N.D.length : Int) 1 4 w
 obtain ⟨aD, cD, eD, -⟩ := HN.out.D
 rw [eD] at CD
 have c16 := NA.out.c (k := 16) (v := .slice aD x.N.D.length cD) (by rw [← HV.out, ← eD]; rfl)
 have c6 := NA.out.c (k := 6) (v := .int .i64 x.N.p) (by rw [← HV.out]; rfl)
 clear eD
 obtain ⟨p0, hp0⟩ : ∃ p, wi x.N.p 1 65535 = p := ⟨_, rfl⟩
 obtain ⟨p2, hp2⟩ : ∃ p, wi (x.N.D.length : Int) 1 4 = p := ⟨_, rfl⟩
 rw [hp0] at C0
 rw [hp2] at C2
 cases p0
 ·have HF := Lib.hid (fun k : (wi x.N.p 1 65535 = true ∧ wi (x.N.D.length : Int) 1 4 = true) ∧ Dat x.N.D => show False from by rw [hp0] at k; simp at k)
  clear hp0 hp2 CD
  have t6 := (NBB.out.keep (Below.refl W.heap.size W)).c (k := 6) (v := .int .i64 x.N.p) (by rw [← HV.out]; rfl)
  have t6f := (NBB.out.keep (Below.refl W.heap.size W)).f 6
  have t16 := (NBB.out.keep (Below.refl W.heap.size W)).c (k := 16) (v := x.uD) (by rw [← HV.out]; rfl)
  have t16f := (NBB.out.keep (Below.refl W.heap.size W)).f 16
  generalize x.N.D.length = nD at *
  go_enter Tryz.func115, Tryz.ntmps115
  go_wp2_with fail
  go_region
  rw [HW.out]
  clear hl1d hl2d hstd hz hZ1 hZ2
  have HB := Lib.hid (below_set (below_set BW.out (Nat.le_succ _) 6 (.int .i64 0)) (Nat.le_succ _) 16 (.slice none 0 0))
  go_wp2_with (first | (go_at_call 84; with_reducible refine (C0 _).mono ?_; rintro e w1 ⟨rfl, rfl⟩) | (go_at_call 84; with_reducible refine (C2 _).mono ?_; rintro e w1 ⟨rfl, rfl⟩))
  go_ret
  exact ⟨say_no (fun k => HF.out (HRR.out.2 k).1), HB.out⟩
 ·cases p2
  ·have HF := Lib.hid (fun k : (wi x.N.p 1 65535 = true ∧ wi (x.N.D.length : Int) 1 4 = true) ∧ Dat x.N.D => show False from by rw [hp2] at k; simp at k)
   clear hp0 hp2 CD
   have t6 := (NBB.out.keep (Below.refl W.heap.size W)).c (k := 6) (v := .int .i64 x.N.p) (by rw [← HV.out]; rfl)
   have t6f := (NBB.out.keep (Below.refl W.heap.size W)).f 6
   have t16 := (NBB.out.keep (Below.refl W.heap.size W)).c (k := 16) (v := x.uD) (by rw [← HV.out]; rfl)
   have t16f := (NBB.out.keep (Below.refl W.heap.size W)).f 16
   generalize x.N.D.length = nD at *
   go_enter Tryz.func115, Tryz.ntmps115
   go_wp2_with fail
   go_region
   rw [HW.out]
   clear hl1d hl2d hstd hz hZ1 hZ2
   have HB := Lib.hid (below_set (below_set BW.out (Nat.le_succ _) 6 (.int .i64 0)) (Nat.le_succ _) 16 (.slice none 0 0))
   go_wp2_with (first | (go_at_call 84; with_reducible refine (C0 _).mono ?_; rintro e w1 ⟨rfl, rfl⟩) | (go_at_call 84; with_reducible refine (C2 _).mono ?_; rintro e w1 ⟨rfl, rfl⟩))
   go_ret
   exact ⟨say_no (fun k => HF.out (HRR.out.2 k).1), HB.out⟩
  ·have C := CD (by unfold wi at hp2; simp only [Bool.and_eq_true, decide_eq_true_iff] at hp2; omega)
   by_cases hd : Dat x.N.D
   ·replace C := C.mono fun e w' h => And.intro (say_t h.1 hd) h.2
    have HD := Lib.hid (And.intro (And.intro hp0 hp2) hd)
    clear hp0 hp2 hd CD
    generalize x.N.D.length = nD at *
    go_enter Tryz.func115, Tryz.ntmps115
    go_wp2_with fail
    go_region
    rw [HW.out]
    clear hl1d hl2d hstd hz hZ1 hZ2
    go_wp2_with (first | (go_at_call 84; with_reducible refine (C0 _).mono ?_; rintro e w1 ⟨rfl, rfl⟩) | (go_at_call 84; with_reducible refine (C2 _).mono ?_; rintro e w1 ⟨rfl, rfl⟩))
    refine C.mono ?_
    rintro e w1 ⟨rfl, hb⟩
    have t6 := (NBB.out.keep (hb)).c (k := 6) (v := .int .i64 x.N.p) (by rw [← HV.out]; rfl)
    have t6f := (NBB.out.keep (hb)).f 6
    have t16 := (NBB.out.keep (hb)).c (k := 16) (v := x.uD) (by rw [← HV.out]; rfl)
    have t16f := (NBB.out.keep (hb)).f 16
    obtain ⟨x', hx'⟩ : ∃ x' : Nv, ({ x with N := { x.N with p := 0, D := [] }, uD := .slice none 0 0 } : Nv) = x' := ⟨_, rfl⟩
    have hb3 := (below_set (below_set (BW.out.trans ((hb).mono BW.out.size)) (Nat.le_succ _) 6 (.int .i64 0)) (Nat.le_succ _) 16 (.slice none 0 0))
    have hl3 := NB.load (m := m) (V := x'.arr) (t := 40) (by rw [← hx']; have := (((NBB.out.keep (hb)).set 6 (.int .i64 0)).set 16 (.slice none 0 0)); rw [← HV.out] at this; exact this) ((arr_size x').trans HM.out)
    have CB := blank116 x' ((w1.setCell ⟨w.heap.size + 1, 6, none⟩ (.int .i64 0)).setCell ⟨w.heap.size + 1, 16, none⟩ (.slice none 0 0)) (by rw [← hx']; exact ⟨HN.out.P.keep hb3, HN.out.Q.keep hb3, slp_nil _, ⟨HN.out.X.P.keep hb3, HN.out.X.C.keep hb3, HN.out.X.S.keep hb3⟩⟩)
    have HE : Hid (blN x'.N = true ↔ (RR)) := Lib.hid (by rw [← hx']; exact ⟨fun k => HRR.out.1 ⟨HD.out, k⟩, fun k => (HRR.out.2 k).2⟩)
    have HB3 := Lib.hid hb3
    clear hb3 hx'
    generalize x'.arr = V' at *
    generalize blN x'.N = bl at *
    clear hb C
    go_wp2_with fail
    refine CB.mono ?_
    rintro e w9 ⟨rfl, hb9⟩
    have HB9 := Lib.hid (HB3.out.trans (hb9.mono HB3.out.size))
    clear hb9 CB hl3
    go_wp2_with fail
    go_ret
    exact ⟨say_is HE.out, HB9.out⟩
   ·replace C := C.mono fun e w' h => And.intro (say_f h.1 hd) h.2
    have HF := Lib.hid (fun k : (wi x.N.p 1 65535 = true ∧ wi (x.N.D.length : Int) 1 4 = true) ∧ Dat x.N.D => hd k.2)
    clear hp0 hp2 hd CD
    generalize x.N.D.length = nD at *
    go_enter Tryz.func115, Tryz.ntmps115
    go_wp2_with fail
    go_region
    rw [HW.out]
    clear hl1d hl2d hstd hz hZ1 hZ2
    go_wp2_with (first | (go_at_call 84; with_reducible refine (C0 _).mono ?_; rintro e w1 ⟨rfl, rfl⟩) | (go_at_call 84; with_reducible refine (C2 _).mono ?_; rintro e w1 ⟨rfl, rfl⟩))
    refine C.mono ?_
    rintro e w1 ⟨rfl, hb⟩
    have t6 := (NBB.out.keep (hb)).c (k := 6) (v := .int .i64 x.N.p) (by rw [← HV.out]; rfl)
    have t6f := (NBB.out.keep (hb)).f 6
    have t16 := (NBB.out.keep (hb)).c (k := 16) (v := x.uD) (by rw [← HV.out]; rfl)
    have t16f := (NBB.out.keep (hb)).f 16
    have HB := Lib.hid (below_set (below_set (BW.out.trans ((hb).mono BW.out.size)) (Nat.le_succ _) 6 (.int .i64 0)) (Nat.le_succ _) 16 (.slice none 0 0))
    clear hb C
    go_wp2_with fail
    go_ret
    exact ⟨say_no (fun k => HF.out (HRR.out.2 k).1), HB.out⟩

end Go.Proofs.YtcgmmfcphfkdhaaGreat

/- Walks: the content of a note of no kind. -/
namespace Go.Proofs.YtcgmmfcphfkdhaaGreat
open Go Go.RowKit Go.Proofs

set_option maxRecDepth 100000 in
set_option maxHeartbeats 4000000 in
theorem content115_d (x : Nv) (k : Int) (hk : ¬ k = 1 ∧ ¬ k = 2 ∧ ¬ k = 3 ∧ ¬ k = 4 ∧ ¬ k = 5 ∧ ¬ k = 6 ∧ ¬ k = 7 ∧ ¬ k = 8) (w : World) (h : NV w x) :
    Calls Tryz.prog 115 #[.agg x.arr, .int .i64 k] w fun e w' => e = .returned (.bool false) ∧ Below w.heap.size w w' := by
  obtain ⟨k1, k2, k3, k4, k5, k6, k7, k8⟩ := hk
  obtain ⟨m, hm, ⟨hm0, hm1, hm2⟩, hs40⟩ := m40.out
  obtain ⟨FS, hu40, fs0, fs1, fs2, fs3, fs4, fs5, fs6, fs7, fs8, fs9, fs10, fs11, fs12, fs13, fs14, fs15⟩ := f40.out
  obtain ⟨Z, hz, hZ1, hZ2⟩ := z40.out
  have n0 := NB.new w x.arr 40
  have hl1d : (loadCellsFrom ⟨w.heap.size, 0, none⟩ 0 m #[]).run Tryz.prog (w.alloc (.cells x.arr 40)).drew = .ok x.arr (w.alloc (.cells x.arr 40)).drew := NB.load (w := (w.alloc (.cells x.arr 40)).drew) (V := x.arr) (t := 40) n0 ((arr_size x).trans hm)
  have hl2d : (loadCellsFrom ⟨w.heap.size, 0, none⟩ 0 m #[]).run Tryz.prog ((w.alloc (.cells x.arr 40)).alloc (.cells Z 40)).drew = .ok x.arr ((w.alloc (.cells x.arr 40)).alloc (.cells Z 40)).drew := NB.load (w := ((w.alloc (.cells x.arr 40)).alloc (.cells Z 40)).drew) (V := x.arr) (t := 40) (n0.alloc (.cells Z 40)) ((arr_size x).trans hm)
  have hstd : (storeCells ⟨w.heap.size + 1, 0, none⟩ x.arr.toList 0).run Tryz.prog ((w.alloc (.cells x.arr 40)).alloc (.cells Z 40)).drew = .ok () ((w.alloc (.cells x.arr 40)).alloc (.cells x.arr 40)).drew := by
    have := run_storeCells_new (P := Tryz.prog) (w.alloc (.cells x.arr 40)).drew 40 Z x.arr (by rw [arr_size]; kernel_rfl) (by rw [hZ1, arr_size]) h.one
    rw [show (w.alloc (.cells x.arr 40)).drew.heap.size = w.heap.size + 1 from World.size_alloc _ _] at this
    exact this
  have hsz : x.arr.size = m := (arr_size x).trans hm
  have HM := Lib.hid hm
  have nA : NB ((w.alloc (.cells x.arr 40)).alloc (.cells x.arr 40)).drew w.heap.size x.arr 40 := n0.alloc _
  have nB : NB ((w.alloc (.cells x.arr 40)).alloc (.cells x.arr 40)).drew (w.heap.size + 1) x.arr 40 := nb1 w (.cells x.arr 40) x.arr 40
  have bW : Below w.heap.size w ((w.alloc (.cells x.arr 40)).alloc (.cells x.arr 40)).drew := by
    have bb : Below w.heap.size w ((w.alloc (.cells x.arr 40)).alloc (.cells x.arr 40)) := ((Below.refl _ _).alloc (Nat.le_refl _) _).alloc (by simp) _
    exact ⟨bb.os, bb.tape, bb.output, bb.size, bb.block⟩
  obtain ⟨V, hV⟩ : ∃ V, x.arr = V := ⟨_, rfl⟩
  rw [hV] at n0 hl1d hl2d hstd hsz nA nB bW ⊢
  obtain ⟨W, hW⟩ : ∃ W, ((w.alloc (.cells V 40)).alloc (.cells V 40)).drew = W := ⟨_, rfl⟩
  rw [hW] at nA nB bW
  have HV := Lib.hid hV
  have HW := Lib.hid hW
  have HN := Lib.hid h
  have NA := Lib.hid nA
  have NBB := Lib.hid nB
  have BW := Lib.hid bW
  clear hm n0 nA nB bW hV hW h
  go_enter Tryz.func115, Tryz.ntmps115
  go_wp2_with fail
  go_region
  rw [HW.out]
  clear hl1d hl2d hstd hz hZ1 hZ2
  go_wp2_with fail
  go_ret
  exact ⟨rfl, BW.out⟩

end Go.Proofs.YtcgmmfcphfkdhaaGreat
