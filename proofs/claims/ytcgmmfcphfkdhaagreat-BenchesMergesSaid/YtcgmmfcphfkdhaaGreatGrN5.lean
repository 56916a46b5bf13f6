/- The abstract machine, part GrN5. -/
import Derived.Test.YtcgmmfcphfkdhaaGreatGrN4
/- Walks: kinds and contents of notes, whole; CheckNote of the program. -/
namespace Go.Proofs.YtcgmmfcphfkdhaaGreat
open Go Go.RowKit Go.Proofs

def Con1 (N : Nt) : Prop := (N.D.length = 1 ∧ Dat N.D) ∧ blN { N with D := [] } = true
def Con2 (N : Nt) : Prop := vRc N.X = true ∧ blN { N with X := It0 } = true
def Con3 (N : Nt) : Prop := (0 < N.Q.length ∧ Ris N.Q 64) ∧ blN { N with Q := [] } = true
def Con4 (N : Nt) : Prop := ((wi (N.P.length : Int) 1 64 = true ∧ Ris N.P 65535) ∧ wi N.t 1 8 = true) ∧ blN { N with P := [], t := 0 } = true
def Con5 (N : Nt) : Prop := vRf N.rb N.rn = true ∧ blN { N with rb := 0, rn := 0 } = true
def Con6 (N : Nt) : Prop := (wi N.q 1 64 = true ∧ (sPc N = true ∨ sGl N = true)) ∧ blN { N with q := 0, p := 0, o := 0, sh := 0, bk := false } = true
def Con7 (N : Nt) : Prop := wi N.q 1 64 = true ∧ blN { N with q := 0 } = true
def Con8 (N : Nt) : Prop := ((wi N.p 1 65535 = true ∧ wi (N.D.length : Int) 1 4 = true) ∧ Dat N.D) ∧ blN { N with p := 0, D := [] } = true
def Con (N : Nt) (k : Int) : Prop := (k = 1 ∧ Con1 N) ∨ (k = 2 ∧ Con2 N) ∨ (k = 3 ∧ Con3 N) ∨ (k = 4 ∧ Con4 N) ∨ (k = 5 ∧ Con5 N) ∨ (k = 6 ∧ Con6 N) ∨ (k = 7 ∧ Con7 N) ∨ (k = 8 ∧ Con8 N)

theorem say_mono {e : Ending} {A B : Prop} (h : Say e A) (k : A ↔ B) : Say e B := by
 obtain ⟨r, hr, rfl⟩ := h
 exact say_is (hr.trans k)

theorem content115_any (x : Nv) (k : Int) (w : World) (h : NV w x) :
  Calls Tryz.prog 115 #[.agg x.arr, .int .i64 k] w fun e w' => Say e (Con x.N k) ∧ Below w.heap.size w w' := by
 by_cases h1 : k = 1
 ·subst h1
  refine (content115_1 x w h).mono ?_
  rintro e w1 ⟨hs, hb⟩
  exact ⟨say_mono hs (by show Con1 x.N ↔ _; unfold Con; simp), hb⟩
 by_cases h2 : k = 2
 ·subst h2
  refine (content115_2 x w h).mono ?_
  rintro e w1 ⟨hs, hb⟩
  exact ⟨say_mono hs (by show Con2 x.N ↔ _; unfold Con; simp), hb⟩
 by_cases h3 : k = 3
 ·subst h3
  refine (content115_3 x w h).mono ?_
  rintro e w1 ⟨hs, hb⟩
  exact ⟨say_mono hs (by show Con3 x.N ↔ _; unfold Con; simp), hb⟩
 by_cases h4 : k = 4
 ·subst h4
  refine (content115_4 x w h).mono ?_
  rintro e w1 ⟨hs, hb⟩
  exact ⟨say_mono hs (by show Con4 x.N ↔ _; unfold Con; simp), hb⟩
 by_cases h5 : k = 5
 ·subst h5
  refine (content115_5 x w h).mono ?_
  rintro e w1 ⟨hs, hb⟩
  exact ⟨say_mono hs (by show Con5 x.N ↔ _; unfold Con; simp), hb⟩
 by_cases h6 : k = 6
 ·subst h6
  refine (content115_6 x w h).mono ?_
  rintro e w1 ⟨hs, hb⟩
  exact ⟨say_mono hs (by show Con6 x.N ↔ _; unfold Con; simp), hb⟩
 by_cases h7 : k = 7
 ·subst h7
  refine (content115_7 x w h).mono ?_
  rintro e w1 ⟨hs, hb⟩
  exact ⟨say_mono hs (by show Con7 x.N ↔ _; unfold Con; simp), hb⟩
 by_cases h8 : k = 8
 ·subst h8
  refine (content115_8 x w h).mono ?_
  rintro e w1 ⟨hs, hb⟩
  exact ⟨say_mono hs (by show Con8 x.N ↔ _; unfold Con; simp), hb⟩
 refine (content115_d x k ⟨h1, h2, h3, h4, h5, h6, h7, h8⟩ w h).mono ?_
 rintro e w1 ⟨rfl, hb⟩
 exact ⟨say_no (by unfold Con; simp [h1, h2, h3, h4, h5, h6, h7, h8]), hb⟩

abbrev rst (N : Nt) : Nt := { N with rb := 0, rn := 0 }
def KnA (N : Nt) : Prop := N.f = 0 ∧ Con N N.k
def KnB (N : Nt) : Prop := vRf N.rb N.rn = true ∧ ((N.k = 10 ∧ N.f = 0 ∧ blN (rst N) = true) ∨ (¬ N.k = 10 ∧ ¬ N.f = 5 ∧ Con (rst N) N.f))
def Kn (N : Nt) : Prop := (¬ (N.k = 9 ∨ N.k = 10) ∧ KnA N) ∨ ((N.k = 9 ∨ N.k = 10) ∧ KnB N)

set_option maxRecDepth 100000 in
set_option maxHeartbeats 4000000 in
theorem kind60_a (x : Nv) (hj : ¬ (x.N.k = 9 ∨ x.N.k = 10)) (w : World) (h : NV w x) :
  Calls Tryz.prog 60 #[.agg x.arr] w fun e w' => Say e (KnA x.N) ∧ Below w.heap.size w w' := by
 obtain ⟨m, hm, ⟨hm0, hm1, hm2⟩, hs40⟩ := m40.out
 obtain ⟨FS, hu40, fs0, fs1, fs2, fs3, fs4, fs5, fs6, fs7, fs8, fs9, fs10, fs11, fs12, fs13, fs14, fs15⟩ := f40.out
 have n0 := NB.new w x.arr 40
 have b0 : Below w.heap.size w (w.alloc (.cells x.arr 40)) := (Below.refl _ _).alloc (Nat.le_refl _) _
 have l0 := n0.load (m := m) ((arr_size x).trans hm)
 have C1 := judges114 x (w.alloc (.cells x.arr 40))
 have e1 : (x.N.k == 9 || x.N.k == 10) = false := by
  simp only [not_or] at hj
  simp [hj.1, hj.2]
 rw [e1] at C1
 have K := Lib.hid (fun w1 (hb : Below (w.alloc (.cells x.arr 40)).heap.size (w.alloc (.cells x.arr 40)) w1) => And.intro (And.intro ((n0.keep hb).c (k := 4) (v := .int .i64 x.N.k) rfl) ((n0.keep hb).c (k := 5) (v := .int .i64 x.N.f) rfl)) ((n0.keep hb).load (m := m) ((arr_size x).trans hm)))
 have C2 := Lib.hid (fun w1 (hb : Below (w.alloc (.cells x.arr 40)).heap.size (w.alloc (.cells x.arr 40)) w1) => content115_any x x.N.k w1 ((h.keep b0).keep hb))
 have HK : Hid (KnA x.N ↔ x.N.f = 0 ∧ Con x.N x.N.k) := Lib.hid Iff.rfl
 have B0 := Lib.hid b0
 generalize KnA x.N = RR at *
 generalize Con x.N x.N.k = CC at *
 generalize x.arr = V at *
 generalize x.N.k = k at *
 generalize x.N.f = f at *
 clear n0 b0 h hj e1 hm
 by_cases hf : f = 0
 ·subst hf
  go_enter Tryz.func60, Tryz.ntmps60
  go_wp2_with fail
  refine C1.mono ?_
  rintro e w1 ⟨rfl, hb⟩
  obtain ⟨⟨q4, q5⟩, l1⟩ := K.out w1 hb
  have C3 := C2.out w1 hb
  have HB := Lib.hid (B0.out.trans (hb.mono B0.out.size))
  clear hb C1 l0 K C2 B0
  go_wp2_with fail
  refine C3.mono ?_
  rintro e w2 ⟨⟨r, hr, rfl⟩, hb⟩
  have HR := Lib.hid hr
  have HB2 := Lib.hid (HB.out.trans (hb.mono HB.out.size))
  clear hr hb C3 HB
  go_wp2_with fail
  go_ret
  exact ⟨say_is (HR.out.trans ⟨fun k => HK.out.2 ⟨by simp, k⟩, fun k => (HK.out.1 k).2⟩), HB2.out⟩
 ·have HF := Lib.hid hf
  have j1 : (f == 0) = false := by simp [hf]
  clear hf
  go_enter Tryz.func60, Tryz.ntmps60
  go_wp2_with fail
  refine C1.mono ?_
  rintro e w1 ⟨rfl, hb⟩
  obtain ⟨⟨q4, q5⟩, l1⟩ := K.out w1 hb
  have HB := Lib.hid (B0.out.trans (hb.mono B0.out.size))
  clear hb C1 l0 K C2 B0 l1
  go_wp2_with fail
  go_ret
  exact ⟨say_no (fun k => HF.out (HK.out.1 k).1), HB.out⟩

end Go.Proofs.YtcgmmfcphfkdhaaGreat

/- Walks: corrections and withdrawals; CheckNote of the program. -/
namespace Go.Proofs.YtcgmmfcphfkdhaaGreat
open Go Go.RowKit Go.Proofs

set_option maxRecDepth 100000 in
set_option maxHeartbeats 4000000 in
theorem kind60_b (x : Nv) (hj : x.N.k = 9 ∨ x.N.k = 10) (w : World) (h : NV w x) :
  Calls Tryz.prog 60 #[.agg x.arr] w fun e w' => Say e (KnB x.N) ∧ Below w.heap.size w w' := by
 obtain ⟨m, hm, ⟨hm0, hm1, hm2⟩, hs40⟩ := m40.out
 obtain ⟨FS, hu40, fs0, fs1, fs2, fs3, fs4, fs5, fs6, fs7, fs8, fs9, fs10, fs11, fs12, fs13, fs14, fs15⟩ := f40.out
 obtain ⟨Z, hz, hZ1, hZ2⟩ := z40.out
 have n0 := NB.new w x.arr 40
 have b0 : Below w.heap.size w (w.alloc (.cells x.arr 40)) := (Below.refl _ _).alloc (Nat.le_refl _) _
 have l0 := n0.load (m := m) ((arr_size x).trans hm)
 have C1 := judges114 x (w.alloc (.cells x.arr 40))
 have e1 : (x.N.k == 9 || x.N.k == 10) = true := by
  rcases hj with h | h <;> simp [h]
 rw [e1] at C1
 obtain ⟨x', hx'⟩ : ∃ x' : Nv, ({ x with N := rst x.N } : Nv) = x' := ⟨_, rfl⟩
 -- behind judges: w1; the rest is a copy in a block of its own, in which the reference is stored
 have K := Lib.hid (fun w1 (hb : Below (w.alloc (.cells x.arr 40)).heap.size (w.alloc (.cells x.arr 40)) w1) =>
  And.intro ((n0.keep hb).load (m := m) ((arr_size x).trans hm)) (run_storeCells_new (P := Tryz.prog) w1 40 Z x.arr (by rw [arr_size]; kernel_rfl) (by rw [hZ1, arr_size]) h.one))
 have K2 := Lib.hid (fun w1 (hb : Below (w.alloc (.cells x.arr 40)).heap.size (w.alloc (.cells x.arr 40)) w1) (W3 : World) (h3 : w1.alloc (.cells ((x.arr.setIfInBounds 12 (.int .i64 0)).setIfInBounds 13 (.int .i64 0)) 40) = W3) =>
  show NB W3 w.heap.size x.arr 40 ∧ NB W3 w1.heap.size x'.arr 40 ∧ Below w.heap.size w W3 from by
   have nA := ((n0.keep hb).alloc (.cells ((x.arr.setIfInBounds 12 (.int .i64 0)).setIfInBounds 13 (.int .i64 0)) 40))
   have nB := NB.new w1 ((x.arr.setIfInBounds 12 (.int .i64 0)).setIfInBounds 13 (.int .i64 0)) 40
   have b1 := (b0.trans (hb.mono b0.size))
   have b2 := b1.alloc b1.size (.cells ((x.arr.setIfInBounds 12 (.int .i64 0)).setIfInBounds 13 (.int .i64 0)) 40)
   rw [h3] at nA nB b2
   exact ⟨nA, by rw [← hx']; exact nB, b2⟩)
 have NX := Lib.hid (fun W (hb : Below w.heap.size w W) => show NV W x' from by
  rw [← hx']
  exact ⟨h.P.keep hb, h.Q.keep hb, h.D.keep hb, ⟨h.X.P.keep hb, h.X.C.keep hb, h.X.S.keep hb⟩⟩)
 have C2 := Lib.hid (fun W => ref113 x.N.rb x.N.rn W)
 have CBl := Lib.hid (fun W (hb : Below w.heap.size w W) => blank116 x' W (NX.out W hb))
 have CCo := Lib.hid (fun W (hb : Below w.heap.size w W) => content115_any x' x.N.f W (NX.out W hb))
 have HK : Hid (KnB x.N ↔ vRf x.N.rb x.N.rn = true ∧ ((x.N.k = 10 ∧ x.N.f = 0 ∧ blN x'.N = true) ∨ (¬ x.N.k = 10 ∧ ¬ x.N.f = 5 ∧ Con x'.N x.N.f))) := Lib.hid (by rw [← hx']; exact Iff.rfl)
 have V4 : Hid (x.arr[4]? = some (.int .i64 x.N.k) ∧ x.arr[5]? = some (.int .i64 x.N.f) ∧ x.arr[12]? = some (.int .i64 x.N.rb) ∧ x.arr[13]? = some (.int .i64 x.N.rn)) := Lib.hid ⟨rfl, rfl, rfl, rfl⟩
 have hsz' : x'.arr.size = m := (arr_size x').trans hm
 have hszV : x.arr.size = m := (arr_size x).trans hm
 have hj2 := Lib.hid hj
 clear n0 b0 h hj e1 hm hx' hZ1 hZ2 NX
 generalize x'.arr = V' at *
 generalize x'.N = N' at *
 generalize KnB x.N = RR at *
 generalize x.arr = V at *
 generalize x.N.k = k at *
 generalize x.N.f = f at *
 generalize x.N.rb = rb at *
 generalize x.N.rn = rn at *
 generalize Con N' f = CC at *
 generalize blN N' = bl at *
 obtain ⟨p, hp⟩ : ∃ p, vRf rb rn = p := ⟨_, rfl⟩
 rw [hp] at C2 HK
 clear hp
 go_enter Tryz.func60, Tryz.ntmps60
 go_wp2_with fail
 refine C1.mono ?_
 rintro e w1 ⟨rfl, hb⟩
 obtain ⟨l1, s1⟩ := K.out w1 hb
 obtain ⟨W3, h3⟩ : ∃ W3, w1.alloc (.cells ((V.setIfInBounds 12 (.int .i64 0)).setIfInBounds 13 (.int .i64 0)) 40) = W3 := ⟨_, rfl⟩
 obtain ⟨nA, nB, b3⟩ := K2.out w1 hb W3 h3
 obtain ⟨y4, y5, y12, y13⟩ := V4.out
 have q12 := nA.c y12
 have q13 := nA.c y13
 rw [← h3] at q12 q13
 have H3 := Lib.hid h3
 have NAh := Lib.hid nA
 have NBh := Lib.hid nB
 have B3 := Lib.hid b3
 clear hb C1 l0 K K2 h3 nA nB b3
 go_wp2_with fail
 rw [H3.out]
 clear q12 q13 H3 y12 y13 l1 s1 hz
 refine (C2.out W3).mono ?_
 rintro e w4 ⟨rfl, hb⟩
 have q4 := (NAh.out.keep hb).c y4
 have q5 := (NAh.out.keep hb).c y5
 have l4 := (NBh.out.keep hb).load hsz'
 have HB4 := Lib.hid (B3.out.trans (hb.mono B3.out.size))
 have CB := CBl.out w4 HB4.out
 have CC4 := CCo.out w4 HB4.out
 have hle : Hid (∀ w5, Below w4.heap.size w4 w5 → Below w.heap.size w w5) := Lib.hid fun w5 h => HB4.out.trans (h.mono HB4.out.size)
 clear hb C2 NAh NBh B3 CBl CCo V4 y4 y5
 cases p
 ·clear CB CC4
  go_wp2_with fail
  go_ret
  exact ⟨say_no (fun k => by have := (HK.out.1 k).1; simp at this), HB4.out⟩
 ·by_cases hk : k = 10
  ·subst hk
   by_cases hf : f = 0
   ·subst hf
    clear CC4
    go_wp2_with fail
    refine CB.mono ?_
    rintro e w5 ⟨rfl, hb⟩
    have HB5 := Lib.hid (hle.out w5 hb)
    clear hb CB l4
    go_wp2_with fail
    go_ret
    refine ⟨say_is ?_, HB5.out⟩
    rw [HK.out]
    simp
   ·have HF := Lib.hid hf
    have j1 : (f == 0) = false := by simp [hf]
    clear hf CB CC4
    go_wp2_with fail
    go_ret
    refine ⟨say_no ?_, HB4.out⟩
    rw [HK.out]
    simp [HF.out]
  ·have HKk := Lib.hid hk
   have j2 : (k == 10) = false := by simp [hk]
   clear hk
   by_cases hf : f = 5
   ·subst hf
    clear CB CC4
    go_wp2_with fail
    go_ret
    refine ⟨say_no ?_, HB4.out⟩
    rw [HK.out]
    simp [HKk.out]
   ·have HF := Lib.hid hf
    have j1 : (f == 5) = false := by simp [hf]
    have j3 : (f != 5) = true := by simp [hf]
    clear hf CB
    go_wp2_with fail
    refine CC4.mono ?_
    rintro e w5 ⟨⟨r, hr, rfl⟩, hb⟩
    have HR := Lib.hid hr
    have HB5 := Lib.hid (hle.out w5 hb)
    clear hb hr CC4 l4
    go_wp2_with fail
    go_ret
    refine ⟨say_is (HR.out.trans ?_), HB5.out⟩
    rw [HK.out]
    simp [HKk.out, HF.out]

theorem kind60_any (x : Nv) (w : World) (h : NV w x) : Calls Tryz.prog 60 #[.agg x.arr] w fun e w' => Say e (Kn x.N) ∧ Below w.heap.size w w' := by
 by_cases hj : x.N.k = 9 ∨ x.N.k = 10
 ·refine (kind60_b x hj w h).mono ?_
  rintro e w1 ⟨hs, hb⟩
  exact ⟨say_mono hs (by unfold Kn; simp [hj]), hb⟩
 ·refine (kind60_a x hj w h).mono ?_
  rintro e w1 ⟨hs, hb⟩
  exact ⟨say_mono hs (by unfold Kn; simp [hj]), hb⟩

def Gd (N : Nt) : Prop := vSt N = true ∧ Kn N ∧ Own N
open Classical in
noncomputable def gdE (N : Nt) : Int := if Gd N then 0 else 90

set_option maxRecDepth 100000 in
set_option maxHeartbeats 4000000 in
theorem check13 (x : Nv) (w : World) (h : NV w x) : Calls Tryz.prog 13 #[.agg x.arr] w fun e w' => e = .returned (.int .i64 (gdE x.N)) ∧ Below w.heap.size w w' := by
 obtain ⟨m, hm, ⟨hm0, hm1, hm2⟩, hs40⟩ := m40.out
 have n0 := NB.new w x.arr 40
 have b0 : Below w.heap.size w (w.alloc (.cells x.arr 40)) := (Below.refl _ _).alloc (Nat.le_refl _) _
 have l0 := n0.load (m := m) ((arr_size x).trans hm)
 have C1 := stamp59 x (w.alloc (.cells x.arr 40))
 have L := Lib.hid (fun w1 (hb : Below (w.alloc (.cells x.arr 40)).heap.size (w.alloc (.cells x.arr 40)) w1) => (n0.keep hb).load (m := m) ((arr_size x).trans hm))
 have C2 := Lib.hid (fun w1 (hb : Below (w.alloc (.cells x.arr 40)).heap.size (w.alloc (.cells x.arr 40)) w1) => kind60_any x w1 ((h.keep b0).keep hb))
 have C3 := Lib.hid (fun w1 (hb : Below (w.alloc (.cells x.arr 40)).heap.size (w.alloc (.cells x.arr 40)) w1) => own61 x w1 ((h.keep b0).keep hb))
 have G1 : Hid (Gd x.N → gdE x.N = 0) := Lib.hid fun h => if_pos h
 have G2 : Hid (¬ Gd x.N → gdE x.N = 90) := Lib.hid fun h => if_neg h
 have G3 : Hid (Gd x.N ↔ vSt x.N = true ∧ Kn x.N ∧ Own x.N) := Lib.hid Iff.rfl
 have B0 := Lib.hid b0
 generalize gdE x.N = ge at *
 generalize Gd x.N = G at *
 generalize vSt x.N = p at *
 generalize Kn x.N = KK at *
 generalize Own x.N = OO at *
 generalize x.arr = V at *
 clear n0 b0 h hm
 cases p
 ·go_enter Tryz.func13, Tryz.ntmps13
  go_wp2_with fail
  refine C1.mono ?_
  rintro e w1 ⟨rfl, hb⟩
  have HB := Lib.hid (B0.out.trans (hb.mono B0.out.size))
  clear hb C1 l0 L C2 C3 B0
  go_wp2_with fail
  go_ret
  exact ⟨by rw [G2.out (fun h => by have := (G3.out.1 h).1; simp at this)]; rfl, HB.out⟩
 ·go_enter Tryz.func13, Tryz.ntmps13
  go_wp2_with fail
  refine C1.mono ?_
  rintro e w1 ⟨rfl, hb⟩
  have D1 := Lib.hid hb
  have l1 := L.out w1 hb
  clear hb C1 l0
  go_wp2_with fail
  refine (C2.out w1 D1.out).mono ?_
  rintro e w2 ⟨⟨r2, hr2, rfl⟩, hb⟩
  have D2 := Lib.hid (D1.out.trans (hb.mono D1.out.size))
  have l2 := L.out w2 D2.out
  have R2 := Lib.hid hr2
  clear hb hr2 l1 C2
  cases r2
  ·have HB := Lib.hid (B0.out.trans (D2.out.mono B0.out.size))
   clear B0 L C3 D1 D2 l2
   go_wp2_with fail
   go_ret
   exact ⟨by rw [G2.out (fun h => by have := R2.out.2 (G3.out.1 h).2.1; simp at this)]; rfl, HB.out⟩
  ·go_wp2_with fail
   refine (C3.out w2 D2.out).mono ?_
   rintro e w3 ⟨⟨r3, hr3, rfl⟩, hb⟩
   have D3 := Lib.hid (D2.out.trans (hb.mono D2.out.size))
   have R3 := Lib.hid hr3
   have HB := Lib.hid (B0.out.trans (D3.out.mono B0.out.size))
   clear hb hr3 l2 C3 L D1 D2 D3 B0
   cases r3
   ·go_wp2_with fail
    go_ret
    exact ⟨by rw [G2.out (fun h => by have := R3.out.2 (G3.out.1 h).2.2; simp at this)]; rfl, HB.out⟩
   ·go_wp2_with fail
    go_ret
    exact ⟨by rw [G1.out (G3.out.2 ⟨by simp, R2.out.1 (by simp), R3.out.1 (by simp)⟩)]; rfl, HB.out⟩

end Go.Proofs.YtcgmmfcphfkdhaaGreat
