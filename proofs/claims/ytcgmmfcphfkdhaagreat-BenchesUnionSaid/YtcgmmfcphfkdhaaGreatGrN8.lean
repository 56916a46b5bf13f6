/- The abstract machine, part GrN8. -/
import Derived.Test.YtcgmmfcphfkdhaaGreatGrN7
import Derived.Test.YtcgmmfcphfkdhaaGreatGrN3
/- The reference's content is the program's. -/
namespace Go.Proofs.YtcgmmfcphfkdhaaGreat
open Go Go.RowKit Go.Proofs

theorem blI_iff (X : It) : blI X = true ↔ X = It0 := by
 obtain ⟨a0, a1, a2, a3, a4, a5, a6, a7, a8, a9, a10, a11⟩ := X
 unfold blI
 simp only [Bool.and_eq_true, beq_iff_eq, It.mk.injEq]
 constructor
 ·rintro ⟨⟨⟨⟨⟨⟨⟨⟨⟨⟨h0, h1⟩, h2⟩, h3⟩, h4⟩, h5⟩, h6⟩, h7⟩, h8⟩, h9, h10⟩, h11⟩
  exact ⟨h0, h1, h2, h3, h4, h5, h6, List.eq_nil_of_length_eq_zero (by omega), List.eq_nil_of_length_eq_zero (by omega), h9, h10, List.eq_nil_of_length_eq_zero (by omega)⟩
 ·rintro ⟨rfl, rfl, rfl, rfl, rfl, rfl, rfl, rfl, rfl, rfl, rfl, rfl⟩
  simp

theorem blN_iff (N : Nt) : blN N = true ↔ N.p = 0 ∧ N.q = 0 ∧ N.o = 0 ∧ N.t = 0 ∧ N.sh = 0 ∧ N.bk = false ∧ N.rb = 0 ∧ N.rn = 0 ∧ N.P = [] ∧ N.Q = [] ∧ N.D = [] ∧ N.X = It0 := by
 unfold blN
 simp only [Bool.and_eq_true, beq_iff_eq, blI_iff]
 constructor
 ·rintro ⟨⟨⟨⟨⟨⟨⟨⟨⟨h0, h1⟩, h2⟩, h3⟩, h4, h5⟩, h6, h7⟩, h8⟩, h9⟩, h10⟩, h11⟩
  exact ⟨h0, h1, h2, h3, h4, h5, h6, h7, List.eq_nil_of_length_eq_zero (by omega), List.eq_nil_of_length_eq_zero (by omega), List.eq_nil_of_length_eq_zero (by omega), h11⟩
 ·rintro ⟨h0, h1, h2, h3, h4, h5, h6, h7, h8, h9, h10, h11⟩
  rw [h8, h9, h10]
  exact ⟨⟨⟨⟨⟨⟨⟨⟨⟨h0, h1⟩, h2⟩, h3⟩, h4, h5⟩, h6, h7⟩, by simp⟩, by simp⟩, by simp⟩, h11⟩

theorem bar_us1 (x : Nv) : (bar x).N = (us1 x).N ↔ blN { x.N with D := [] } = true := by
 rw [blN_iff]
 obtain ⟨⟨a0, a1, a2, a3, a4, a5, a6, a7, a8, a9, a10, a11, a12, a13, a14, a15, a16, a17⟩, uP, uQ, uD, iP, iC, iS⟩ := x
 simp [bar, us1, z0, Nt.mk.injEq]
 try (constructor <;> (intro h; simp_all))

theorem bar_us2 (x : Nv) : (bar x).N = (us2 x).N ↔ blN { x.N with X := It0 } = true := by
 rw [blN_iff]
 obtain ⟨⟨a0, a1, a2, a3, a4, a5, a6, a7, a8, a9, a10, a11, a12, a13, a14, a15, a16, a17⟩, uP, uQ, uD, iP, iC, iS⟩ := x
 simp [bar, us2, z0, Nt.mk.injEq]
 try (constructor <;> (intro h; simp_all))

theorem bar_us3 (x : Nv) : (bar x).N = (us3 x).N ↔ blN { x.N with Q := [] } = true := by
 rw [blN_iff]
 obtain ⟨⟨a0, a1, a2, a3, a4, a5, a6, a7, a8, a9, a10, a11, a12, a13, a14, a15, a16, a17⟩, uP, uQ, uD, iP, iC, iS⟩ := x
 simp [bar, us3, z0, Nt.mk.injEq]
 try (constructor <;> (intro h; simp_all))

theorem bar_us4 (x : Nv) : (bar x).N = (us4 x).N ↔ blN { x.N with P := [], t := 0 } = true := by
 rw [blN_iff]
 obtain ⟨⟨a0, a1, a2, a3, a4, a5, a6, a7, a8, a9, a10, a11, a12, a13, a14, a15, a16, a17⟩, uP, uQ, uD, iP, iC, iS⟩ := x
 simp [bar, us4, z0, Nt.mk.injEq]
 try (constructor <;> (intro h; simp_all))

theorem bar_us5 (x : Nv) : (bar x).N = (us5 x).N ↔ blN { x.N with rb := 0, rn := 0 } = true := by
 rw [blN_iff]
 obtain ⟨⟨a0, a1, a2, a3, a4, a5, a6, a7, a8, a9, a10, a11, a12, a13, a14, a15, a16, a17⟩, uP, uQ, uD, iP, iC, iS⟩ := x
 simp [bar, us5, z0, Nt.mk.injEq]
 try (constructor <;> (intro h; simp_all))

theorem bar_us6 (x : Nv) : (bar x).N = (us6 x).N ↔ blN { x.N with q := 0, p := 0, o := 0, sh := 0, bk := false } = true := by
 rw [blN_iff]
 obtain ⟨⟨a0, a1, a2, a3, a4, a5, a6, a7, a8, a9, a10, a11, a12, a13, a14, a15, a16, a17⟩, uP, uQ, uD, iP, iC, iS⟩ := x
 simp [bar, us6, z0, Nt.mk.injEq]
 try (constructor <;> (intro h; simp_all))

theorem bar_us7 (x : Nv) : (bar x).N = (us7 x).N ↔ blN { x.N with q := 0 } = true := by
 rw [blN_iff]
 obtain ⟨⟨a0, a1, a2, a3, a4, a5, a6, a7, a8, a9, a10, a11, a12, a13, a14, a15, a16, a17⟩, uP, uQ, uD, iP, iC, iS⟩ := x
 simp [bar, us7, z0, Nt.mk.injEq]
 try (constructor <;> (intro h; simp_all))

theorem bar_us8 (x : Nv) : (bar x).N = (us8 x).N ↔ blN { x.N with p := 0, D := [] } = true := by
 rw [blN_iff]
 obtain ⟨⟨a0, a1, a2, a3, a4, a5, a6, a7, a8, a9, a10, a11, a12, a13, a14, a15, a16, a17⟩, uP, uQ, uD, iP, iC, iS⟩ := x
 simp [bar, us8, z0, Nt.mk.injEq]
 try (constructor <;> (intro h; simp_all))

theorem content111_any (x : Nv) (k : Int) (w : World) (h : NV w x) :
  Calls Tryz.prog 111 #[.agg x.arr, .int .i64 k] w fun e w' => Say e (Con x.N k) ∧ Below w.heap.size w w' := by
 by_cases h1 : k = 1
 ·subst h1
  refine (content111_1 x w h).mono ?_
  rintro e w1 ⟨hs, hb⟩
  refine ⟨say_mono hs ?_, hb⟩
  rw [bar_us1]
  unfold Con Con1
  simp [and_comm]
 by_cases h2 : k = 2
 ·subst h2
  refine (content111_2 x w h).mono ?_
  rintro e w1 ⟨hs, hb⟩
  refine ⟨say_mono hs ?_, hb⟩
  rw [bar_us2]
  unfold Con Con2
  simp [and_comm]
 by_cases h3 : k = 3
 ·subst h3
  refine (content111_3 x w h).mono ?_
  rintro e w1 ⟨hs, hb⟩
  refine ⟨say_mono hs ?_, hb⟩
  rw [bar_us3]
  unfold Con Con3
  simp [and_comm]
 by_cases h4 : k = 4
 ·subst h4
  refine (content111_4 x w h).mono ?_
  rintro e w1 ⟨hs, hb⟩
  refine ⟨say_mono hs ?_, hb⟩
  rw [bar_us4]
  unfold Con Con4
  simp [and_comm]
 by_cases h5 : k = 5
 ·subst h5
  refine (content111_5 x w h).mono ?_
  rintro e w1 ⟨hs, hb⟩
  refine ⟨say_mono hs ?_, hb⟩
  rw [bar_us5]
  unfold Con Con5
  simp [and_comm]
 by_cases h6 : k = 6
 ·subst h6
  refine (content111_6 x w h).mono ?_
  rintro e w1 ⟨hs, hb⟩
  refine ⟨say_mono hs ?_, hb⟩
  rw [bar_us6]
  unfold Con Con6
  simp [and_comm]
 by_cases h7 : k = 7
 ·subst h7
  refine (content111_7 x w h).mono ?_
  rintro e w1 ⟨hs, hb⟩
  refine ⟨say_mono hs ?_, hb⟩
  rw [bar_us7]
  unfold Con Con7
  simp [and_comm]
 by_cases h8 : k = 8
 ·subst h8
  refine (content111_8 x w h).mono ?_
  rintro e w1 ⟨hs, hb⟩
  refine ⟨say_mono hs ?_, hb⟩
  rw [bar_us8]
  unfold Con Con8
  simp [and_comm]
 refine (content111_0 x k ⟨h1, h2, h3, h4, h5, h6, h7, h8⟩ w h).mono ?_
 rintro e w1 ⟨rfl, hb⟩
 exact ⟨say_no (by unfold Con; simp [h1, h2, h3, h4, h5, h6, h7, h8]), hb⟩

end Go.Proofs.YtcgmmfcphfkdhaaGreat

/- Walks: the reference's test of own numbers. -/
namespace Go.Proofs.YtcgmmfcphfkdhaaGreat
open Go Go.RowKit Go.Proofs

def Ids (N : Nt) : Prop := (∀ k, k < N.D.length → ownB N.b (pz N.D k).id = true) ∧ (N.X = It0 ∨ ownB N.b N.X.id = true)

set_option maxRecDepth 100000 in
set_option maxHeartbeats 2000000 in
theorem ids112 (x : Nv) (w : World) (h : NV w x) : Calls Tryz.prog 112 #[.agg x.arr] w fun e w' => Say e (Ids x.N) ∧ Below w.heap.size w w' := by
 obtain ⟨m, hm, ⟨hm0, hm1, hm2⟩, hs38⟩ := m38.out
 obtain ⟨FS, hu40, fs0, -, -, -, -, -, -, -, -, -, -, -, -, -, fs14, fs15⟩ := f40.out
 have hz38 : ∀ w, (zeroValue 38).run Tryz.prog w = .ok (.agg z12) w := Tryz.zeroValue38
 have nb := NB.new w x.arr 40
 have b0 : Below w.heap.size w (w.alloc (.cells x.arr 40)) := (Below.refl _ _).alloc (Nat.le_refl _) _
 obtain ⟨W, hW⟩ : ∃ W, w.alloc (.cells x.arr 40) = W := ⟨_, rfl⟩
 have n1 := nb
 have b1 := b0
 rw [hW] at n1 b1
 have CX := Lib.hid (fun w1 (hb : Below W.heap.size W w1) => sameItem_any x z0 w1 ((h.X.keep b1).keep hb) ⟨sli_nil _, sli_nil _, sls_nil _⟩)
 have HLX := Lib.hid (fun w1 (hb : Below W.heap.size W w1) => (n1.keep hb).loadX hm)
 obtain ⟨aD, cD, eD, hlD, hcD⟩ := h.D.keep b1
 have K0 := Lib.hid (fun w1 (hb : Below W.heap.size W w1) => (n1.keep hb).c (k := 0) (v := .int .i64 x.N.b) rfl)
 have K16 := Lib.hid (fun w1 (hb : Below W.heap.size W w1) => (n1.keep hb).c (k := 16) (v := .slice aD x.N.D.length cD) (by rw [← eD]; rfl))
 have K17 := Lib.hid (fun w1 (hb : Below W.heap.size W w1) => (n1.keep hb).c (k := 17) (v := .int .i64 x.N.X.id) rfl)
 obtain ⟨RR, hRR⟩ : ∃ RR : Prop, Ids x.N = RR := ⟨_, rfl⟩
 rw [hRR]
 have HRR : Hid (((∀ k, k < x.N.D.length → ownB x.N.b (pz x.N.D k).id = true) ∧ (x.N.X = It0 ∨ ownB x.N.b x.N.X.id = true)) ↔ RR) := Lib.hid (Iff.of_eq hRR)
 have HC := Lib.hid hcD
 have HW := Lib.hid hW
 have B1 := Lib.hid b1
 have hzI : z0.itm = z12 := rfl
 rw [hzI] at CX
 clear hRR hcD hW b1 n1 nb b0 eD hm h hzI
 generalize x.arr = V at *
 generalize x.itm = I at *
 generalize x.N.b = b at *
 generalize hDD : x.N.D = D at *
 generalize hXX : x.N.X.id = id at *
 have hX : x.N.X = z0.N.X ↔ x.N.X = It0 := Iff.rfl
 have HX := Lib.hid hX
 clear hDD hXX hX
 obtain ⟨RX, hRX⟩ : ∃ RX : Prop, (x.N.X = z0.N.X) = RX := ⟨_, rfl⟩
 have HRX := Lib.hid (Iff.of_eq hRX)
 rw [hRX] at CX
 clear hRX
 generalize z12 = Y at *
 obtain ⟨n, hn⟩ : ∃ n, D.length = n := ⟨_, rfl⟩
 rw [hn] at K16 HC hlD HRR
 clear hn
 go_enter Tryz.func112, Tryz.ntmps112
 go_wp2_with fail
 rw [HW.out]
 clear HW
 go_loopw [3] (fun i wr => ∃ q : Nat, q ≤ n ∧ i = .int .i64 q ∧ Hid (Below W.heap.size W wr) ∧ ∀ j, j < q → ownB b (pz D j).id = true) (fun i _ => n - (intOf i).toNat)
 case atStart => exact ⟨0, Nat.zero_le _, rfl, Lib.hid (Below.refl _ _), by simp⟩
 case round =>
  obtain ⟨q, hq, rfl, hbel, hall⟩ := hrel
  have HL := Lib.hid hall
  clear hall
  have c0 := K0.out wr hbel.out
  have c16 := K16.out wr hbel.out
  have HB := Lib.hid (B1.out.trans (hbel.out.mono B1.out.size))
  by_cases hlt : q < n
  ·obtain ⟨bb, off, rfl, vg, vm, -, -, k0, -⟩ := HC.out q hlt
   have k0 := keep_cell hbel.out k0
   have j1 : (q : Int) < (n : Int) := by omega
   have j2 : wrap64 ((q : Int) + 1) = (q : Int) + 1 := w64 _ (by omega)
   have C := fun w => own183 b (pz D q).id w
   obtain ⟨p, hp⟩ : ∃ p, ownB b (pz D q).id = p := ⟨_, rfl⟩
   rw [hp] at C
   have HP := Lib.hid hp
   clear hp
   generalize (pz D q).id = x0 at k0 C
   have G0 := grow_cell c0
   have G1 := grow_cell c16
   have G2 := grow_cell k0
   clear k0
   cases p
   ·go_wp2_with fail
    refine wp_region_grow (by kernel_rfl) (by kernel_rfl) ?_
    repeat (go_big_quiet_step ((go_at_call 183; with_reducible exact calls_grow_same (C _))))
    refine wpQuiet_nil ?_
    rintro w2 ⟨z, rfl⟩
    have HB2 := Lib.hid (HB.out.trans (z.b.mono HB.out.size))
    clear C G0 G1 G2 c0 c16
    generalize z.w = w2 at *
    go_wp2_with fail
    go_ret
    exact ⟨say_no (fun k => by have := (HRR.out.2 k).1 q hlt; rw [HP.out] at this; simp at this), HB2.out⟩
   ·go_wp2_with fail
    refine wp_region_grow (by kernel_rfl) (by kernel_rfl) ?_
    repeat (go_big_quiet_step ((go_at_call 183; with_reducible exact calls_grow_same (C _))))
    refine wpQuiet_nil ?_
    rintro w2 ⟨z, rfl⟩
    have HB2 := Lib.hid (hbel.out.trans (z.b.mono hbel.out.size))
    clear C G0 G1 G2 c0 c16
    generalize z.w = w2 at *
    go_wp2_with fail
    refine ⟨⟨q + 1, hlt, by simp, Lib.hid HB2.out, fun j hj => ?_⟩, by simp [intOf]; omega⟩
    rcases Nat.lt_or_ge j q with h | h
    ·exact HL.out j h
    ·obtain rfl : j = q := by omega
     exact HP.out
  ·have j1 : ¬ (q : Int) < (n : Int) := by omega
   have HA : Hid (∀ k, k < n → ownB b (pz D k).id = true) := Lib.hid fun j hj => HL.out j (by omega)
   have lX := HLX.out wr hbel.out
   have C := CX.out wr hbel.out
   have HK := Lib.hid (fun w1 (hb : Below wr.heap.size wr w1) => And.intro (And.intro (K0.out w1 (hbel.out.trans (hb.mono hbel.out.size))) (K17.out w1 (hbel.out.trans (hb.mono hbel.out.size)))) (HB.out.trans (hb.mono HB.out.size)))
   have C2 := Lib.hid (fun w => own183 b id w)
   clear K0 K16 K17 CX HLX HC HL
   generalize ownB b id = ob at *
   go_wp2_with fail
   refine C.mono ?_
   rintro e w1 ⟨⟨r, hr, rfl⟩, hb⟩
   obtain ⟨⟨q0, q17⟩, b2⟩ := HK.out w1 hb
   have HR := Lib.hid hr
   have B2 := Lib.hid b2
   clear hr hb b2 C lX c0 c16 HK
   cases r
   ·have C3 := C2.out
    go_wp2_with (go_at_call 183; with_reducible refine (C3 _).mono ?_; rintro e w3 ⟨rfl, rfl⟩)
    go_ret
    refine ⟨say_is ?_, B2.out⟩
    rw [← HRR.out]
    have h1 : ¬ (x.N.X = It0) := fun k => by have := HR.out.2 (HRX.out.1 (HX.out.2 k)); simp at this
    exact ⟨fun k => ⟨HA.out, .inr k⟩, fun k => k.2.resolve_left h1⟩
   ·go_wp2_with fail
    go_ret
    exact ⟨say_yes (HRR.out.1 ⟨HA.out, .inl (HX.out.1 (HRX.out.2 (HR.out.1 (by simp))))⟩), B2.out⟩

end Go.Proofs.YtcgmmfcphfkdhaaGreat

/- Walks: the reference's Good and CheckNote. -/
namespace Go.Proofs.YtcgmmfcphfkdhaaGreat
open Go Go.RowKit Go.Proofs

theorem vSt_iff (N : Nt) : vSt N = true ↔ (1 ≤ N.b ∧ N.b ≤ 8 ∧ 1 ≤ N.n ∧ N.n ≤ 400 ∧ 1 ≤ N.c ∧ N.c ≤ 1048576 ∧ 0 ≤ N.y ∧ N.y ≤ 9999) := by
 unfold vSt vRf wi
 simp only [Bool.and_eq_true, decide_eq_true_iff]
 omega

set_option maxRecDepth 100000 in
set_option maxHeartbeats 4000000 in
theorem good56_s (x : Nv) (hs : ¬ vSt x.N = true) (w : World) :
  Calls Tryz.prog 56 #[.agg x.arr] w fun e w' => e = .returned (.bool false) ∧ Below w.heap.size w w' := by
 rw [vSt_iff] at hs
 have b0 : Below w.heap.size w (w.alloc (.cells x.arr 40)) := (Below.refl _ _).alloc (Nat.le_refl _) _
 have v0 : x.arr[0]? = some (.int .i64 x.N.b) := rfl
 have v1 : x.arr[1]? = some (.int .i64 x.N.n) := rfl
 have v2 : x.arr[2]? = some (.int .i64 x.N.c) := rfl
 have v3 : x.arr[3]? = some (.int .i64 x.N.y) := rfl
 generalize x.arr = V at *
 generalize x.N.b = b at *
 generalize x.N.n = n at *
 generalize x.N.c = c at *
 generalize x.N.y = y at *
 by_cases h0 : b < 1
 ·have d0 : decide (b < 1) = true := decide_eq_true h0
  clear h0 hs
  go_enter Tryz.func56, Tryz.ntmps56
  go_wp2
  go_ret
  exact ⟨rfl, b0⟩
 ·have d0 : decide (b < 1) = false := decide_eq_false h0
  by_cases h1 : b > 8
  ·have d1 : decide (b > 8) = true := decide_eq_true h1
   clear h1 hs
   clear h0
   go_enter Tryz.func56, Tryz.ntmps56
   go_wp2
   go_ret
   exact ⟨rfl, b0⟩
  ·have d1 : decide (b > 8) = false := decide_eq_false h1
   by_cases h2 : n < 1
   ·have d2 : decide (n < 1) = true := decide_eq_true h2
    clear h2 hs
    clear h0
    clear h1
    go_enter Tryz.func56, Tryz.ntmps56
    go_wp2
    go_ret
    exact ⟨rfl, b0⟩
   ·have d2 : decide (n < 1) = false := decide_eq_false h2
    by_cases h3 : n > 400
    ·have d3 : decide (n > 400) = true := decide_eq_true h3
     clear h3 hs
     clear h0
     clear h1
     clear h2
     go_enter Tryz.func56, Tryz.ntmps56
     go_wp2
     go_ret
     exact ⟨rfl, b0⟩
    ·have d3 : decide (n > 400) = false := decide_eq_false h3
     by_cases h4 : c < 1
     ·have d4 : decide (c < 1) = true := decide_eq_true h4
      clear h4 hs
      clear h0
      clear h1
      clear h2
      clear h3
      go_enter Tryz.func56, Tryz.ntmps56
      go_wp2
      go_ret
      exact ⟨rfl, b0⟩
     ·have d4 : decide (c < 1) = false := decide_eq_false h4
      by_cases h5 : c > 1048576
      ·have d5 : decide (c > 1048576) = true := decide_eq_true h5
       clear h5 hs
       clear h0
       clear h1
       clear h2
       clear h3
       clear h4
       go_enter Tryz.func56, Tryz.ntmps56
       go_wp2
       go_ret
       exact ⟨rfl, b0⟩
      ·have d5 : decide (c > 1048576) = false := decide_eq_false h5
       by_cases h6 : y < 0
       ·have d6 : decide (y < 0) = true := decide_eq_true h6
        clear h6 hs
        clear h0
        clear h1
        clear h2
        clear h3
        clear h4
        clear h5
        go_enter Tryz.func56, Tryz.ntmps56
        go_wp2
        go_ret
        exact ⟨rfl, b0⟩
       ·have d6 : decide (y < 0) = false := decide_eq_false h6
        by_cases h7 : y > 9999
        ·have d7 : decide (y > 9999) = true := decide_eq_true h7
         clear h7 hs
         clear h0
         clear h1
         clear h2
         clear h3
         clear h4
         clear h5
         clear h6
         go_enter Tryz.func56, Tryz.ntmps56
         go_wp2
         go_ret
         exact ⟨rfl, b0⟩
        ·have d7 : decide (y > 9999) = false := decide_eq_false h7
         exfalso; omega

abbrev onl (N : Nt) : Nt := { z0.N with b := N.b, n := N.n, c := N.c, y := N.y, k := N.k }
def GA (N : Nt) : Prop := (1 ≤ N.k ∧ N.k ≤ 8) ∧ N.f = 0 ∧ Con N N.k ∧ Ids N
def GB (N : Nt) : Prop := vRf N.rb N.rn = true ∧ ((N.k = 10 ∧ rst N = onl N) ∨ (¬ N.k = 10 ∧ (1 ≤ N.f ∧ N.f ≤ 8) ∧ ¬ N.f = 5 ∧ Con (rst N) N.f ∧ Ids N))

set_option maxRecDepth 100000 in
set_option maxHeartbeats 4000000 in
theorem good56_a (x : Nv) (hs : vSt x.N = true) (hj : ¬ (x.N.k = 9 ∨ x.N.k = 10)) (w : World) (h : NV w x) :
  Calls Tryz.prog 56 #[.agg x.arr] w fun e w' => Say e (GA x.N) ∧ Below w.heap.size w w' := by
 obtain ⟨m, hm, ⟨hm0, hm1, hm2⟩, hs40⟩ := m40.out
 obtain ⟨FS, hu40, fs0, fs1, fs2, fs3, fs4, fs5, fs6, fs7, fs8, fs9, fs10, fs11, fs12, fs13, fs14, fs15⟩ := f40.out
 have n0 := NB.new w x.arr 40
 have b0 : Below w.heap.size w (w.alloc (.cells x.arr 40)) := (Below.refl _ _).alloc (Nat.le_refl _) _
 have l0 := n0.load (m := m) ((arr_size x).trans hm)
 have C1 := content111_any x x.N.k (w.alloc (.cells x.arr 40)) (h.keep b0)
 have C2 := Lib.hid (fun w1 (hb : Below (w.alloc (.cells x.arr 40)).heap.size (w.alloc (.cells x.arr 40)) w1) => ids112 x w1 ((h.keep b0).keep hb))
 have L := Lib.hid (fun w1 (hb : Below (w.alloc (.cells x.arr 40)).heap.size (w.alloc (.cells x.arr 40)) w1) => (n0.keep hb).load (m := m) ((arr_size x).trans hm))
 have d0 : decide (x.N.b < 1) = false := decide_eq_false (by rw [vSt_iff] at hs; omega)
 have d1 : decide (x.N.b > 8) = false := decide_eq_false (by rw [vSt_iff] at hs; omega)
 have d2 : decide (x.N.n < 1) = false := decide_eq_false (by rw [vSt_iff] at hs; omega)
 have d3 : decide (x.N.n > 400) = false := decide_eq_false (by rw [vSt_iff] at hs; omega)
 have d4 : decide (x.N.c < 1) = false := decide_eq_false (by rw [vSt_iff] at hs; omega)
 have d5 : decide (x.N.c > 1048576) = false := decide_eq_false (by rw [vSt_iff] at hs; omega)
 have d6 : decide (x.N.y < 0) = false := decide_eq_false (by rw [vSt_iff] at hs; omega)
 have d7 : decide (x.N.y > 9999) = false := decide_eq_false (by rw [vSt_iff] at hs; omega)
 have v0 : x.arr[0]? = some (.int .i64 x.N.b) := rfl
 have v1 : x.arr[1]? = some (.int .i64 x.N.n) := rfl
 have v2 : x.arr[2]? = some (.int .i64 x.N.c) := rfl
 have v3 : x.arr[3]? = some (.int .i64 x.N.y) := rfl
 have v4 : x.arr[4]? = some (.int .i64 x.N.k) := rfl
 have v5 : x.arr[5]? = some (.int .i64 x.N.f) := rfl
 have j9 : (x.N.k == 9) = false := by simp only [not_or] at hj; simp [hj.1]
 have j10 : (x.N.k == 10) = false := by simp only [not_or] at hj; simp [hj.2]
 have HK : Hid (GA x.N ↔ (1 ≤ x.N.k ∧ x.N.k ≤ 8) ∧ x.N.f = 0 ∧ Con x.N x.N.k ∧ Ids x.N) := Lib.hid Iff.rfl
 have B0 := Lib.hid b0
 generalize GA x.N = RR at *
 generalize Con x.N x.N.k = CC at *
 generalize Ids x.N = II at *
 generalize x.arr = V at *
 generalize x.N.b = b at *
 generalize x.N.n = n at *
 generalize x.N.c = c at *
 generalize x.N.y = y at *
 generalize x.N.k = k at *
 generalize x.N.f = f at *
 clear n0 b0 h hj hm hs
 by_cases h1 : k ≥ 1
 ·have e1 : decide (k ≥ 1) = true := decide_eq_true h1
  by_cases h2 : k ≤ 8
  ·have e2 : decide (k ≤ 8) = true := decide_eq_true h2
   by_cases h3 : f = 0
   ·have HN := Lib.hid (And.intro h1 h2)
    clear h1 h2
    subst h3
    go_enter Tryz.func56, Tryz.ntmps56
    go_wp2_with fail
    refine C1.mono ?_
    rintro e w1 ⟨⟨r, hr, rfl⟩, hb⟩
    have HR := Lib.hid hr
    have l1 := L.out w1 hb
    have C3 := C2.out w1 hb
    have B1 := Lib.hid (B0.out.trans (hb.mono B0.out.size))
    clear hr hb C1 C2 L l0 B0
    cases r
    ·clear C3
     go_wp2_with fail
     go_ret
     exact ⟨say_no (fun k => by have := HR.out.2 (HK.out.1 k).2.2.1; simp at this), B1.out⟩
    ·go_wp2_with fail
     refine C3.mono ?_
     rintro e w2 ⟨⟨r2, hr2, rfl⟩, hb⟩
     have HR2 := Lib.hid hr2
     have B2 := Lib.hid (B1.out.trans (hb.mono B1.out.size))
     clear hr2 hb C3 l1 B1
     go_wp2_with fail
     go_ret
     exact ⟨say_is (HR2.out.trans ⟨fun q => HK.out.2 ⟨HN.out, by simp, HR.out.1 (by simp), q⟩, fun q => (HK.out.1 q).2.2.2⟩), B2.out⟩
   ·have e3 : (f == 0) = false := by simp [h3]
    have HN := Lib.hid h3
    clear h1 h2 h3 C1 C2 L
    go_enter Tryz.func56, Tryz.ntmps56
    go_wp2_with fail
    go_ret
    exact ⟨say_no (fun q => HN.out (HK.out.1 q).2.1), B0.out⟩
  ·have e2 : decide (k ≤ 8) = false := decide_eq_false h2
   have HN := Lib.hid h2
   clear h1 h2 C1 C2 L
   go_enter Tryz.func56, Tryz.ntmps56
   go_wp2_with fail
   go_ret
   exact ⟨say_no (fun q => by have := HN.out; have := (HK.out.1 q).1.2; omega), B0.out⟩
 ·have e1 : decide (k ≥ 1) = false := decide_eq_false h1
  have HN := Lib.hid h1
  clear h1 C1 C2 L
  go_enter Tryz.func56, Tryz.ntmps56
  go_wp2_with fail
  go_ret
  exact ⟨say_no (fun q => by have := HN.out; have := (HK.out.1 q).1.1; omega), B0.out⟩

end Go.Proofs.YtcgmmfcphfkdhaaGreat

/- The fields of a note, for what is built. -/
namespace Go.Proofs.YtcgmmfcphfkdhaaGreat
open Go Go.RowKit Go.Proofs

set_option maxRecDepth 100000 in
theorem f40m : Hid (∃ (FS : Array Field) (A : Array (Nat × Nat)), ((∀ w, (Array.mapM (fun f : Field => Prod.mk f.offset <$> sizeOf f.type) FS : Sem (Array (Nat × Nat))).run Tryz.prog w = .ok A w) ∧ A[0]? = some (0, 1) ∧ A[1]? = some (1, 1) ∧ A[2]? = some (2, 1) ∧ A[3]? = some (3, 1) ∧ A[4]? = some (4, 1)) ∧ (∀ w, (underlying 40).run Tryz.prog w = .ok (.struct FS) w) ∧
  FS[0]? = some { name := "Bench", type := 3, offset := 0, embedded := false, tag := "", pkgPath := "", byteOffset := 0 } ∧
  FS[1]? = some { name := "Num", type := 3, offset := 1, embedded := false, tag := "", pkgPath := "", byteOffset := 8 } ∧
  FS[2]? = some { name := "Clock", type := 3, offset := 2, embedded := false, tag := "", pkgPath := "", byteOffset := 16 } ∧
  FS[3]? = some { name := "Year", type := 3, offset := 3, embedded := false, tag := "", pkgPath := "", byteOffset := 24 } ∧
  FS[4]? = some { name := "Kind", type := 3, offset := 4, embedded := false, tag := "", pkgPath := "", byteOffset := 32 } ∧
  FS[5]? = some { name := "Fix", type := 3, offset := 5, embedded := false, tag := "", pkgPath := "", byteOffset := 40 } ∧
  FS[6]? = some { name := "Piece", type := 3, offset := 6, embedded := false, tag := "", pkgPath := "", byteOffset := 48 } ∧
  FS[7]? = some { name := "Pane", type := 3, offset := 7, embedded := false, tag := "", pkgPath := "", byteOffset := 56 } ∧
  FS[8]? = some { name := "Colour", type := 3, offset := 8, embedded := false, tag := "", pkgPath := "", byteOffset := 64 } ∧
  FS[9]? = some { name := "To", type := 3, offset := 9, embedded := false, tag := "", pkgPath := "", byteOffset := 72 } ∧
  FS[10]? = some { name := "Setting", type := 29, offset := 10, embedded := false, tag := "", pkgPath := "", byteOffset := 80 } ∧
  FS[11]? = some { name := "Ref", type := 31, offset := 12, embedded := false, tag := "", pkgPath := "", byteOffset := 96 } ∧
  FS[12]? = some { name := "Pieces", type := 32, offset := 14, embedded := false, tag := "", pkgPath := "", byteOffset := 112 } ∧
  FS[13]? = some { name := "Panes", type := 32, offset := 15, embedded := false, tag := "", pkgPath := "", byteOffset := 136 } ∧
  FS[14]? = some { name := "Data", type := 33, offset := 16, embedded := false, tag := "", pkgPath := "", byteOffset := 160 } ∧
  FS[15]? = some { name := "Item", type := 38, offset := 17, embedded := false, tag := "", pkgPath := "", byteOffset := 184 }) := by
  refine Lib.hid ⟨_, #[(0, 1), (1, 1), (2, 1), (3, 1), (4, 1), (5, 1), (6, 1), (7, 1), (8, 1), (9, 1), (10, 2), (12, 2), (14, 1), (15, 1), (16, 1), (17, 12)], ⟨?_, rfl, rfl, rfl, rfl, rfl⟩, run_underlying Tryz.underlying40, ?_⟩
  rotate_left
  · refine ⟨rfl, rfl, rfl, rfl, rfl, rfl, rfl, rfl, rfl, rfl, rfl, rfl, rfl, rfl, rfl, rfl⟩
  · intro w
    kernel_rfl

end Go.Proofs.YtcgmmfcphfkdhaaGreat

/- Walks: the reference's Good, of corrections and withdrawals; CheckNote. -/
namespace Go.Proofs.YtcgmmfcphfkdhaaGreat
open Go Go.RowKit Go.Proofs

def onv (x : Nv) : Nv := { z0 with N := onl x.N }
theorem onv_nv (x : Nv) (w : World) : NV w (onv x) := ⟨sli_nil _, sli_nil _, slp_nil _, ⟨sli_nil _, sli_nil _, sls_nil _⟩⟩

set_option maxRecDepth 100000 in
set_option maxHeartbeats 4000000 in
theorem good56_b (x : Nv) (hs : vSt x.N = true) (hj : x.N.k = 9 ∨ x.N.k = 10) (w : World) (h : NV w x) :
  Calls Tryz.prog 56 #[.agg x.arr] w fun e w' => Say e (GB x.N) ∧ Below w.heap.size w w' := by
 obtain ⟨m, hm, ⟨hm0, hm1, hm2⟩, hs40⟩ := m40.out
 obtain ⟨FS, A, ⟨hmap, am0, am1, am2, am3, am4⟩, hu40, fs0, fs1, fs2, fs3, fs4, fs5, fs6, fs7, fs8, fs9, fs10, fs11, fs12, fs13, fs14, fs15⟩ := f40m.out
 have hz := zA_run
 have hZ1 : zA.size = 29 := rfl
 have hon : Hid (((((zA.setIfInBounds 0 (.int .i64 x.N.b)).setIfInBounds 1 (.int .i64 x.N.n)).setIfInBounds 2 (.int .i64 x.N.c)).setIfInBounds 3 (.int .i64 x.N.y)).setIfInBounds 4 (.int .i64 x.N.k) = (onv x).arr) := Lib.hid (by
  have w0 : zA.setIfInBounds 0 (.int .i64 x.N.b) = Nv.arr { z0 with N := { z0.N with b := x.N.b } } := rfl
  have w1 : (Nv.arr { z0 with N := { z0.N with b := x.N.b } }).setIfInBounds 1 (.int .i64 x.N.n) = Nv.arr { z0 with N := { z0.N with b := x.N.b, n := x.N.n } } := rfl
  have w2 : (Nv.arr { z0 with N := { z0.N with b := x.N.b, n := x.N.n } }).setIfInBounds 2 (.int .i64 x.N.c) = Nv.arr { z0 with N := { z0.N with b := x.N.b, n := x.N.n, c := x.N.c } } := rfl
  have w3 : (Nv.arr { z0 with N := { z0.N with b := x.N.b, n := x.N.n, c := x.N.c } }).setIfInBounds 3 (.int .i64 x.N.y) = Nv.arr { z0 with N := { z0.N with b := x.N.b, n := x.N.n, c := x.N.c, y := x.N.y } } := rfl
  rw [w0, w1, w2, w3]
  rfl)
 obtain ⟨Z, hZ⟩ : ∃ Z, zA = Z := ⟨_, rfl⟩
 rw [hZ] at hz hZ1 hon
 clear hZ
 have n0 := NB.new w x.arr 40
 have b0 : Below w.heap.size w (w.alloc (.cells x.arr 40)) := (Below.refl _ _).alloc (Nat.le_refl _) _
 obtain ⟨x', hx'⟩ : ∃ x' : Nv, ({ x with N := rst x.N } : Nv) = x' := ⟨_, rfl⟩
 have C0 := ref110 x.N.rb x.N.rn (w.alloc (.cells x.arr 40))
 have K := Lib.hid (fun w1 (hb : Below (w.alloc (.cells x.arr 40)).heap.size (w.alloc (.cells x.arr 40)) w1) =>
  And.intro (And.intro ((n0.keep hb).load (m := m) ((arr_size x).trans hm)) (And.intro ((n0.keep hb).c (k := 4) (v := .int .i64 x.N.k) rfl) ((n0.keep hb).c (k := 5) (v := .int .i64 x.N.f) rfl))) (run_storeCells_new (P := Tryz.prog) w1 40 Z x.arr (by rw [arr_size]; kernel_rfl) (by rw [hZ1, arr_size]) h.one))
 have K2 := Lib.hid (fun w1 (hb : Below (w.alloc (.cells x.arr 40)).heap.size (w.alloc (.cells x.arr 40)) w1) (W3 : World) (h3 : w1.alloc (.cells ((x.arr.setIfInBounds 12 (.int .i64 0)).setIfInBounds 13 (.int .i64 0)) 40) = W3) =>
  show NB W3 w.heap.size x.arr 40 ∧ NB W3 w1.heap.size x'.arr 40 ∧ Below w.heap.size w W3 from by
   have nA := ((n0.keep hb).alloc (.cells ((x.arr.setIfInBounds 12 (.int .i64 0)).setIfInBounds 13 (.int .i64 0)) 40))
   have nB := NB.new w1 ((x.arr.setIfInBounds 12 (.int .i64 0)).setIfInBounds 13 (.int .i64 0)) 40
   have b1 := (b0.trans (hb.mono b0.size))
   have b2 := b1.alloc b1.size (.cells ((x.arr.setIfInBounds 12 (.int .i64 0)).setIfInBounds 13 (.int .i64 0)) 40)
   rw [h3] at nA nB b2
   exact ⟨nA, by rw [← hx']; exact nB, b2⟩)
 have NX := Lib.hid (fun W (hb : Below w.heap.size w W) => show NV W x' from by
  rw [← hx']
  exact ⟨h.P.keep hb, h.Q.keep hb, h.D.keep hb, ⟨h.X.P.keep hb, h.X.C.keep hb, h.X.S.keep hb⟩⟩)
 have d0 : decide (x.N.b < 1) = false := decide_eq_false (by rw [vSt_iff] at hs; omega)
 have d1 : decide (x.N.b > 8) = false := decide_eq_false (by rw [vSt_iff] at hs; omega)
 have d2 : decide (x.N.n < 1) = false := decide_eq_false (by rw [vSt_iff] at hs; omega)
 have d3 : decide (x.N.n > 400) = false := decide_eq_false (by rw [vSt_iff] at hs; omega)
 have d4 : decide (x.N.c < 1) = false := decide_eq_false (by rw [vSt_iff] at hs; omega)
 have d5 : decide (x.N.c > 1048576) = false := decide_eq_false (by rw [vSt_iff] at hs; omega)
 have d6 : decide (x.N.y < 0) = false := decide_eq_false (by rw [vSt_iff] at hs; omega)
 have d7 : decide (x.N.y > 9999) = false := decide_eq_false (by rw [vSt_iff] at hs; omega)
 have HK : Hid (GB x.N ↔ vRf x.N.rb x.N.rn = true ∧ ((x.N.k = 10 ∧ x'.N = (onv x).N) ∨ (¬ x.N.k = 10 ∧ (1 ≤ x.N.f ∧ x.N.f ≤ 8) ∧ ¬ x.N.f = 5 ∧ Con x'.N x.N.f ∧ Ids x.N))) := Lib.hid (by rw [← hx']; exact Iff.rfl)
 have CS := Lib.hid (fun W (hb : Below w.heap.size w W) => sameNote_any x' (onv x) W (NX.out W hb) (onv_nv x W))
 have CCo := Lib.hid (fun W (hb : Below w.heap.size w W) => content111_any x' x.N.f W (NX.out W hb))
 have CI := Lib.hid (fun W (hb : Below w.heap.size w W) => ids112 x W (h.keep hb))
 have VV : Hid (x.arr[0]? = some (.int .i64 x.N.b) ∧ x.arr[1]? = some (.int .i64 x.N.n) ∧ x.arr[2]? = some (.int .i64 x.N.c) ∧ x.arr[3]? = some (.int .i64 x.N.y) ∧ x.arr[4]? = some (.int .i64 x.N.k) ∧ x.arr[5]? = some (.int .i64 x.N.f)) := Lib.hid ⟨rfl, rfl, rfl, rfl, rfl, rfl⟩
 have v0 : x.arr[0]? = some (.int .i64 x.N.b) := rfl
 have v1 : x.arr[1]? = some (.int .i64 x.N.n) := rfl
 have v2 : x.arr[2]? = some (.int .i64 x.N.c) := rfl
 have v3 : x.arr[3]? = some (.int .i64 x.N.y) := rfl
 have v4 : x.arr[4]? = some (.int .i64 x.N.k) := rfl
 have v5 : x.arr[5]? = some (.int .i64 x.N.f) := rfl
 have v12 : x.arr[12]? = some (.int .i64 x.N.rb) := rfl
 have v13 : x.arr[13]? = some (.int .i64 x.N.rn) := rfl
 have jj : (x.N.k == 9) = true ∨ ((x.N.k == 9) = false ∧ (x.N.k == 10) = true) := by
  rcases hj with h | h <;> simp [h]
 have hsz' : x'.arr.size = m := (arr_size x').trans hm
 have HSZ : Hid (x.arr.size = m) := Lib.hid ((arr_size x).trans hm)
 have zs0 : ¬ Z.size = 0 := by omega
 have zs6 : ¬ Z = #[] := by
  intro e
  rw [e] at hZ1
  simp at hZ1
 have zs1 : ¬ Z.size < 1 := by omega
 have zs2 : ¬ Z.size < 2 := by omega
 have zs3 : ¬ Z.size < 3 := by omega
 have zs4 : ¬ Z.size < 4 := by omega
 have zs5 : ¬ Z.size < 5 := by omega
 have B0 := Lib.hid b0
 clear n0 b0 h hj hm hx' NX hs
 obtain ⟨p, hp⟩ : ∃ p, vRf x.N.rb x.N.rn = p := ⟨_, rfl⟩
 rw [hp] at C0 HK
 clear hp
 generalize GB x.N = RR at *
 generalize x'.arr = V' at *
 generalize (x'.N = (onv x).N) = EQ at *
 generalize (onv x).arr = T at *
 generalize Con x'.N x.N.f = CC at *
 generalize Ids x.N = II at *
 generalize x.arr = V at *
 generalize x.N.b = b at *
 generalize x.N.n = n at *
 generalize x.N.c = c at *
 generalize x.N.y = y at *
 generalize x.N.k = k at *
 generalize x.N.f = f at *
 generalize x.N.rb = rb at *
 generalize x.N.rn = rn at *
 cases p
 ·rcases jj with j9 | ⟨j9, j10⟩
  all_goals (
   go_enter Tryz.func56, Tryz.ntmps56
   go_wp2_with fail
   refine C0.mono ?_
   rintro e w1 ⟨rfl, hb⟩
   have B1 := Lib.hid (B0.out.trans (hb.mono B0.out.size))
   clear hb C0 K K2 CS CCo CI
   go_wp2_with fail
   go_ret
   exact ⟨say_no (fun q => by have := (HK.out.1 q).1; simp at this), B1.out⟩)
 ·by_cases hk : k = 10
  ·subst hk
   clear jj CCo CI
   go_enter Tryz.func56, Tryz.ntmps56
   go_wp2_with fail
   refine C0.mono ?_
   rintro e w1 ⟨rfl, hb⟩
   obtain ⟨⟨l1, q4, q5⟩, s1⟩ := K.out w1 hb
   obtain ⟨W3, h3⟩ : ∃ W3, w1.alloc (.cells ((V.setIfInBounds 12 (.int .i64 0)).setIfInBounds 13 (.int .i64 0)) 40) = W3 := ⟨_, rfl⟩
   obtain ⟨nA, nB, b3⟩ := K2.out w1 hb W3 h3
   obtain ⟨y0, y1, y2, y3, y4, y5⟩ := VV.out
   have a0 := nA.c y0
   have a1 := nA.c y1
   have a2 := nA.c y2
   have a3 := nA.c y3
   have a4 := nA.c y4
   have l5 := nB.load hsz'
   rw [← h3] at a0 a1 a2 a3 a4 l5
   have H3 := Lib.hid h3
   have B3 := Lib.hid b3
   have hszV := HSZ.out
   clear hb C0 K K2 h3 nA nB b3 y0 y1 y2 y3 y4 y5 v0 v1 v2 v3 v4 v5
   go_wp2_with fail
   rw [hon.out, H3.out]
   clear a0 a1 a2 a3 a4 l5 H3 hmap am0 am1 am2 am3 am4 s1 l1 hz
   refine (CS.out W3 B3.out).mono ?_
   rintro e w4 ⟨⟨r, hr, rfl⟩, hb⟩
   have HR := Lib.hid hr
   have B4 := Lib.hid (B3.out.trans (hb.mono B3.out.size))
   clear hr hb CS
   go_wp2_with fail
   go_ret
   refine ⟨say_is (HR.out.trans ?_), B4.out⟩
   rw [HK.out]
   simp
  ·have j10 : (k == 10) = false := by simp [hk]
   have j9 : (k == 9) = true := by
    rcases jj with h | ⟨h, h2⟩
    ·exact h
    ·rw [j10] at h2; cases h2
   have HKk := Lib.hid hk
   clear jj hk CS
   go_enter Tryz.func56, Tryz.ntmps56
   go_wp2_with fail
   refine C0.mono ?_
   rintro e w1 ⟨rfl, hb⟩
   obtain ⟨⟨l1, q4, q5⟩, s1⟩ := K.out w1 hb
   obtain ⟨W3, h3⟩ : ∃ W3, w1.alloc (.cells ((V.setIfInBounds 12 (.int .i64 0)).setIfInBounds 13 (.int .i64 0)) 40) = W3 := ⟨_, rfl⟩
   obtain ⟨nA, nB, b3⟩ := K2.out w1 hb W3 h3
   obtain ⟨y0, y1, y2, y3, y4, y5⟩ := VV.out
   have a4 := nA.c y4
   have a5 := nA.c y5
   have l5 := nB.load hsz'
   rw [← h3] at a4 a5 l5
   have H3 := Lib.hid h3
   have B3 := Lib.hid b3
   have KA := Lib.hid nA
   have hszV := HSZ.out
   have CC3 := CCo.out W3 b3
   rw [← h3] at CC3
   clear hb C0 K K2 h3 nA nB b3 y0 y1 y2 y3 y4 y5 v0 v1 v2 v3 v4 v5 hmap am0 am1 am2 am3 am4 CCo
   by_cases h1 : f ≥ 1
   ·have e1 : decide (f ≥ 1) = true := decide_eq_true h1
    by_cases h2 : f ≤ 8
    ·have e2 : decide (f ≤ 8) = true := decide_eq_true h2
     by_cases h5 : f = 5
     ·subst h5
      clear CC3
      go_wp2_with fail
      rw [H3.out]
      go_ret
      refine ⟨say_no ?_, B3.out⟩
      rw [HK.out]
      simp [HKk.out]
     ·have e5 : (f != 5) = true := by simp [h5]
      have e5' : (f == 5) = false := by simp [h5]
      have HN := Lib.hid (And.intro (And.intro h1 h2) h5)
      clear h1 h2 h5
      go_wp2_with fail
      refine CC3.mono ?_
      rintro e w4 ⟨⟨r, hr, rfl⟩, hb⟩
      rw [H3.out] at hb
      have HR := Lib.hid hr
      have l6 := (KA.out.keep hb).load hszV
      have C4 := CI.out w4 (B3.out.trans (hb.mono B3.out.size))
      have B4 := Lib.hid (B3.out.trans (hb.mono B3.out.size))
      clear hr hb CC3 CI a4 a5 l5 H3 s1 l1 hz
      cases r
      ·clear C4
       go_wp2_with fail
       go_ret
       refine ⟨say_no (fun q => ?_), B4.out⟩
       rcases (HK.out.1 q).2 with h | h
       ·exact HKk.out h.1
       ·have := HR.out.2 h.2.2.2.1
        simp at this
      ·go_wp2_with fail
       refine C4.mono ?_
       rintro e w5 ⟨⟨r2, hr2, rfl⟩, hb⟩
       have HR2 := Lib.hid hr2
       have B5 := Lib.hid (B4.out.trans (hb.mono B4.out.size))
       clear hr2 hb C4 l6
       go_wp2_with fail
       go_ret
       refine ⟨say_is (HR2.out.trans ⟨fun q => HK.out.2 ⟨by simp, .inr ⟨HKk.out, HN.out.1, HN.out.2, HR.out.1 (by simp), q⟩⟩, fun q => ?_⟩), B5.out⟩
       rcases (HK.out.1 q).2 with h | h
       ·exact absurd h.1 HKk.out
       ·exact h.2.2.2.2
    ·have e2 : decide (f ≤ 8) = false := decide_eq_false h2
     have HN := Lib.hid h2
     clear CC3 h1 h2
     go_wp2_with fail
     rw [H3.out]
     go_ret
     refine ⟨say_no (fun q => ?_), B3.out⟩
     rcases (HK.out.1 q).2 with h | h
     ·exact HKk.out h.1
     ·have := HN.out
      have := h.2.1.2
      omega
   ·have e1 : decide (f ≥ 1) = false := decide_eq_false h1
    have HN := Lib.hid h1
    clear CC3 h1
    go_wp2_with fail
    rw [H3.out]
    go_ret
    refine ⟨say_no (fun q => ?_), B3.out⟩
    rcases (HK.out.1 q).2 with h | h
    ·exact HKk.out h.1
    ·have := HN.out
     have := h.2.1.1
     omega

end Go.Proofs.YtcgmmfcphfkdhaaGreat
