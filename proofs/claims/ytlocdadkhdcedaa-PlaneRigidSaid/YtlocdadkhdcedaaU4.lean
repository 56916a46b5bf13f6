/- The law PlaneRigid, walked. -/
import Derived.Test.YtlocdadkhdcedaaUB
import Derived.Test.YtlocdadkhdcedaaNE
import Derived.Test.YtlocdadkhdcedaaMH
import Derived.Test.YtlocdadkhdcedaaAwake
namespace Go.Proofs.Ytlocdadkhdcedaa
open Go Go.RowKit Go.Proofs Go.Abs Go.Plain

theorem sett_len {L Q : Pl} (h : vOut L = true) : (settV L Q).length ≤ 48 := by
  have := settV_most L Q
  have := (vOut_n h).2.1
  omega

set_option maxRecDepth 100000 in
set_option maxHeartbeats 16000000 in
theorem rigidLaw_any (v1 : Value) (L : Pl) (t1 : Int) (b1 : Bool) (x1 y1 t2 : Int) (b2 : Bool) (x2 y2 : Int) (w : World) (h1 : SlV w v1 L) :
    Calls Try.prog 13 #[v1, mo t1 b1 x1 y1, mo t2 b2 x2 y2] w fun e w' => e = .returned (.bool true) ∧ Below w.heap.size w w' := by
  have V0 := fun w' (hb : Below w.heap.size w w') => refOut_sl (h1.keep hb)
  have V1 := fun w => refMotion_any t1 x1 y1 b1 w
  have V2 := fun w => refMotion_any t2 x2 y2 b2 w
  have S1 := fun w' (hb : Below w.heap.size w w') => move_sl (h1.keep hb) t1 b1 x1 y1
  have H1 := Lib.hid h1
  obtain ⟨vo, hvo⟩ : ∃ c, vOut L = c := ⟨_, rfl⟩
  obtain ⟨m1, hm1⟩ : ∃ c, vMo t1 x1 y1 = c := ⟨_, rfl⟩
  obtain ⟨m2, hm2⟩ : ∃ c, vMo t2 x2 y2 = c := ⟨_, rfl⟩
  rw [hvo] at V0
  rw [hm1] at V1
  rw [hm2] at V2
  have HV := Lib.hid (And.intro hvo (And.intro hm1 hm2))
  clear hvo hm1 hm2
  obtain ⟨a1, cap1, rfl, hl1, -⟩ := h1
  obtain ⟨f0, f1, bel⟩ := laStart w t1 b1 x1 y1 t2 b2 x2 y2
  go_enter Try.func13, Try.ntmps13
  go_wp2_with fail
  refine (awake_any _).mono ?_
  rintro e w1 ⟨rfl, hb⟩
  replace f0 := f0.keep hb
  replace f1 := f1.keep hb
  replace bel := keep_below bel hb
  clear hb
  by_cases g1 : (L.length : Int) > 40
  · go_wp2
    go_ret
    exact ⟨rfl, bel⟩
  go_wp2_with fail
  refine (V0 _ bel).mono ?_
  rintro e w2 ⟨rfl, hb⟩
  replace f0 := f0.keep hb
  replace f1 := f1.keep hb
  replace bel := keep_below bel hb
  clear hb V0
  cases vo
  · go_wp2
    go_ret
    exact ⟨rfl, bel⟩
  have f0_0 := f0.c0
  have f0_1 := f0.c1
  have f0_2 := f0.c2
  have f0_3 := f0.c3
  go_wp2_with fail
  refine (V1 _).mono ?_
  rintro e w3 ⟨rfl, hb⟩
  clear f0_0 f0_1 f0_2 f0_3
  replace f0 := f0.keep hb
  replace f1 := f1.keep hb
  replace bel := keep_below bel hb
  clear hb V1
  cases m1
  · go_wp2
    go_ret
    exact ⟨rfl, bel⟩
  have f1_0 := f1.c0
  have f1_1 := f1.c1
  have f1_2 := f1.c2
  have f1_3 := f1.c3
  go_wp2_with fail
  refine (V2 _).mono ?_
  rintro e w4 ⟨rfl, hb⟩
  clear f1_0 f1_1 f1_2 f1_3
  replace f0 := f0.keep hb
  replace f1 := f1.keep hb
  replace bel := keep_below bel hb
  clear hb V2
  cases m2
  · go_wp2
    go_ret
    exact ⟨rfl, bel⟩
  obtain ⟨hvo, hm1, hm2⟩ := HV.out
  clear HV
  obtain ⟨h3, h24, hvp⟩ := vOut_n hvo
  obtain ⟨⟨t10, t13⟩, -⟩ := vMo_parts hm1
  obtain ⟨⟨t20, t23⟩, -⟩ := vMo_parts hm2
  have HT := Lib.hid (And.intro hvo (And.intro hm1 (And.intro hm2 (And.intro (And.intro t10 t13) (And.intro t20 t23)))))
  clear hvo hm1 hm2 hvp
  have f0_0 := f0.c0
  have f0_1 := f0.c1
  have f0_2 := f0.c2
  have f0_3 := f0.c3
  go_wp2_with fail
  refine (S1 _ bel).mono ?_
  rintro e w5 ⟨va, s, sb, E, rfl, M1, hb⟩
  clear f0_0 f0_1 f0_2 f0_3
  replace f0 := f0.keep hb
  replace f1 := f1.keep hb
  replace bel := keep_below bel hb
  clear hb S1
  rcases M1 with ⟨g, -⟩ | ⟨-, -, rfl, rfl, rfl, rfl⟩ | ⟨-, vm, oQ, rfl, rfl, rfl⟩
  · rw [HT.out.1, HT.out.2.1] at g
    cases g
  · go_wp2
    go_ret
    exact ⟨rfl, bel.alloc bel.size _⟩
  have RF := rigid_facts HT.out.1 HT.out.2.1 vm
  have slQ : SlV w5 va (mvQ sb t1.toNat x1 y1 L) := slv_own (base := w4.heap.size) (by rw [RF.len]; exact oQ) (by rw [RF.len]; omega)
  rw [show leastK (px (turnL sb (mvL sb t1.toNat x1 y1 L))) (py (turnL sb (mvL sb t1.toNat x1 y1 L))) L.length = mvM sb t1.toNat x1 y1 L from rfl]
  clear vm oQ
  generalize mvQ sb t1.toNat x1 y1 L = Q at RF slQ
  generalize shiftS sb L.length (mvM sb t1.toNat x1 y1 L) = S at RF ⊢
  generalize invT t1 sb = T at RF
  generalize -(invP t1 sb x1 y1).1 = X at RF
  generalize -(invP t1 sb x1 y1).2 = Y at RF
  have HR := Lib.hid RF
  clear RF
  replace f0 := f0.alloc (stObj (S : Nat) sb)
  replace f1 := f1.alloc (stObj (S : Nat) sb)
  replace slQ := slQ.keep ((Below.refl _ _).alloc (Nat.le_refl _) (stObj (S : Nat) sb))
  replace bel := bel.alloc bel.size (stObj (S : Nat) sb)
  have q1 := Sb.new w5 (S : Nat) sb
  have A1 : ∀ w', Below w.heap.size w w' → Calls Try.prog 31 #[.slice a1 L.length cap1] w' fun e w'' => e = .returned (.tuple #[.int .i64 (sumL L), .int .i64 0]) ∧ Below w'.heap.size w' w'' := fun w' hb => by
    have := area_sl (H1.out.keep hb)
    rwa [show arV L = .tuple #[.int .i64 (sumL L), .int .i64 0] by unfold arV; rw [if_pos HT.out.1]] at this
  obtain ⟨A, hA⟩ : ∃ A, sumL L = A := ⟨_, rfl⟩
  have HA := Lib.hid hA
  rw [hA] at A1
  clear hA
  go_wp2_with fail
  refine (A1 _ bel).mono ?_
  rintro e w6 ⟨rfl, hb⟩
  replace f0 := f0.keep hb
  replace f1 := f1.keep hb
  replace q1 := q1.keep hb
  replace slQ := slQ.keep hb
  replace bel := keep_below bel hb
  clear hb A1
  have A2 := area_sl slQ
  rw [show arV Q = .tuple #[.int .i64 A, .int .i64 0] by unfold arV; rw [if_pos HR.out.out, HR.out.sum, HA.out]] at A2
  go_wp2_with fail
  refine A2.mono ?_
  rintro e w7 ⟨rfl, hb⟩
  replace f0 := f0.keep hb
  replace f1 := f1.keep hb
  replace q1 := q1.keep hb
  replace slQ := slQ.keep hb
  replace bel := keep_below bel hb
  clear hb A2
  have A3 := settings_sl (H1.out.keep bel) slQ
  rw [show settE L Q = 0 by unfold settE; rw [if_pos ⟨HT.out.1, HR.out.out⟩]] at A3
  have FM := HR.out.mem
  have F48 := sett_len (Q := Q) HT.out.1
  generalize settV L Q = LS at A3 FM F48
  have HFM := Lib.hid FM
  clear FM
  go_wp2_with fail
  refine A3.mono ?_
  rintro e w8 ⟨vs, rfl, oS, hb⟩
  replace f0 := f0.keep hb
  replace f1 := f1.keep hb
  replace q1 := q1.keep hb
  replace slQ := slQ.keep hb
  replace bel := keep_below bel hb
  clear hb A3
  obtain ⟨sS, cS, rfl⟩ := own_shape oS
  have OS := Lib.hid oS
  clear oS
  go_wp2_with fail
  go_loopw [17, 18] (fun f i wr => ∃ k : Nat, k ≤ LS.length ∧ i = .int .i64 k ∧ f = .bool (fnd LS (S, sb) k) ∧ Below w8.heap.size w8 wr) (fun _ i _ => LS.length - (intOf i).toNat)
  case atStart => exact ⟨0, Nat.zero_le _, rfl, rfl, Below.refl _ _⟩
  case round =>
  obtain ⟨k, hk, rfl, rfl, hbel⟩ := hrel
  by_cases hlt : k < LS.length
  · have j1 : (k : Int) < (LS.length : Int) := by omega
    obtain ⟨⟨t, c⟩, hp⟩ : ∃ p, LS[k]? = some p := ⟨_, List.getElem?_eq_getElem hlt⟩
    have HN := Lib.hid (fnd_succ (p := (S, sb)) hp)
    obtain ⟨gA, rfl, c0, c1⟩ := own_pos (own_keep OS.out hbel) hp
    have d0 := (q1.keep hbel).c0
    have d1 := (q1.keep hbel).c1
    obtain ⟨fk, hfk⟩ : ∃ c, fnd LS (S, sb) k = c := ⟨_, rfl⟩
    rw [hfk] at HN ⊢
    clear hfk hp
    have hq := run_st_eql
    cases fk
    · obtain ⟨eb, heb⟩ : ∃ e, ((t : Int) == (S : Int) && c == sb) = e := ⟨_, rfl⟩
      have HN2 : Hid (fnd LS (S, sb) (k + 1) = eb) := Lib.hid (by rw [HN.out]; exact heb)
      go_wp2_with fail
      have G0 := grow_cell c0
      have G1 := grow_cell c1
      have G2 := grow_cell d0
      have G3 := grow_cell d1
      refine wp_region_grow (by kernel_rfl) (by kernel_rfl) ?_
      repeat (go_big_quiet_step (fail))
      refine wpQuiet_nil ?_
      rintro wz ⟨z, hz⟩
      have hb : Below wr.heap.size wr wz := by rw [hz]; exact z.b
      clear hz z G0 G1 G2 G3 c0 c1 d0 d1 hq heb
      have bel2 := keep_below hbel hb
      clear hb
      go_wp2
      exact ⟨⟨k + 1, by omega, by simp, by rw [HN2.out], bel2⟩, by simp [intOf]; omega⟩
    · go_wp2_with fail
      have G0 := grow_cell c0
      have G1 := grow_cell c1
      have G2 := grow_cell d0
      have G3 := grow_cell d1
      refine wp_region_grow (by kernel_rfl) (by kernel_rfl) ?_
      repeat (go_big_quiet_step (fail))
      refine wpQuiet_nil ?_
      rintro wz ⟨z, hz⟩
      have hb : Below wr.heap.size wr wz := by rw [hz]; exact z.b
      clear hz z G0 G1 G2 G3 c0 c1 d0 d1 hq
      have bel2 := keep_below hbel hb
      clear hb
      go_wp2
      exact ⟨⟨k + 1, by omega, by simp, by rw [HN.out]; rfl, bel2⟩, by simp [intOf]; omega⟩
  obtain rfl : k = LS.length := by omega
  rw [show fnd LS (S, sb) LS.length = true from fnd_all HFM.out]
  have hb := hbel
  replace f0 := f0.keep hb
  replace f1 := f1.keep hb
  replace q1 := q1.keep hb
  replace slQ := slQ.keep hb
  replace bel := keep_below bel hb
  clear hb hbel HFM OS
  have f0_0 := f0.c0
  have f0_1 := f0.c1
  have f0_2 := f0.c2
  have f0_3 := f0.c3
  have q1_0 := q1.c0
  have q1_1 := q1.c1
  have IV := fun w => invert_any t1 sb x1 y1 w
  rw [HR.out.inv] at IV
  go_wp2_with fail
  refine (IV _).mono ?_
  rintro e w9 ⟨rfl, hb⟩
  clear f0_0 f0_1 f0_2 f0_3
  clear q1_0 q1_1
  replace f0 := f0.keep hb
  replace f1 := f1.keep hb
  replace q1 := q1.keep hb
  replace slQ := slQ.keep hb
  replace bel := keep_below bel hb
  clear hb IV
  replace f0 := f0.alloc (.cells #[.int .i64 T, .bool sb, .int .i64 X, .int .i64 Y] 49)
  replace f1 := f1.alloc (.cells #[.int .i64 T, .bool sb, .int .i64 X, .int .i64 Y] 49)
  replace q1 := q1.alloc (.cells #[.int .i64 T, .bool sb, .int .i64 X, .int .i64 Y] 49)
  replace slQ := slQ.keep ((Below.refl _ _).alloc (Nat.le_refl _) (.cells #[.int .i64 T, .bool sb, .int .i64 X, .int .i64 Y] 49))
  replace bel := bel.alloc bel.size (.cells #[.int .i64 T, .bool sb, .int .i64 X, .int .i64 Y] 49)
  have p0 := Mb.new w9 T sb X Y 49
  have p0_0 := p0.c0
  have p0_1 := p0.c1
  have p0_2 := p0.c2
  have p0_3 := p0.c3
  go_wp2_with fail
  refine (move_sl slQ T sb X Y).mono ?_
  rintro e w10 ⟨vb, s', sb', E', rfl, M2, hb⟩
  obtain ⟨slR, rfl, rfl, rfl⟩ := HR.out.back M2
  clear M2
  clear p0_0 p0_1 p0_2 p0_3
  replace f0 := f0.keep hb
  replace f1 := f1.keep hb
  replace q1 := q1.keep hb
  replace p0 := p0.keep hb
  replace slQ := slQ.keep hb
  replace bel := keep_below bel hb
  clear hb
  replace f0 := f0.alloc (stObj (Plain.inv (S : Int) sb' (L.length : Int)) sb')
  replace f1 := f1.alloc (stObj (Plain.inv (S : Int) sb' (L.length : Int)) sb')
  replace q1 := q1.alloc (stObj (Plain.inv (S : Int) sb' (L.length : Int)) sb')
  replace p0 := p0.alloc (stObj (Plain.inv (S : Int) sb' (L.length : Int)) sb')
  replace slQ := slQ.keep ((Below.refl _ _).alloc (Nat.le_refl _) (stObj (Plain.inv (S : Int) sb' (L.length : Int)) sb'))
  replace slR := slR.keep ((Below.refl _ _).alloc (Nat.le_refl _) (stObj (Plain.inv (S : Int) sb' (L.length : Int)) sb'))
  replace bel := bel.alloc bel.size (stObj (Plain.inv (S : Int) sb' (L.length : Int)) sb')
  have q2 := Sb.new w10 (Plain.inv (S : Int) sb' (L.length : Int)) sb'
  have hvS : vset (S : Int) (L.length : Int) = true := by
    have := HR.out.lt
    unfold vset
    simp
    omega
  have hvI : vset (Plain.inv (S : Int) sb' (L.length : Int)) (L.length : Int) = true := by
    have := HR.out.lt
    have := Plain.inv_range (s := (S : Int)) (n := (L.length : Int)) (b := sb') (by omega) (by omega)
    unfold vset
    simp
    omega
  have IN := fun w => inverse_any (S : Int) (L.length : Int) sb' w hvS
  have CO := fun w => compose_any (S : Int) (Plain.inv (S : Int) sb' (L.length : Int)) (L.length : Int) sb' sb' w hvS hvI
  rw [Plain.inv_ed (by omega) (by have := HR.out.lt; omega), show (sb' != sb') = false by cases sb' <;> rfl] at CO
  generalize Plain.inv (S : Int) sb' (L.length : Int) = I at *
  clear hvS hvI
  have q1_0 := q1.c0
  have q1_1 := q1.c1
  go_wp2_with fail
  refine (IN _).mono ?_
  rintro e w11 ⟨rfl, hb⟩
  clear q1_0 q1_1
  replace f0 := f0.keep hb
  replace f1 := f1.keep hb
  replace q1 := q1.keep hb
  replace p0 := p0.keep hb
  replace q2 := q2.keep hb
  replace slQ := slQ.keep hb
  replace slR := slR.keep hb
  replace bel := keep_below bel hb
  clear hb IN
  replace f0 := f0.alloc (stObj I sb')
  replace f1 := f1.alloc (stObj I sb')
  replace q1 := q1.alloc (stObj I sb')
  replace p0 := p0.alloc (stObj I sb')
  replace q2 := q2.alloc (stObj I sb')
  replace slQ := slQ.keep ((Below.refl _ _).alloc (Nat.le_refl _) (stObj I sb'))
  replace slR := slR.keep ((Below.refl _ _).alloc (Nat.le_refl _) (stObj I sb'))
  replace bel := bel.alloc bel.size (stObj I sb')
  have q3 := Sb.new w11 I sb'
  go_wp2_with fail
  refine (samePts_any _ slR (H1.out.keep bel) (by omega)).mono ?_
  rintro e w12 ⟨rfl, hb⟩
  replace f0 := f0.keep hb
  replace f1 := f1.keep hb
  replace q1 := q1.keep hb
  replace p0 := p0.keep hb
  replace q2 := q2.keep hb
  replace q3 := q3.keep hb
  replace slQ := slQ.keep hb
  replace slR := slR.keep hb
  replace bel := keep_below bel hb
  clear hb slR
  have q1_0 := q1.c0
  have q1_1 := q1.c1
  have q2_0 := q2.c0
  have q2_1 := q2.c1
  go_wp2_with fail
  refine (CO _).mono ?_
  rintro e w13 ⟨rfl, hb⟩
  clear q1_0 q1_1
  clear q2_0 q2_1
  replace f0 := f0.keep hb
  replace f1 := f1.keep hb
  replace q1 := q1.keep hb
  replace p0 := p0.keep hb
  replace q2 := q2.keep hb
  replace q3 := q3.keep hb
  replace slQ := slQ.keep hb
  replace bel := keep_below bel hb
  clear hb CO
  replace f0 := f0.alloc (stObj 0 false)
  replace f1 := f1.alloc (stObj 0 false)
  replace q1 := q1.alloc (stObj 0 false)
  replace p0 := p0.alloc (stObj 0 false)
  replace q2 := q2.alloc (stObj 0 false)
  replace q3 := q3.alloc (stObj 0 false)
  replace slQ := slQ.keep ((Below.refl _ _).alloc (Nat.le_refl _) (stObj 0 false))
  replace bel := bel.alloc bel.size (stObj 0 false)
  have q4 := Sb.new w13 0 false
  have A4 := settings_sl (H1.out.keep bel) (H1.out.keep bel)
  rw [show settE L L = 0 by unfold settE; rw [if_pos ⟨HT.out.1, HT.out.1⟩]] at A4
  have FM := HR.out.self
  have F48' := sett_len (Q := L) HT.out.1
  generalize settV L L = LT at A4 FM F48'
  have HFM := Lib.hid FM
  clear FM
  go_wp2_with fail
  refine A4.mono ?_
  rintro e w14 ⟨vt, rfl, oT, hb⟩
  replace f0 := f0.keep hb
  replace f1 := f1.keep hb
  replace q1 := q1.keep hb
  replace p0 := p0.keep hb
  replace q2 := q2.keep hb
  replace q3 := q3.keep hb
  replace q4 := q4.keep hb
  replace slQ := slQ.keep hb
  replace bel := keep_below bel hb
  clear hb A4
  obtain ⟨sT, cT, rfl⟩ := own_shape oT
  have AM : Calls Try.prog 70 #[.slice sT LT.length cT, st 0 false] w14 fun e w' => e = .returned (.bool true) ∧ Below w14.heap.size w14 w' := among_any _ oT (by omega) 0 false HFM.out
  have q4_0 := q4.c0
  have q4_1 := q4.c1
  have hq := run_st_neq
  go_wp2_with fail
  refine AM.mono ?_
  rintro e w15 ⟨rfl, hb⟩
  clear q4_0 q4_1
  replace f0 := f0.keep hb
  replace f1 := f1.keep hb
  replace q1 := q1.keep hb
  replace p0 := p0.keep hb
  replace q2 := q2.keep hb
  replace q3 := q3.keep hb
  replace q4 := q4.keep hb
  replace slQ := slQ.keep hb
  replace bel := keep_below bel hb
  clear hb AM HFM oT
  have q2_0 := q2.c0
  have q2_1 := q2.c1
  have q3_0 := q3.c0
  have q3_1 := q3.c1
  have f0_0 := f0.c0
  have f0_1 := f0.c1
  have f0_2 := f0.c2
  have f0_3 := f0.c3
  have f1_0 := f1.c0
  have f1_1 := f1.c1
  have f1_2 := f1.c2
  have f1_3 := f1.c3
  have CC := fun w => compose_good t1 sb' x1 y1 t2 b2 x2 y2 w HT.out.2.1 HT.out.2.2.1
  have HC : Hid (comV t1 sb' x1 y1 t2 b2 x2 y2 = if vMo (comT t1 t2 b2) (mvP b2 t2.toNat x2 y2 (x1, y1)).1 (mvP b2 t2.toNat x2 y2 (x1, y1)).2 then
      .tuple #[mo (comT t1 t2 b2) (sb' != b2) (mvP b2 t2.toNat x2 y2 (x1, y1)).1 (mvP b2 t2.toNat x2 y2 (x1, y1)).2, .int .i64 0] else .tuple #[mo 0 false 0 0, .int .i64 2]) := Lib.hid (by
    unfold comV
    rw [HT.out.2.1, HT.out.2.2.1]
    rfl)
  have HX := Lib.hid (fun (base : Nat) (W : World) (v : Value) (s : Int) (c : Bool) (E : Int) h => HR.out.next (t2 := t2) (b2 := b2) (x2 := x2) (y2 := y2) HT.out.2.2.1 (base := base) (W := W) (v := v) (s := s) (sb := c) (E := E) h)
  go_wp2_with fail
  refine (CC _).mono ?_
  rintro e w16 ⟨rfl, hb⟩
  clear q2_0 q2_1
  clear q3_0 q3_1
  clear f0_0 f0_1 f0_2 f0_3
  clear f1_0 f1_1 f1_2 f1_3
  replace f0 := f0.keep hb
  replace f1 := f1.keep hb
  replace q1 := q1.keep hb
  replace p0 := p0.keep hb
  replace q2 := q2.keep hb
  replace q3 := q3.keep hb
  replace q4 := q4.keep hb
  replace slQ := slQ.keep hb
  replace bel := keep_below bel hb
  clear hb CC hq
  generalize comT t1 t2 b2 = CT at HC HX
  generalize (mvP b2 t2.toNat x2 y2 (x1, y1)).1 = CX at HC HX
  generalize (mvP b2 t2.toNat x2 y2 (x1, y1)).2 = CY at HC HX
  obtain ⟨vc, hvc⟩ : ∃ c, vMo CT CX CY = c := ⟨_, rfl⟩
  rw [hvc] at HC
  have HVC := Lib.hid hvc
  clear hvc
  have MQ := fun w' (hb : Below w16.heap.size w16 w') => move_sl (slQ.keep hb) t2 b2 x2 y2
  have slN := slQ
  clear slQ
  cases vc
  · rw [show comV t1 sb' x1 y1 t2 b2 x2 y2 = .tuple #[mo 0 false 0 0, .int .i64 2] from HC.out]
    clear HC
    have bq : Below w16.heap.size w16 (w16.alloc (.cells #[.int .i64 0, .bool false, .int .i64 0, .int .i64 0] 49)) := (Below.refl _ _).alloc (Nat.le_refl _) _
    replace f0 := f0.alloc (.cells #[.int .i64 0, .bool false, .int .i64 0, .int .i64 0] 49)
    replace f1 := f1.alloc (.cells #[.int .i64 0, .bool false, .int .i64 0, .int .i64 0] 49)
    replace q1 := q1.alloc (.cells #[.int .i64 0, .bool false, .int .i64 0, .int .i64 0] 49)
    replace p0 := p0.alloc (.cells #[.int .i64 0, .bool false, .int .i64 0, .int .i64 0] 49)
    replace q2 := q2.alloc (.cells #[.int .i64 0, .bool false, .int .i64 0, .int .i64 0] 49)
    replace q3 := q3.alloc (.cells #[.int .i64 0, .bool false, .int .i64 0, .int .i64 0] 49)
    replace q4 := q4.alloc (.cells #[.int .i64 0, .bool false, .int .i64 0, .int .i64 0] 49)
    replace bel := bel.alloc bel.size (.cells #[.int .i64 0, .bool false, .int .i64 0, .int .i64 0] 49)
    have p1 := Mb.new w16 0 false 0 0 49
    have f1_0 := f1.c0
    have f1_1 := f1.c1
    have f1_2 := f1.c2
    have f1_3 := f1.c3
    go_wp2_with fail
    refine (MQ _ bq).mono ?_
    rintro e w17 ⟨vu, s', c', E', rfl, M3, hb⟩
    clear f1_0 f1_1 f1_2 f1_3
    replace f0 := f0.keep hb
    replace f1 := f1.keep hb
    replace q1 := q1.keep hb
    replace p0 := p0.keep hb
    replace q2 := q2.keep hb
    replace q3 := q3.keep hb
    replace q4 := q4.keep hb
    replace p1 := p1.keep hb
    replace bel := keep_below bel hb
    clear hb MQ
    rcases HX.out _ _ _ _ _ _ M3 with rfl | ⟨rfl, N, hN, slU, HL⟩
    · clear M3
      go_wp2
      go_ret
      exact ⟨rfl, bel.alloc bel.size _⟩
    clear M3
    go_wp2
    go_ret
    exact ⟨rfl, bel.alloc bel.size _⟩
  · rw [show comV t1 sb' x1 y1 t2 b2 x2 y2 = .tuple #[mo CT (sb' != b2) CX CY, .int .i64 0] from HC.out]
    clear HC
    have bq : Below w16.heap.size w16 (w16.alloc (.cells #[.int .i64 CT, .bool (sb' != b2), .int .i64 CX, .int .i64 CY] 49)) := (Below.refl _ _).alloc (Nat.le_refl _) _
    replace f0 := f0.alloc (.cells #[.int .i64 CT, .bool (sb' != b2), .int .i64 CX, .int .i64 CY] 49)
    replace f1 := f1.alloc (.cells #[.int .i64 CT, .bool (sb' != b2), .int .i64 CX, .int .i64 CY] 49)
    replace q1 := q1.alloc (.cells #[.int .i64 CT, .bool (sb' != b2), .int .i64 CX, .int .i64 CY] 49)
    replace p0 := p0.alloc (.cells #[.int .i64 CT, .bool (sb' != b2), .int .i64 CX, .int .i64 CY] 49)
    replace q2 := q2.alloc (.cells #[.int .i64 CT, .bool (sb' != b2), .int .i64 CX, .int .i64 CY] 49)
    replace q3 := q3.alloc (.cells #[.int .i64 CT, .bool (sb' != b2), .int .i64 CX, .int .i64 CY] 49)
    replace q4 := q4.alloc (.cells #[.int .i64 CT, .bool (sb' != b2), .int .i64 CX, .int .i64 CY] 49)
    replace bel := bel.alloc bel.size (.cells #[.int .i64 CT, .bool (sb' != b2), .int .i64 CX, .int .i64 CY] 49)
    have p1 := Mb.new w16 CT (sb' != b2) CX CY 49
    have f1_0 := f1.c0
    have f1_1 := f1.c1
    have f1_2 := f1.c2
    have f1_3 := f1.c3
    go_wp2_with fail
    refine (MQ _ bq).mono ?_
    rintro e w17 ⟨vu, s', c', E', rfl, M3, hb⟩
    clear f1_0 f1_1 f1_2 f1_3
    replace f0 := f0.keep hb
    replace f1 := f1.keep hb
    replace q1 := q1.keep hb
    replace p0 := p0.keep hb
    replace q2 := q2.keep hb
    replace q3 := q3.keep hb
    replace q4 := q4.keep hb
    replace p1 := p1.keep hb
    replace bel := keep_below bel hb
    clear hb MQ
    rcases HX.out _ _ _ _ _ _ M3 with rfl | ⟨rfl, N, hN, slU, HL⟩
    · clear M3
      go_wp2
      go_ret
      exact ⟨rfl, bel.alloc bel.size _⟩
    clear M3
    have ML := fun w' (hb : Below w.heap.size w w') => move_sl (H1.out.keep hb) CT (sb' != b2) CX CY
    have HL2 := Lib.hid (fun (base : Nat) (W : World) (v : Value) (s : Int) (c : Bool) (E : Int) h => HL HVC.out (base' := base) (W' := W) (v' := v) (s' := s) (sb' := c) (E' := E) h)
    clear HL
    replace f0 := f0.alloc (stObj s' c')
    replace f1 := f1.alloc (stObj s' c')
    replace q1 := q1.alloc (stObj s' c')
    replace p0 := p0.alloc (stObj s' c')
    replace q2 := q2.alloc (stObj s' c')
    replace q3 := q3.alloc (stObj s' c')
    replace q4 := q4.alloc (stObj s' c')
    replace p1 := p1.alloc (stObj s' c')
    replace slU := slU.keep ((Below.refl _ _).alloc (Nat.le_refl _) (stObj s' c'))
    replace bel := bel.alloc bel.size (stObj s' c')
    have p1_0 := p1.c0
    have p1_1 := p1.c1
    have p1_2 := p1.c2
    have p1_3 := p1.c3
    generalize (sb' != b2) = db at *
    go_wp2_with fail
    refine (ML _ bel).mono ?_
    rintro e w18 ⟨vv, s'', c'', E'', rfl, M4, hb⟩
    clear p1_0 p1_1 p1_2 p1_3
    replace f0 := f0.keep hb
    replace f1 := f1.keep hb
    replace q1 := q1.keep hb
    replace p0 := p0.keep hb
    replace q2 := q2.keep hb
    replace q3 := q3.keep hb
    replace q4 := q4.keep hb
    replace p1 := p1.keep hb
    replace slU := slU.keep hb
    replace bel := keep_below bel hb
    clear hb ML
    obtain ⟨slV, rfl⟩ := HL2.out _ _ _ _ _ _ M4
    clear M4
    replace f0 := f0.alloc (stObj s'' c'')
    replace f1 := f1.alloc (stObj s'' c'')
    replace q1 := q1.alloc (stObj s'' c'')
    replace p0 := p0.alloc (stObj s'' c'')
    replace q2 := q2.alloc (stObj s'' c'')
    replace q3 := q3.alloc (stObj s'' c'')
    replace q4 := q4.alloc (stObj s'' c'')
    replace p1 := p1.alloc (stObj s'' c'')
    replace slU := slU.keep ((Below.refl _ _).alloc (Nat.le_refl _) (stObj s'' c''))
    replace slV := slV.keep ((Below.refl _ _).alloc (Nat.le_refl _) (stObj s'' c''))
    replace bel := bel.alloc bel.size (stObj s'' c'')
    go_wp2_with fail
    refine (samePts_any _ slU slV hN).mono ?_
    rintro e w19 ⟨rfl, hb⟩
    replace f0 := f0.keep hb
    replace f1 := f1.keep hb
    replace q1 := q1.keep hb
    replace p0 := p0.keep hb
    replace q2 := q2.keep hb
    replace q3 := q3.keep hb
    replace q4 := q4.keep hb
    replace p1 := p1.keep hb
    replace slU := slU.keep hb
    replace slV := slV.keep hb
    replace bel := keep_below bel hb
    go_wp2
    go_ret
    exact ⟨rfl, bel⟩

end Go.Proofs.Ytlocdadkhdcedaa
