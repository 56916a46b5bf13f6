/- The abstract machine, part MB. -/
import Derived.Test.YtdohlggbeagedaaGreatMA
import Derived.Test.YtdohlggbeagedaaGreatPV4
/- Walks: law 8 (GlassMoves), where all is valid. -/
namespace Go.Proofs.YtdohlggbeagedaaGreat
open Go Go.RowKit Go.Proofs Go.Abs

set_option maxRecDepth 100000 in
set_option maxHeartbeats 16000000 in
theorem movesLaw_good (id c r m z sh t x y : Int) (bk b : Bool) (vg vm pv : Value) (ag la : Option Addr) (n gcap lcap : Nat) (w : World) (hvg : vg = .slice ag n gcap) (hpv : pv = .slice la n lcap)
    (H35 : ∀ W, Below w.heap.size w W → Calls Tryz.prog 35 #[pcs id c r m z vg vm] W fun e w' => e = .returned (.bool true) ∧ Below W.heap.size W w')
    (H29 : ∀ W, Below w.heap.size w W → Calls Tryz.prog 29 #[pv] W fun e w' => e = .returned (.bool true) ∧ Below W.heap.size W w')
    (H36 : ∀ W, Calls Tryz.prog 36 #[st sh bk, .int .i64 (n : Nat)] W fun e w' => e = .returned (.bool true) ∧ Below W.heap.size W w')
    (H40 : ∀ W, Calls Tryz.prog 40 #[mo t b x y] W fun e w' => e = .returned (.bool true) ∧ Below W.heap.size W w')
    (S s2 : Int) (b2 f : Bool) (HQ : World → Value → Prop) (HQk : ∀ W W' v, HQ W v → Below W.heap.size W W' → HQ W' v)
    (H41 : ∀ W, Below w.heap.size w W → Calls Tryz.prog 41 #[pv, mo t b x y] W fun e w' => ∃ v s E, e = .returned (.tuple #[v, st s (if E = 0 then b else false), .int .i64 E]) ∧ ((E = 2) ∨ (E = 0 ∧ HQ w' v ∧ s = S)) ∧ Below W.heap.size W w')
    (H37 : ∀ W, Calls Tryz.prog 37 #[st sh bk, st S b, .int .i64 (n : Nat)] W fun e w' => e = .returned (.tuple #[st s2 b2, .int .i64 0]) ∧ Below W.heap.size W w')
    (H12 : ∀ W, Below w.heap.size w W → Calls Tryz.prog 12 #[pcs id c r m z vg vm, pv, st sh bk] W fun e w' => e = .returned (.tuple #[.bool f, .int .i64 0]) ∧ Below W.heap.size W w')
    (H12' : ∀ W v, Below w.heap.size w W → HQ W v → Calls Tryz.prog 12 #[pcs id c r m z vg vm, v, st s2 b2] W fun e w' => e = .returned (.tuple #[.bool f, .int .i64 0]) ∧ Below W.heap.size W w') :
    Calls Tryz.prog 8 #[pcs id c r m z vg vm, pv, st sh bk, mo t b x y] w fun e w' => e = .returned (.bool true) ∧ Below w.heap.size w w' := by
  have b0 : Below w.heap.size w (((w.alloc (pcsObj id c r m z vg vm)).alloc (stObj sh bk)).alloc (moObj t b x y)) := (((Below.refl _ _).alloc (Nat.le_refl _) _).alloc (by simp) _).alloc (by simp; omega) _
  obtain ⟨hp0, hq0, hm0⟩ := pcs_st_mo w id c r m z vg vm sh bk t b x y
  subst hvg hpv
  have H35 := Lib.hid H35
  have H29 := Lib.hid H29
  have H36 := Lib.hid H36
  have H40 := Lib.hid H40
  have H41 := Lib.hid H41
  have H37 := Lib.hid H37
  have H12 := Lib.hid H12
  have H12' := Lib.hid H12'
  have HQk := Lib.hid HQk
  go_enter Tryz.func8, Tryz.ntmps8
  go_upto_region 2 with (go_at_call 10; refine (awake_any _).mono ?_; rintro e w1 ⟨rfl, hb⟩)
  have b1 := keep_below b0 hb
  have hp := (hb.block w.heap.size (by simp; omega)).trans hp0
  have hq := (hb.block (w.heap.size + 1) (by simp)).trans hq0
  have hm := (hb.block (w.heap.size + 2) (by simp)).trans hm0
  have q0 := cell_of hp (k := 0) rfl
  have q1 := cell_of hp (k := 1) rfl
  have q2 := cell_of hp (k := 2) rfl
  have q3 := cell_of hp (k := 3) rfl
  have q4 := cell_of hp (k := 4) rfl
  have q5 := cell_of hp (k := 5) rfl
  have q6 := cell_of hp (k := 6) rfl
  have s0 := cell_of hq (k := 0) rfl
  have s1 := cell_of hq (k := 1) rfl
  have m0 := cell_of hm (k := 0) rfl
  have m1 := cell_of hm (k := 1) rfl
  have m2 := cell_of hm (k := 2) rfl
  have m3 := cell_of hm (k := 3) rfl
  clear hp hq hm hp0 hq0 hm0 b0 hb
  go_upto_region 5 with (first
    | (go_at_call 35; with_reducible refine (H35.out _ b1).mono ?_; rintro e w2 ⟨rfl, hb⟩
       have b1 := keep_below b1 hb
       have q0 := keep_cell hb q0
       have q1 := keep_cell hb q1
       have q2 := keep_cell hb q2
       have q3 := keep_cell hb q3
       have q4 := keep_cell hb q4
       have q5 := keep_cell hb q5
       have q6 := keep_cell hb q6
       have s0 := keep_cell hb s0
       have s1 := keep_cell hb s1
       have m0 := keep_cell hb m0
       have m1 := keep_cell hb m1
       have m2 := keep_cell hb m2
       have m3 := keep_cell hb m3
       clear hb)
    | (go_at_call 29; with_reducible refine (H29.out _ b1).mono ?_; rintro e w3 ⟨rfl, hb⟩
       have b1 := keep_below b1 hb
       have q0 := keep_cell hb q0
       have q1 := keep_cell hb q1
       have q2 := keep_cell hb q2
       have q3 := keep_cell hb q3
       have q4 := keep_cell hb q4
       have q5 := keep_cell hb q5
       have q6 := keep_cell hb q6
       have s0 := keep_cell hb s0
       have s1 := keep_cell hb s1
       have m0 := keep_cell hb m0
       have m1 := keep_cell hb m1
       have m2 := keep_cell hb m2
       have m3 := keep_cell hb m3
       clear hb)
    | (go_at_call 36; with_reducible refine (H36.out _).mono ?_; rintro e w4 ⟨rfl, hb⟩
       have b1 := keep_below b1 hb
       have q0 := keep_cell hb q0
       have q1 := keep_cell hb q1
       have q2 := keep_cell hb q2
       have q3 := keep_cell hb q3
       have q4 := keep_cell hb q4
       have q5 := keep_cell hb q5
       have q6 := keep_cell hb q6
       have s0 := keep_cell hb s0
       have s1 := keep_cell hb s1
       have m0 := keep_cell hb m0
       have m1 := keep_cell hb m1
       have m2 := keep_cell hb m2
       have m3 := keep_cell hb m3
       clear hb)
    | (go_at_call 40; with_reducible refine (H40.out _).mono ?_; rintro e w5 ⟨rfl, hb⟩
       have b1 := keep_below b1 hb
       have q0 := keep_cell hb q0
       have q1 := keep_cell hb q1
       have q2 := keep_cell hb q2
       have q3 := keep_cell hb q3
       have q4 := keep_cell hb q4
       have q5 := keep_cell hb q5
       have q6 := keep_cell hb q6
       have s0 := keep_cell hb s0
       have s1 := keep_cell hb s1
       have m0 := keep_cell hb m0
       have m1 := keep_cell hb m1
       have m2 := keep_cell hb m2
       have m3 := keep_cell hb m3
       clear hb))
  go_upto_region 6 with (first
    | (go_at_call 41; with_reducible refine (H41.out _ b1).mono ?_; rintro e w6 ⟨v, s, E, rfl, hE, hb⟩
       have b1 := keep_below b1 hb
       have q0 := keep_cell hb q0
       have q1 := keep_cell hb q1
       have q2 := keep_cell hb q2
       have q3 := keep_cell hb q3
       have q4 := keep_cell hb q4
       have q5 := keep_cell hb q5
       have q6 := keep_cell hb q6
       have s0 := keep_cell hb s0
       have s1 := keep_cell hb s1
       have m0 := keep_cell hb m0
       have m1 := keep_cell hb m1
       have m2 := keep_cell hb m2
       have m3 := keep_cell hb m3
       have HE := Lib.hid hE
       clear hb hE))
  rcases HE.out with hE2 | ⟨hE0, hQ, hs⟩
  · subst hE2
    go_wp2
    go_ret
    exact ⟨rfl, b1.alloc b1.size _⟩
  · subst hE0 hs
    have z6 := b1.size
    have bw : Below w6.heap.size w6 (w6.alloc (stObj s b)) := (Below.refl _ _).alloc (Nat.le_refl _) _
    have hQa := HQk.out _ _ _ hQ bw
    have b7 := keep_below b1 bw
    have hu := alloc_heap_new w6 (stObj s b)
    have q0 := keep_cell bw q0
    have q1 := keep_cell bw q1
    have q2 := keep_cell bw q2
    have q3 := keep_cell bw q3
    have q4 := keep_cell bw q4
    have q5 := keep_cell bw q5
    have q6 := keep_cell bw q6
    have s0 := keep_cell bw s0
    have s1 := keep_cell bw s1
    have m0 := keep_cell bw m0
    have m1 := keep_cell bw m1
    have m2 := keep_cell bw m2
    have m3 := keep_cell bw m3
    have u0 := cell_of hu (k := 0) rfl
    have u1 := cell_of hu (k := 1) rfl
    clear bw hQ HE H41 hu
    go_upto_region 9 with (first
      | (go_at_call 37; with_reducible refine (H37.out _).mono ?_; rintro e w8 ⟨rfl, hb⟩
         have b8 := keep_below b7 hb
         have hQb := HQk.out _ _ _ hQa hb
         have q0 := keep_cell hb q0
         have q1 := keep_cell hb q1
         have q2 := keep_cell hb q2
         have q3 := keep_cell hb q3
         have q4 := keep_cell hb q4
         have q5 := keep_cell hb q5
         have q6 := keep_cell hb q6
         have s0 := keep_cell hb s0
         have s1 := keep_cell hb s1
         have m0 := keep_cell hb m0
         have m1 := keep_cell hb m1
         have m2 := keep_cell hb m2
         have m3 := keep_cell hb m3
         have bw : Below w8.heap.size w8 (w8.alloc (stObj s2 b2)) := (Below.refl _ _).alloc (Nat.le_refl _) _
         have b9 := keep_below b8 bw
         have hQc := HQk.out _ _ _ hQb bw
         have q0 := keep_cell bw q0
         have q1 := keep_cell bw q1
         have q2 := keep_cell bw q2
         have q3 := keep_cell bw q3
         have q4 := keep_cell bw q4
         have q5 := keep_cell bw q5
         have q6 := keep_cell bw q6
         have s0 := keep_cell bw s0
         have s1 := keep_cell bw s1
         have m0 := keep_cell bw m0
         have m1 := keep_cell bw m1
         have m2 := keep_cell bw m2
         have m3 := keep_cell bw m3
         have hv := alloc_heap_new w8 (stObj s2 b2)
         have v0 := cell_of hv (k := 0) rfl
         have v1 := cell_of hv (k := 1) rfl
         clear hb bw hQa hQb u0 u1 b7 b8 hv))
    go_wp2_with (first
      | (go_at_call 12; with_reducible refine (H12.out _ b9).mono ?_; rintro e w10 ⟨rfl, hb⟩
         have b10 := keep_below b9 hb
         have hQd := HQk.out _ _ _ hQc hb
         have q0 := keep_cell hb q0
         have q1 := keep_cell hb q1
         have q2 := keep_cell hb q2
         have q3 := keep_cell hb q3
         have q4 := keep_cell hb q4
         have q5 := keep_cell hb q5
         have q6 := keep_cell hb q6
         have s0 := keep_cell hb s0
         have s1 := keep_cell hb s1
         have m0 := keep_cell hb m0
         have m1 := keep_cell hb m1
         have m2 := keep_cell hb m2
         have m3 := keep_cell hb m3
         have v0 := keep_cell hb v0
         have v1 := keep_cell hb v1
         clear hb hQc b9)
      | (go_at_call 12; with_reducible refine (H12'.out _ _ b10 hQd).mono ?_; rintro e w11 ⟨rfl, hb⟩
         have b11 := keep_below b10 hb
         clear hb))
    go_ret
    exact ⟨by simp, b11⟩

end Go.Proofs.YtdohlggbeagedaaGreat

/- Walks: law 8 (GlassMoves), whole. -/
namespace Go.Proofs.YtdohlggbeagedaaGreat
open Go Go.RowKit Go.Proofs Go.Abs

theorem shiftS_lt {b : Bool} {n m : Nat} (h : 0 < n) : shiftS b n m < n := by
  unfold shiftS
  split <;> exact Nat.mod_lt _ h

theorem movesLaw_any (id c r m z sh t x y : Int) (bk b : Bool) (vg vm pv : Value) (G : List G5) (M : List M3) (L : List (Int × Int)) (w : World) (hG : SlG w vg G) (hM : SlM w vm M) (hL : SlV w pv L) :
    Calls Tryz.prog 8 #[pcs id c r m z vg vm, pv, st sh bk, mo t b x y] w fun e w' => e = .returned (.bool true) ∧ Below w.heap.size w w' := by
  obtain ⟨ag, gcap, hvg⟩ := hG.shape
  obtain ⟨la, lcap, hpv, -⟩ := _root_.id hL
  have H35 := fun W (hb : Below w.heap.size w W) => refValidPiece_any id c r m z vg vm G M W (hG.keep hb) (hM.keep hb)
  have H29 := fun W (hb : Below w.heap.size w W) => refOut_sl (hL.keep hb)
  have H36 := fun W => refSetting_any sh G.length bk W
  have H40 := fun W => refMotion_any t x y b W
  cases hc : (vP id c r m z G M && (vOut L && (decide (G.length = L.length) && (vset sh G.length && vMo t x y))))
  · exact movesLaw_bad id c r m z sh t x y bk b vg vm pv ag la G.length L.length gcap lcap _ _ _ _ w hvg hpv H35 H29 H36 H40 hc
  · simp only [Bool.and_eq_true, decide_eq_true_eq] at hc
    obtain ⟨hP, hO, hn, hS, hm⟩ := hc
    obtain ⟨h3, h24, -⟩ := vOut_n hO
    have hS' := hS
    simp only [vset, Bool.and_eq_true, decide_eq_true_eq] at hS'
    obtain ⟨⟨⟨a1, a2⟩, a3⟩, a4⟩ := hS'
    obtain ⟨k, rfl⟩ : ∃ k : Nat, sh = (k : Int) := ⟨sh.toNat, by omega⟩
    have hk : k < L.length := by omega
    have hSl := shiftS_lt (b := b) (n := L.length) (m := mvM b t.toNat x y L) (by omega)
    have hSv : vset (shiftS b L.length (mvM b t.toNat x y L) : Nat) G.length = true := by unfold vset; simp; omega
    rw [hP] at H35
    rw [hO] at H29
    rw [hS] at H36
    rw [hm] at H40
    rw [hn] at H36 hvg
    have e1 : fitsE true G L (k : Int) = 0 := by unfold fitsE; rw [if_pos rfl, if_pos ⟨hS, hO⟩]
    refine movesLaw_good id c r m z k t x y bk b vg vm pv ag la L.length gcap lcap w hvg hpv H35 H29 H36 H40 (shiftS b L.length (mvM b t.toNat x y L) : Nat) (Plain.ed (shiftS b L.length (mvM b t.toNat x y L) : Nat) b L.length k) (bk != b) (fitsV true G L k bk)
      (fun W v => vPts (mvL b t.toNat x y L) = true ∧ SlV W v (mvQ b t.toNat x y L)) (fun W W' v h hb => ⟨h.1, h.2.keep hb⟩) ?_ ?_ ?_ ?_
    · intro W hb
      obtain ⟨b0, off, cap, hpv', hpt⟩ := vOut_pts (hL.keep hb) hO
      rw [hpv']
      refine (move_good b0 off cap L t b x y W hpt hO hm).mono ?_
      rintro e w' ⟨v, s, sb, E, rfl, hMS, hb'⟩
      rcases moveS_in hO hm hMS with ⟨-, rfl, rfl, rfl, rfl⟩ | ⟨h1, h2, rfl, rfl, rfl⟩
      · exact ⟨.slice none 0 0, 0, 2, by rw [if_neg (by decide)], .inl rfl, hb'⟩
      · exact ⟨v, (shiftS sb L.length (mvM sb t.toNat x y L) : Nat), 0, by rw [if_pos rfl], .inr ⟨rfl, ⟨h1, h2⟩, rfl⟩, hb'⟩
    · intro W
      have := compose_any k (shiftS b L.length (mvM b t.toNat x y L) : Nat) G.length bk b W hS hSv
      rwa [hn] at this
    · intro W hb
      have := fits12_any id c r m z vg vm pv G M L k bk W (hG.keep hb) (hM.keep hb) (hL.keep hb)
      rwa [hP, e1] at this
    · rintro W v hb ⟨h1, h2⟩
      obtain ⟨g1, g2, g3, g4, g5⟩ := move_fits (G := G) (c := bk) (b := b) hO h1 hn hk
      have := fits12_any id c r m z vg vm v G M (mvQ b t.toNat x y L) (Plain.ed (shiftS b L.length (mvM b t.toNat x y L) : Nat) b L.length k) (bk != b) W (hG.keep hb) (hM.keep hb) h2
      have e2 : fitsE true G (mvQ b t.toNat x y L) (Plain.ed (shiftS b L.length (mvM b t.toNat x y L) : Nat) b L.length k) = 0 := by unfold fitsE; rw [if_pos rfl, if_pos ⟨by rw [hn]; exact g5, g2⟩]
      rwa [hP, e2, ← g1] at this

end Go.Proofs.YtdohlggbeagedaaGreat
