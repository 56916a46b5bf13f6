/- Walks: law 7 (GlassPairs). -/
import Derived.Test.YtiebbbeijlfedaaH26
namespace Go.Proofs.Ytiebbbeijlfedaa
open Go Go.RowKit Go.Proofs Go.Pairs

theorem SlN.shape {w : World} {v : Value} {L : List Nat} (h : SlN w v L) : ∃ a c, v = .slice a L.length c := by
  obtain ⟨a, c, e, -⟩ := h
  rw [List.length_map] at e
  exact ⟨a, c, e⟩

theorem SlN.at {w : World} {a : Option Addr} {c : Nat} {L : List Nat} (h : SlN w (.slice a L.length c) L) {i : Nat} (hi : i < L.length) : ∃ b off, a = some ⟨b, off, none⟩ ∧ w.cell? ⟨b, off + i, none⟩ = some (.int .i64 ((L.getD i 0 : Nat) : Int)) := by
  obtain ⟨a', c', e, -, hc⟩ := h
  rw [List.length_map] at e hc
  simp only [Value.slice.injEq] at e
  obtain ⟨rfl, -, rfl⟩ := e
  obtain ⟨b, off, rfl, h1⟩ := hc i hi
  exact ⟨b, off, rfl, by rw [← iz_map]; exact h1⟩

set_option maxRecDepth 100000 in
set_option maxHeartbeats 4000000 in
theorem pairsLaw_any (va vb : Value) (s t : Int) (A B : List M3) (w : World) (hA : SlM w va A) (hB : SlM w vb B) :
    Calls Try.prog 7 #[va, vb, .int .i64 s, .int .i64 t] w fun x w' => x = .returned (.bool true) ∧ Below w.heap.size w w' := by
  have HA := Lib.hid hA
  have HB := Lib.hid hB
  obtain ⟨a, capa, rfl, hla, hca⟩ := hA
  obtain ⟨b, capb, rfl, hlb, hcb⟩ := hB
  have HCA := Lib.hid hca
  have HCB := Lib.hid hcb
  clear hca hcb
  go_enter Try.func7, Try.ntmps7
  go_upto_region 2 with (go_at_call 9; refine (awake_any _).mono ?_; rintro e w1 ⟨rfl, b1⟩)
  by_cases k1 : 100 < A.length
  · have j1 : (100 : Int) < (A.length : Int) := by omega
    go_wp2
    go_ret
    exact ⟨rfl, b1⟩
  · have j1 : ¬ (100 : Int) < (A.length : Int) := by omega
    by_cases k2 : 100 < B.length
    · have j2 : (100 : Int) < (B.length : Int) := by omega
      go_wp2
      go_ret
      exact ⟨rfl, b1⟩
    · have j2 : ¬ (100 : Int) < (B.length : Int) := by omega
      have C1 := runOnP_any A B s _ _ w1 (HA.out.keep b1) (HB.out.keep b1)
      go_upto_region 5 with (go_at_call 24; with_reducible refine C1.mono ?_; rintro x w2 ⟨r1, rfl, t1, hb1⟩)
      have b2 := keep_below b1 hb1
      clear C1 hb1 b1
      have C2 := runOnP_any B A s _ _ w2 (HB.out.keep b2) (HA.out.keep b2)
      rw [runE_symm] at C2
      go_upto_region 6 with (go_at_call 24; with_reducible refine C2.mono ?_; rintro x w3 ⟨r2, rfl, t2, hb2⟩)
      have b3 := keep_below b2 hb2
      replace t1 := t1.keep hb2
      clear C2 hb2 b2
      obtain ⟨a1, c1, rfl⟩ := t1.shape
      obtain ⟨a2, c2, rfl⟩ := t2.shape
      by_cases hok : okR A B s = true ∧ opM A B s = true
      · obtain ⟨h1, h2⟩ := hok
        have hE : runE A B s = 0 := by unfold runE; rw [if_pos h1, if_pos h2]
        have hL1 : runL A B s = grM A B s := by unfold runL; rw [if_pos ⟨h1, h2⟩]
        have hlen := opM_len h1 h2
        have hl1 : (grM A B s).length = A.length := gr_len (okR_parts h1).1 h2
        have hl2 : (runL B A s).length = A.length := by
          unfold runL
          rw [okR_symm, opM_symm, if_pos ⟨h1, h2⟩, gr_len (okR_parts h1).2.1 (by rw [opM_symm]; exact h2), hlen]
        rw [hL1] at t1 ⊢
        rw [hE, hl1, hl2, hlen]
        have HGR : Hid (∀ i, i < A.length → (grM A B s).getD i 0 < A.length ∧ runs1 (mq A i) (mq B ((grM A B s).getD i 0)) s = true ∧ sofar (grM A B s) i ((grM A B s).getD i 0) = false) := Lib.hid fun i hi => by
          have := gr_ok h1 h2 hi
          rw [hlen] at this
          exact this
        have HSO : Hid (∀ i, i < A.length → ∀ k, sofar (grM A B s) (i + 1) k = if k = (grM A B s).getD i 0 then true else sofar (grM A B s) i k) := Lib.hid fun i hi k => sofar_next (by omega) k
        have HAT : Hid (∀ i, i < A.length → ∃ b off, a1 = some ⟨b, off, none⟩ ∧ w3.cell? ⟨b, off + i, none⟩ = some (.int .i64 (((grM A B s).getD i 0 : Nat) : Int))) := Lib.hid fun i hi => by
          exact t1.at (by omega)
        obtain ⟨vA, vB, hs⟩ := okR_parts h1
        obtain ⟨lA, fA, -⟩ := vOne_facts vA
        obtain ⟨-, fB, -⟩ := vOne_facts vB
        have HMO : Hid (s ≤ t → t ≤ 16 → ∀ W, Below w.heap.size w W → Calls Try.prog 24 #[.slice a A.length capa, .slice b A.length capb, .int .i64 t] W fun e w' => ∃ v, e = .returned (.tuple #[v, .int .i64 0]) ∧ Below W.heap.size W w') := Lib.hid fun q1 q2 W hb => by
          have hE' : runE A B t = 0 := by unfold runE; rw [if_pos (okR_more h1 q1 q2), if_pos (opM_mono q1 h2)]
          have sB' := HB.out.keep hb
          rw [hlen] at sB'
          have := runOnP_any A B t _ _ W (HA.out.keep hb) sB'
          rw [hE'] at this
          exact this.mono fun e w' ⟨v, he, _, hb'⟩ => ⟨v, he, hb'⟩
        have HFA := Lib.hid fA
        have HFB := Lib.hid fB
        have HZ := Lib.hid (sofar_zero (grM A B s))
        rw [hlen] at HCB HFB
        clear t1 t2 hL1 hE hl1 hl2 h1 h2 vA vB fA fB hlb k1 k2 HA HB j2
        generalize grM A B s = G at HGR HSO HAT HZ
        obtain ⟨n, hn⟩ : ∃ n, A.length = n := ⟨_, rfl⟩
        rw [hn] at HGR HSO HAT HMO HFA HFB HCA HCB lA hla j1 ⊢
        clear hn hlen
        have M1 := make59 n (by omega) w3
        have R0 := BB.made n w3
        have R1 : BB (w3.alloc (.cells (madeCells #[.bool false] n) 4)) w3.heap.size (sofar G 0) n := by
          have e : bv (fun _ => false) n = bv (sofar G 0) n := by unfold bv; simp [HZ.out]
          unfold BB at R0 ⊢
          rw [← e]
          exact R0
        have b4 := b3.alloc b3.size (.cells (madeCells #[.bool false] n) 4)
        have bW : Below w3.heap.size w3 (w3.alloc (.cells (madeCells #[.bool false] n) 4)) := (Below.refl _ _).alloc (Nat.le_refl _) _
        obtain ⟨W4, hW4⟩ : ∃ W4, w3.alloc (.cells (madeCells #[.bool false] n) 4) = W4 := ⟨_, rfl⟩
        obtain ⟨g, hg⟩ : ∃ g, w3.heap.size = g := ⟨_, rfl⟩
        have hgw : w.heap.size ≤ g := by rw [← hg]; exact b3.size
        rw [hW4] at M1 R1 b4 bW
        rw [hg] at M1 R1 bW
        have Hg := Lib.hid hg
        clear hW4 R0 HZ hg
        go_upto_region 14 with fail
        go_loopw [15] (fun i wr => ∃ j : Nat, j ≤ n ∧ i = .int .i64 j ∧ BB wr g (sofar G j) n ∧ Below w.heap.size w wr ∧ Below g w3 wr) (fun i _ => n - (intOf i).toNat)
        case atStart => exact ⟨0, Nat.zero_le _, rfl, R1, b4, bW⟩
        case round =>
          clear R1 b4 bW W4 M1
          obtain ⟨j, hj, rfl, hR, hbel, hbel3⟩ := hrel
          by_cases hlt : j < n
          · have i1 : (j : Int) < (n : Int) := by omega
            obtain ⟨q1, q2, q3⟩ := HGR.out j hlt
            have hR2 := hR.put ((G.getD j 0)) true (HSO.out j hlt)
            obtain ⟨bl, ol, rfl, l0⟩ := HAT.out j hlt
            obtain ⟨ba, oa, rfl, -, y0, z0⟩ := HCA.out j hlt
            obtain ⟨bb, ob, rfl, -, y1, z1⟩ := HCB.out _ q1
            have hbel5 := hbel.setCell (p := ⟨g, G.getD j 0, none⟩) hgw (.bool true)
            have hbel6 := hbel3.setCell (p := ⟨g, G.getD j 0, none⟩) (Nat.le_refl _) (.bool true)
            have l5 := keep_cell (by rw [Hg.out]; exact hbel6) l0
            replace l0 := keep_cell (by rw [Hg.out]; exact hbel3) l0
            replace y0 := keep_cell hbel5 y0
            replace z0 := keep_cell hbel5 z0
            replace y1 := keep_cell hbel5 y1
            replace z1 := keep_cell hbel5 z1
            have hfa := (HFA.out j hlt).1
            have hfb := (HFB.out _ q1).1
            obtain ⟨hz, hd1, hd2⟩ := runs1_parts q2
            have cu := hR.cell q1
            rw [q3] at cu
            have fu := hR.frozen (G.getD j 0)
            clear q2 q3
            generalize G.getD j 0 = k at l0 l5 y0 z0 y1 z1 hfb hz hd1 hd2 cu fu q1 hR2 hbel5 hbel6
            have i2 : (k : Int) < (n : Int) := by omega
            have i3 : ¬ (k : Int) < 0 := by omega
            have i4 : ¬ (n : Int) ≤ (k : Int) := by omega
            have i5 : (0 : Int) ≤ (k : Int) := by omega
            rw [hz] at z0
            clear hz
            generalize (mq A j).y = ya at y0 hfa hd1 hd2
            generalize (mq B k).y = yb at y1 hfb hd1 hd2
            generalize (mq B k).z = zb at z0 z1
            have e1 : IntKind.i64.wrap (ya + yb) = ya + yb := wi64 _ (by omega)
            have e2 : IntKind.i64.wrap (ya + yb - 16) = ya + yb - 16 := wi64 _ (by omega)
            have e3 : IntKind.i64.wrap (0 - (ya + yb - 16)) = 0 - (ya + yb - 16) := wi64 _ (by omega)
            have i6 : ¬ s < ya + yb - 16 := by omega
            have i7 : ¬ s < 0 - (ya + yb - 16) := by omega
            have jz : (zb == zb) = true := by simp
            have cb1 : decide (s < ya + yb - 16) = false := decide_eq_false i6
            have cb2 : decide (s < 0 - (ya + yb - 16)) = false := decide_eq_false i7
            have HR2 := Lib.hid hR2
            have HB5 := Lib.hid hbel5
            have HB6 := Lib.hid hbel6
            clear hR hbel hbel3 hR2 hbel5 hbel6 hfa hfb hd1 hd2
            go_upto_region 19 with fail
            obtain ⟨W5, hW5⟩ : ∃ W5, wr.setCell ⟨g, k, none⟩ (.bool true) = W5 := ⟨_, rfl⟩
            rw [hW5] at l5 y0 z0 y1 z1
            have HW := Lib.hid hW5
            rw [hW5]
            clear hW5 cu fu l0
            have G0 := grow_cell l5
            have G1 := grow_cell y0
            have G2 := grow_cell z0
            have G3 := grow_cell y1
            have G4 := grow_cell z1
            clear l5 y0 z0 y1 z1
            go_upto_region 19 with fail
            refine wp_region_grow (by kernel_rfl) (by kernel_rfl) ?_
            repeat (go_big_quiet_step (fail))
            refine wpQuiet_nil ?_
            rintro w6 ⟨x6, hx6⟩
            have hb6 : Below W5.heap.size W5 w6 := by rw [hx6]; exact x6.b
            have F0 := G0 x6
            have F1 := G1 x6
            have F2 := G2 x6
            have F3 := G3 x6
            have F4 := G4 x6
            rw [← hx6] at F0 F1 F2 F3 F4
            clear hx6 x6 G0 G1 G2 G3 G4
            have G0 := grow_cell F0
            have G1 := grow_cell F1
            have G2 := grow_cell F2
            have G3 := grow_cell F3
            have G4 := grow_cell F4
            clear F0 F1 F2 F3 F4
            go_upto_region 20 with fail
            refine wp_region_grow (by kernel_rfl) (by kernel_rfl) ?_
            repeat (go_big_quiet_step (fail))
            refine wpQuiet_nil ?_
            rintro w7 ⟨x7, hx7⟩
            have hb7 : Below w6.heap.size w6 w7 := by rw [hx7]; exact x7.b
            clear hx7 x7 G0 G1 G2 G3 G4
            have hb57 := keep_below hb6 hb7
            have R7 := (HW.out ▸ HR2.out).keep hb57
            have B7 := keep_below (HW.out ▸ HB5.out) hb57
            go_wp2
            refine ⟨⟨j + 1, by omega, by simp, R7, B7, ?_⟩, by (simp [intOf] <;> omega)⟩
            have := HB6.out
            rw [HW.out] at this
            exact this.trans (hb57.mono (by have := this.size; rw [Hg.out] at this; omega))
          · obtain rfl : j = n := by omega
            by_cases h1 : t < s
            · go_wp2
              go_ret
              exact ⟨rfl, hbel⟩
            · by_cases h2 : 16 < t
              · go_wp2
                go_ret
                exact ⟨rfl, hbel⟩
              · have C := HMO.out (by omega) (by omega) wr hbel
                go_wp2_with (go_at_call 24; with_reducible refine C.mono ?_; rintro e w5 ⟨v5, rfl, hb5⟩)
                go_ret
                exact ⟨rfl, keep_below hbel hb5⟩
      · have hL1 : runL A B s = [] := by unfold runL; rw [if_neg hok]
        have hL2 : runL B A s = [] := by unfold runL; rw [okR_symm, opM_symm, if_neg hok]
        have hE : runE A B s = 1 ∨ runE A B s = 31 := by
          unfold runE
          by_cases h1 : okR A B s = true
          · rw [if_pos h1, if_neg (fun h2 => hok ⟨h1, h2⟩)]; exact .inr rfl
          · rw [if_neg h1]; exact .inl rfl
        rw [hL1, hL2]
        obtain ⟨E, hEE⟩ : ∃ E, runE A B s = E := ⟨_, rfl⟩
        rw [hEE] at hE ⊢
        clear t1 t2 hL1 hL2 hEE hok
        rcases hE with rfl | rfl
        · go_wp2
          go_ret
          exact ⟨rfl, b3⟩
        · go_wp2
          go_ret
          exact ⟨rfl, b3⟩

end Go.Proofs.Ytiebbbeijlfedaa
