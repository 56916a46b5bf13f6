/- The law of congruent lists. -/
import Derived.Test.YtlocdadkhdcedaaKD
import Derived.Test.YtlocdadkhdcedaaG2
import Derived.Test.YtlocdadkhdcedaaAwake
import Derived.Deep.RegionHeld3
namespace Go.Proofs.Ytlocdadkhdcedaa
open Go Go.RowKit Go.Proofs

theorem settE_eq (P Q : List (Int × Int)) : settE P Q = if (vOut P && vOut Q) = true then 0 else 1 := by
  unfold settE
  simp

theorem cell_set2 {w : World} {b o g : Nat} {x v0 v1 : Value} (h : w.cell? ⟨b, o, none⟩ = some x) (hb : b < g) : ((w.setCell ⟨g, 0, none⟩ v0).setCell ⟨g, 1, none⟩ v1).cell? ⟨b, o, none⟩ = some x :=
  have h1 : (⟨b, o, none⟩ : Addr) ≠ ⟨g, 0, none⟩ := fun e => by injection e; omega
  have h2 : (⟨b, o, none⟩ : Addr) ≠ ⟨g, 1, none⟩ := fun e => by injection e; omega
  set_cell h2 (set_cell h1 h)

theorem below_set2 {B g : Nat} {a w : World} {v0 v1 : Value} (h : Below B a w) (hg : B ≤ g) : Below B a ((w.setCell ⟨g, 0, none⟩ v0).setCell ⟨g, 1, none⟩ v1) :=
  Below.setCell (Below.setCell h (by exact hg) _) (by exact hg) _

set_option maxRecDepth 100000 in
set_option maxHeartbeats 8000000 in
theorem congruentLaw_any (v1 v2 v3 : Value) (P Q R : List (Int × Int)) (w : World) (h1 : SlV w v1 P) (h2 : SlV w v2 Q) (h3 : SlV w v3 R) :
    Calls Try.prog 15 #[v1, v2, v3] w fun e w' => e = .returned (.bool true) ∧ Below w.heap.size w w' := by
  have S1 := fun w' (hb : Below w.heap.size w w') => settings_sl (h1.keep hb) (h2.keep hb)
  have S2 := fun w' (hb : Below w.heap.size w w') => settings_sl (h2.keep hb) (h3.keep hb)
  have S3 := fun w' (hb : Below w.heap.size w w') => settings_sl (h1.keep hb) (h3.keep hb)
  have S4 := fun w' (hb : Below w.heap.size w w') => settings_sl (h2.keep hb) (h1.keep hb)
  obtain ⟨a1, cap1, rfl, hl1, -⟩ := h1
  obtain ⟨a2, cap2, rfl, hl2, -⟩ := h2
  obtain ⟨a3, cap3, rfl, hl3, -⟩ := h3
  go_enter Try.func15, Try.ntmps15
  go_wp2_with fail
  refine (awake_any _).mono ?_
  rintro e w1 ⟨rfl, b1⟩
  by_cases g1 : (P.length : Int) > 30
  · go_wp2
    go_ret
    exact ⟨rfl, b1⟩
  by_cases g2 : (Q.length : Int) > 30
  · go_wp2
    go_ret
    exact ⟨rfl, b1⟩
  by_cases g3 : (R.length : Int) > 30
  · go_wp2
    go_ret
    exact ⟨rfl, b1⟩
  go_wp2_with fail
  refine (S1 w1 b1).mono ?_
  rintro e w2 ⟨A, rfl, oA, hb⟩
  have b2 := keep_below b1 hb
  clear hb
  go_wp2_with fail
  refine (S2 w2 b2).mono ?_
  rintro e w3 ⟨B, rfl, oB, hb⟩
  have b3 := keep_below b2 hb
  replace oA := own_keep oA hb
  clear hb
  go_wp2_with fail
  refine (S3 w3 b3).mono ?_
  rintro e w4 ⟨C, rfl, oC, hb⟩
  have b4 := keep_below b3 hb
  replace oA := own_keep oA hb
  replace oB := own_keep oB hb
  clear hb
  go_wp2_with fail
  refine (S4 w4 b4).mono ?_
  rintro e w5 ⟨D, rfl, oD, hb⟩
  have b5 := keep_below b4 hb
  replace oA := own_keep oA hb
  replace oB := own_keep oB hb
  replace oC := own_keep oC hb
  clear hb S1 S2 S3 S4 b1 b2 b3 b4
  have F1 := settV_len P Q
  have F2 := settV_most P Q
  have F3 := settV_most Q R
  have F4 := settV_most P R
  have F5 : ∀ s b, (s, b) ∈ settV P Q → s < P.length ∧ (invN P.length s b, b) ∈ settV Q P := fun s b h => (settV_inv h).2
  have F6 : ∀ s b t c, (s, b) ∈ settV P Q → (t, c) ∈ settV Q R → t < P.length ∧ (comN P.length s b t c, b != c) ∈ settV P R := fun s b t c h k => settV_com h k
  have F7 : P.length ≠ Q.length → settV P Q = [] := settV_same
  have F8 : vOut P = true → 3 ≤ P.length ∧ P.length ≤ 24 := fun h => ⟨(vOut_len h).1, (vOut_len h).2.1⟩
  generalize settV P Q = LA at oA F1 F2 F5 F6 F7
  generalize settV Q R = LB at oB F3 F6
  generalize settV P R = LC at oC F4 F6
  generalize settV Q P = LD at oD F1 F5
  rw [settE_eq, settE_eq, settE_eq, settE_eq]
  generalize vOut P = vp at F8 ⊢
  generalize vOut Q = vq
  generalize vOut R = vr
  generalize P.length = n at *
  generalize Q.length = n2 at *
  generalize R.length = n3 at *
  obtain ⟨sA, cA, rfl⟩ := own_shape oA
  obtain ⟨sB, cB, rfl⟩ := own_shape oB
  obtain ⟨sC, cC, rfl⟩ := own_shape oC
  obtain ⟨sD, cD, rfl⟩ := own_shape oD
  have X1 := Lib.hid F1
  have X2 := Lib.hid F2
  have X3 := Lib.hid F3
  have X4 := Lib.hid F4
  have X5 := Lib.hid F5
  have X6 := Lib.hid F6
  have X7 := Lib.hid F7
  have X8 := Lib.hid F8
  have OA := Lib.hid oA
  have OB := Lib.hid oB
  have OC := Lib.hid oC
  have OD := Lib.hid oD
  clear F1 F2 F3 F4 F5 F6 F7 F8 oA oB oC oD
  cases vp <;> cases vq <;> cases vr <;> simp only [Bool.and_true, Bool.and_false, Bool.false_eq_true, if_true, if_false, Bool.and_self]
  case true.true.true =>
    obtain ⟨h3, h24⟩ := X8.out rfl
    clear X8
    have i1 : (LA.length : Int) = (LD.length : Int) := by have := X1.out; omega
    have i2 : ¬ (LA.length : Int) > 2 * (n : Int) := by have := X2.out; omega
    by_cases hpq : n = n2
    case neg =>
      have i3 : ¬ (n2 : Int) = (n : Int) := by omega
      have hA0 : LA = [] := X7.out hpq
      have i4 : ¬ (LA.length : Int) > 0 := by rw [hA0]; simp
      have i5 : ¬ (0 : Int) < (LA.length : Int) := i4
      have i6 : (LA.length : Int) = 0 := by rw [hA0]; rfl
      have i7 : (LD.length : Int) = 0 := by rw [← i1]; exact i6
      clear X7 hA0 X1 i1
      go_wp2_with fail
      go_loopw [17] (fun i wr => i = .int .i64 0 ∧ Below w5.heap.size w5 wr) (fun i _ => 0 - (intOf i).toNat)
      case atStart => exact ⟨rfl, Below.refl _ _⟩
      case round =>
        obtain ⟨rfl, hbel⟩ := hrel
        go_wp2
        go_ret
        exact ⟨rfl, keep_below b5 hbel⟩
    case pos =>
      subst hpq
      clear X7
      have W5 := b5
      go_wp2_with fail
      go_loopw [17] (fun i wr => ∃ k : Nat, k ≤ LA.length ∧ i = .int .i64 k ∧ Below w5.heap.size w5 wr) (fun i _ => LA.length - (intOf i).toNat)
      case atStart => exact ⟨0, Nat.zero_le _, rfl, Below.refl _ _⟩
      case round =>
        obtain ⟨k, hk, rfl, hbel⟩ := hrel
        by_cases hlt : k < LA.length
        · have j1 : (k : Int) < (LA.length : Int) := by omega
          obtain ⟨⟨s, b⟩, hp⟩ : ∃ p, LA[k]? = some p := ⟨_, List.getElem?_eq_getElem hlt⟩
          obtain ⟨hs, hD⟩ := X5.out s b (List.mem_of_getElem? hp)
          have HPk := Lib.hid hp
          have HDm := Lib.hid hD
          obtain ⟨gA, rfl, c0, c1⟩ := own_pos (own_keep OA.out hbel) hp
          have HA5 := Lib.hid (own_pos OA.out hp)
          have hv : vset s n = true := by unfold vset; simp; omega
          have HVs := Lib.hid hv
          have I := fun w => inverse_any s n b w hv
          rw [← invN_int (b := b) hs] at I
          have Hs := Lib.hid hs
          clear hp hD hv hs
          go_wp2_with fail
          refine (I _).mono ?_
          rintro e w6 ⟨rfl, hb⟩
          have b6 := keep_below hbel hb
          clear hb c0 c1 I hbel
          go_wp2_with fail
          have b7 := b6.alloc b6.size (stObj (invN n s b) b)
          refine (among_any _ (own_keep OD.out b7) (by have := X1.out; have := X2.out; omega) (invN n s b) b HDm.out).mono ?_
          rintro e w8 ⟨rfl, hb⟩
          have b8 := keep_below b7 hb
          clear hb b7 b6
          go_wp2_with fail
          go_loopw [20] (fun i wr => ∃ k : Nat, k ≤ LB.length ∧ i = .int .i64 k ∧ Below w5.heap.size w5 wr) (fun i _ => LB.length - (intOf i).toNat)
          case atStart => exact ⟨0, Nat.zero_le _, rfl, b8⟩
          case round =>
            obtain ⟨j, hj, rfl, hbel⟩ := hrel
            clear b8
            by_cases hlj : j < LB.length
            · have j2 : (j : Int) < (LB.length : Int) := by omega
              have j3 : (LB.length : Int) ≤ 60 := by have := X3.out; omega
              obtain ⟨⟨t, c⟩, hq⟩ : ∃ p, LB[j]? = some p := ⟨_, List.getElem?_eq_getElem hlj⟩
              obtain ⟨ht, hC⟩ := X6.out s b t c (List.mem_of_getElem? HPk.out) (List.mem_of_getElem? hq)
              obtain ⟨gB, rfl, d0, d1⟩ := own_pos (own_keep OB.out hbel) hq
              obtain ⟨gA', hgA, c0, c1⟩ := HA5.out
              simp only [Option.some.injEq, Addr.mk.injEq, and_true] at hgA
              subst hgA
              replace c0 := keep_cell2 hbel c0
              replace c1 := keep_cell2 hbel c1
              have ht' : vset t n = true := by unfold vset; simp; omega
              have CO := fun w => compose_any s t n b c w HVs.out ht'
              rw [← comN_int (b := b) (c := c) Hs.out ht] at CO
              generalize (b != c) = d at CO hC
              have HCm := Lib.hid hC
              clear hq hC ht ht'
              go_wp2_with fail
              have nb1 := lt_of_cell c0
              have nb2 := lt_of_cell d0
              have nz := hbel.size
              have e0 : wr.drew.cell? ⟨gA, k * 2, none⟩ = some (.int .i64 s) := c0
              have e1 : wr.drew.cell? ⟨gA, k * 2 + 1, none⟩ = some (.bool b) := c1
              have e2 : wr.drew.cell? ⟨gB, j * 2, none⟩ = some (.int .i64 t) := d0
              have e3 : wr.drew.cell? ⟨gB, j * 2 + 1, none⟩ = some (.bool c) := d1
              have f0 := pt_old wr.drew (stObj 0 false) e0
              have f1 := pt_old wr.drew (stObj 0 false) e1
              have f2 := pt_old wr.drew (stObj 0 false) e2
              have f3 := pt_old wr.drew (stObj 0 false) e3
              have bel1 := hbel.drew
              have bel2 := bel1.alloc nz (stObj 0 false)
              have x0 : (wr.drew.alloc (stObj 0 false)).cell? ⟨wr.heap.size, 0, none⟩ = some (.int .i64 0) := (st_new wr.drew 0 false).1
              have x1 : (wr.drew.alloc (stObj 0 false)).cell? ⟨wr.heap.size, 1, none⟩ = some (.bool false) := (st_new wr.drew 0 false).2
              have z0 : (wr.drew.alloc (stObj 0 false)).frozen? ⟨wr.heap.size, 0, none⟩ = false := by go_simp
              have z1 : (wr.drew.alloc (stObj 0 false)).frozen? ⟨wr.heap.size, 1, none⟩ = false := by go_simp
              have Y0 := Lib.hid e0
              have Y1 := Lib.hid e1
              have Y2 := Lib.hid e2
              have Y3 := Lib.hid e3
              have F0 := Lib.hid f0
              have F1 := Lib.hid f1
              have F2 := Lib.hid f2
              have F3 := Lib.hid f3
              have X0 := Lib.hid x0
              have X1' := Lib.hid x1
              have Z0 := Lib.hid z0
              have Z1 := Lib.hid z1
              clear e0 e1 e2 e3 f0 f1 f2 f3 x0 x1 z0 z1 c0 c1 d0 d1
              go_region_held3 (fun w' => Below w5.heap.size w5 w' ∧ w'.cell? ⟨gA, k * 2, none⟩ = some (.int .i64 s) ∧ w'.cell? ⟨gA, k * 2 + 1, none⟩ = some (.bool b) ∧ w'.cell? ⟨gB, j * 2, none⟩ = some (.int .i64 t) ∧ w'.cell? ⟨gB, j * 2 + 1, none⟩ = some (.bool c))
                (first
                  | exact ⟨bel1, Y0.out, Y1.out, Y2.out, Y3.out⟩
                  | exact ⟨bel2, F0.out, F1.out, F2.out, F3.out⟩
                  | exact ⟨bz, y0, y1, y2, y3⟩
                  | exact ⟨Below.alloc bz sz _, pt_old _ _ y0, pt_old _ _ y1, pt_old _ _ y2, pt_old _ _ y3⟩
                  | exact ⟨below_set2 bz nz, cell_set2 y0 nb1, cell_set2 y1 nb1, cell_set2 y2 nb2, cell_set2 y3 nb2⟩)
                (first
                  | (go_at_call 55; refine (CO _).mono ?_; rintro e w' ⟨rfl, hb⟩; first
                    | (have bz := keep_below bel1 hb; have sz := bz.size; have y0 := keep_cell hb Y0.out; have y1 := keep_cell hb Y1.out; have y2 := keep_cell hb Y2.out; have y3 := keep_cell hb Y3.out; clear hb)
                    | (have bz := keep_below bel2 hb; have sz := bz.size; have y0 := keep_cell hb F0.out; have y1 := keep_cell hb F1.out; have y2 := keep_cell hb F2.out; have y3 := keep_cell hb F3.out; have x0 := keep_cell hb X0.out; have x1 := keep_cell hb X1'.out; have z0 := keep_frozen hb X0.out Z0.out; have z1 := keep_frozen hb X1'.out Z1.out; clear hb)))
              all_goals (rename_i hH; clear hH)
              · have b10 := bz.alloc sz (stObj (comN n s b t c) d)
                clear Y0 Y1 Y2 Y3 F0 F1 F2 F3 X0 X1' Z0 Z1 y0 y1 y2 y3 bel1 bel2 hbel CO nz
                go_wp2_with fail
                refine (among_any _ (own_keep OC.out b10) (by have := X4.out; omega) (comN n s b t c) d HCm.out).mono ?_
                rintro e w11 ⟨rfl, hb⟩
                have b11 := keep_below b10 hb
                clear hb b10
                go_wp2
                exact ⟨⟨j + 1, by omega, by simp, b11⟩, by simp [intOf]; omega⟩
              · have q0 := set_cell (q := ⟨wr.heap.size, 1, none⟩) (v := .bool d) (by simp) (new_cell (v := .int .i64 (comN n s b t c : Nat)) x0)
                have q1 := new_cell (v := .bool d) (set_cell (q := ⟨wr.heap.size, 0, none⟩) (v := .int .i64 (comN n s b t c : Nat)) (by simp) x1)
                have b10 := below_set2 (v0 := .int .i64 (comN n s b t c : Nat)) (v1 := .bool d) bz nz
                clear Y0 Y1 Y2 Y3 F0 F1 F2 F3 X0 X1' Z0 Z1 y0 y1 y2 y3 x0 x1 z0 z1 bel1 bel2 hbel CO nz
                generalize ((w'.setCell ⟨wr.heap.size, 0, none⟩ (.int .i64 (comN n s b t c : Nat))).setCell ⟨wr.heap.size, 1, none⟩ (.bool d)) = W7 at q0 q1 b10 ⊢
                go_wp2_with fail
                refine (among_any _ (own_keep OC.out b10) (by have := X4.out; omega) (comN n s b t c) d HCm.out).mono ?_
                rintro e w11 ⟨rfl, hb⟩
                have b11 := keep_below b10 hb
                clear hb b10
                go_wp2
                exact ⟨⟨j + 1, by omega, by simp, b11⟩, by simp [intOf]; omega⟩
            · obtain rfl : j = LB.length := by omega
              go_wp2
              exact ⟨⟨k + 1, by omega, by simp, hbel⟩, by simp [intOf]; omega⟩
        · obtain rfl : k = LA.length := by omega
          go_wp2
          go_ret
          exact ⟨rfl, keep_below W5 hbel⟩
  all_goals
    go_wp2
    go_ret
    exact ⟨rfl, b5⟩

end Go.Proofs.Ytlocdadkhdcedaa
