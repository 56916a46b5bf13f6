/- Walks: the law BenchesTorn. -/
import Derived.Test.YtcgmmfcphfkdhaaGreatX1
import Derived.StillTailTactics
namespace Go.Proofs.YtcgmmfcphfkdhaaGreat
open Go Go.RowKit Go.Proofs Go.Torn Go.Abs

/-- Where the records end. -/
def jends (Ps : List (List Nat)) (q : Nat) : List Nat := (List.range q).map fun i => (jrn (Ps.take (i + 1))).length
theorem jends_len (Ps : List (List Nat)) (q : Nat) : (jends Ps q).length = q := by simp [jends]
theorem jends_succ (Ps : List (List Nat)) (q : Nat) : jends Ps (q + 1) = jends Ps q ++ [(jrn (Ps.take (q + 1))).length] := by simp [jends, List.range_succ]

theorem own_shape {base e size n : Nat} {W : World} {v : Value} {xs : List Value} (h : W.ownsRow base e size v n xs) : ∃ a c, v = .slice a n c := by
  rcases h.2 with ⟨e, h0⟩ | ⟨g, cap, cur, e, -⟩
  · exact ⟨none, 0, by rw [e, h0]⟩
  · exact ⟨_, _, e⟩

theorem jrn_take_bound {Ps : List (List Nat)} {q : Nat} (hq : q ≤ Ps.length) (h : ∀ k, k < q → (Ps.getD k []).length ≤ 300) : (jrn (Ps.take q)).length ≤ 306 * q := by
  have := jrn_bound (Ps.take q) (fun b hb => by
    obtain ⟨k, hk, e⟩ := List.getElem_of_mem hb
    rw [List.length_take] at hk
    have h1 := h k (by omega)
    have h2 : Ps.getD k [] = b := by
      rw [← e, List.getElem_take]
      simp [List.getD, show k < Ps.length by omega]
    rw [h2] at h1
    exact h1)
  rw [List.length_take, Nat.min_eq_left hq] at this
  exact this

/-- All records ahead of i end at pp at most. -/
def LoB (Rs : List (List Nat)) (pp i : Nat) : Prop := ∀ j, j < i → (jrn (Rs.take (j + 1))).length ≤ pp

set_option maxRecDepth 100000 in
set_option maxHeartbeats 8000000 in
theorem torn_law (v : Value) (Ps : List (List Nat)) (bit : Int) (hb0 : -9223372036854775808 ≤ bit) (hb1 : bit ≤ 9223372036854775807) (w : World) (h : RowsR w v Ps) (hy : ∀ r ∈ Ps, By r) (hcp : ∀ x n c, v = .slice x n c → n ≤ c)
    (AW : Hid (∀ W, Calls Tryz.prog 10 #[] W fun e w' => e = .returned (.bool true) ∧ Below W.heap.size W w')) :
    Calls Tryz.prog 6 #[v, .int .i64 bit] w fun e w' => e = .returned (.bool true) ∧ Below w.heap.size w w' := by
  have HR := Lib.hid h
  obtain ⟨a, cap, rfl, hd⟩ := h
  have HCP := Lib.hid (hcp _ _ _ rfl)
  clear hcp
  obtain ⟨M, hM⟩ : ∃ M, Ps.length = M := ⟨_, rfl⟩
  have HM := Lib.hid hM
  have HY := Lib.hid hy
  rw [hM] at hd HCP ⊢
  have HD := Lib.hid hd
  clear hd hM hy
  by_cases l1 : (M : Int) > 50
  · have j1 : decide ((M : Int) > 50) = true := by simp; omega
    go_enter Tryz.func6, Tryz.ntmps6
    go_wp2_with fail
    refine (AW.out _).mono ?_
    rintro e w1 ⟨rfl, hb⟩
    go_wp2
    go_ret
    exact ⟨rfl, hb⟩
  · have j1 : decide ((M : Int) > 50) = false := by simp; omega
    by_cases l2 : bit < 0
    · have j2 : decide (bit < 0) = true := by simp; omega
      go_enter Tryz.func6, Tryz.ntmps6
      go_wp2_with fail
      refine (AW.out _).mono ?_
      rintro e w1 ⟨rfl, hb⟩
      go_wp2
      go_ret
      exact ⟨rfl, hb⟩
    · have j2 : decide (bit < 0) = false := by simp; omega
      go_enter Tryz.func6, Tryz.ntmps6
      go_wp2_with fail
      go_loopw [5, 6, 7] (fun d e i wr => ∃ q : Nat, q ≤ M ∧ i = .int .i64 q ∧ Jr w.heap.size wr d e (jrn (Ps.take q)) (jends Ps q) ∧ Below w.heap.size w wr ∧ (∀ k, k < q → (Ps.getD k []).length ≤ 300)) (fun _ _ i _ => M - (intOf i).toNat)
      case atStart =>
        exact ⟨0, by omega, rfl, ⟨World.ownsRow_nil _ _ _ _, World.ownsRow_nil _ _ _ _, .inl rfl⟩, Below.refl _ _, fun k hk => by omega⟩
      case round =>
        obtain ⟨q, hq, rfl, hj, hbel, hlt⟩ := hrel
        by_cases hqn : q < M
        · obtain ⟨b, off, rfl, hc⟩ := HD.out (by omega)
          obtain ⟨u, k0, su⟩ := hc q hqn
          have k0 := keep_cell hbel k0
          have su := su.keep hbel
          have hyL : By (Ps.getD q []) := by
            have : Ps.getD q [] = Ps[q]'(by rw [HM.out]; exact hqn) := by simp [List.getD, show q < Ps.length by rw [HM.out]; exact hqn]
            rw [this]
            exact HY.out _ (List.getElem_mem _)
          have hT := Lib.hid (jrn_take Ps q (by rw [HM.out]; exact hqn))
          have hB := Lib.hid (jrn_take_bound (Ps := Ps) (q := q) (by rw [HM.out]; exact hq) hlt)
          have hLT := Lib.hid hlt
          obtain ⟨L, hL⟩ : ∃ L, Ps.getD q [] = L := ⟨_, rfl⟩
          have hLL := Lib.hid hL
          rw [hL] at su hyL hT
          clear hL hc hlt
          obtain ⟨ua, uc, hu, -⟩ := _root_.id su
          obtain ⟨n, hn⟩ : ∃ n, L.length = n := ⟨_, rfl⟩
          have hNn := Lib.hid hn
          rw [hn] at hu
          have p0 : (q : Int) < (M : Int) := by omega
          have jq : decide ((q : Int) < (M : Int)) = true := by simp; omega
          by_cases g1 : (n : Int) > 300
          · have j3 : decide ((n : Int) > 300) = true := by simp; omega
            subst hu
            clear hn su hj hyL
            have hbel := Lib.hid hbel
            go_wp2_with fail
            refine (AW.out _).mono ?_
            rintro e w1 ⟨rfl, hb⟩
            have hb2 := Lib.hid (hbel.out.trans (hb.mono hbel.out.size))
            clear hb
            go_wp2
            go_ret
            exact ⟨rfl, hb2.out⟩
          · have j3 : decide ((n : Int) > 300) = false := by simp; omega
            have HF := Lib.hid (frame25_any u L (by omega) hyL wr su)
            subst hu
            clear hn su hyL
            have hbel := Lib.hid hbel
            have hj := Lib.hid hj
            go_wp2_with fail
            refine (HF.out).mono ?_
            rintro e w1 ⟨v1, rfl, ho, hb⟩
            have hb2 := hbel.out.trans (hb.mono hbel.out.size)
            have hsz := hb2.size
            obtain ⟨d', w2, runD, hj2, hg2, hv2⟩ := Jr.pushD 46 (hj.out.keep hb) hsz ho (by rw [frm_len]; omega) (by have h1 := hB.out; have h2 := frm_len L; have h3 := hNn.out; omega)
            rw [← hT.out] at hj2
            have hb3 := hb2.grown hg2 hsz hv2
            obtain ⟨va, vc, rfl⟩ := own_shape ho
            obtain ⟨da, dc, rfl⟩ := own_shape hj2.data
            obtain ⟨p, hp⟩ : ∃ p, (jrn (Ps.take (q + 1))).length = p := ⟨_, rfl⟩
            have hal : Below w2.heap.size w2 (w2.alloc (Obj.cells #[.int .i64 (p : Nat)] 3)) := (Below.refl _ _).alloc (Nat.le_refl _) _
            have hb4 := hb3.trans (hal.mono hb3.size)
            obtain ⟨e', w3, runE, hj3, hg3, hv3⟩ := Jr.pushE (g := w2.heap.size) (n := p) 32 (hj2.keep hal) hb4.size (by simp) (by rw [jends_len]; omega)
            have hb5 := hb4.grown hg3 hb4.size hv3
            have hj4 := hj3
            rw [← hp, ← jends_succ] at hj4
            have hfin := Lib.hid (And.intro hj4 hb5)
            rw [hp] at runD
            clear hj4 hb5 hj3 hg3 hv3 hb4 hal hb3 hj2 hg2 hv2 hsz hb2 ho hb hj hbel HF
            have hp := Lib.hid hp
            have jw : wrap64 ((q : Int) + 1) = (q : Int) + 1 := w64 _ (by omega)
            go_wp2_with (at_builtin; first | refine Lib.wpList_append_run _ rfl _ _ _ _ rfl _ _ rfl rfl _ _ runD ?_ | refine Lib.wpList_append_run _ rfl _ _ _ _ rfl _ _ rfl rfl _ _ runE ?_)
            refine ⟨⟨q + 1, hqn, by simp, by rw [← hp.out]; exact hfin.out.1, hfin.out.2, fun k hk => ?_⟩, by simp [intOf]; omega⟩
            by_cases hkq : k < q
            · exact hLT.out k hkq
            · have : k = q := by omega
              rw [this, hLL.out, hNn.out]
              omega
        · have hqM : q = M := by omega
          subst hqM
          have jq : decide ((q : Int) < (q : Int)) = false := by simp
          have hT : Ps.take q = Ps := by rw [← HM.out, List.take_length]
          rw [hT] at hj
          have hA : ∀ b ∈ Ps, b.length ≤ 300 := fun b hb => by
            obtain ⟨k, hk, e⟩ := List.getElem_of_mem hb
            have h1 := hlt k (by rw [← HM.out]; exact hk)
            have h2 : Ps.getD k [] = b := by simp [List.getD, hk, e]
            rw [h2] at h1
            exact h1
          have HA := Lib.hid hA
          have hJl : (jrn Ps).length ≤ 15300 := by
            have := jrn_bound Ps hA
            rw [HM.out] at this
            omega
          have hJy := Lib.hid (jrn_by (Ps := Ps) (fun b hb => Nat.le_trans (hA b hb) (by decide)) (fun b hb => HY.out b hb))
          have hS := Lib.hid (scan_own hj.data (by omega) hJy.out)
          have hSW := Lib.hid (scan_whole (mx := 8192) (Ps := Ps) (fun b hb => Nat.le_trans (hA b hb) (by decide)))
          have hRR := HR.out.keep hbel
          rw [HM.out] at hRR
          replace hRR := Lib.hid hRR
          obtain ⟨da, dc, rfl⟩ := own_shape hj.data
          replace hj := Lib.hid hj
          replace hbel := Lib.hid hbel
          clear hA hlt hT
          obtain ⟨p, hp⟩ : ∃ p, (jrn Ps).length = p := ⟨_, rfl⟩
          have hP := Lib.hid hp
          rw [hp] at hJl hS ⊢
          clear hp
          go_wp2_with fail
          refine hS.out.mono ?_
          rintro e w1 ⟨v1, Rs, R, rfl, hr1, hb1, hRl, hsc⟩
          obtain ⟨rfl, rfl⟩ := scan_uniq hsc hSW.out
          have hS2 := Lib.hid (same_any v1 (.slice a q cap) Rs (by rw [HM.out]; omega) w1 hr1.read (hRR.out.keep hb1))
          obtain ⟨va, vc, rfl⟩ : ∃ va vc, v1 = .slice va q vc := by
            obtain ⟨x1, x2, e, -⟩ := hr1.read
            exact ⟨x1, x2, by rw [e, HM.out]⟩
          have hbel1 := Lib.hid (hbel.out.trans (hb1.mono hbel.out.size))
          have hj1 := Lib.hid (hj.out.keep hb1)
          clear hr1 hb1 hRl hsc hS
          have e0 : ((p - ([] : List Nat).length : Nat) : Int) = (p : Int) := by simp
          rw [e0]
          clear e0
          go_wp2_with fail
          refine hS2.out.mono ?_
          rintro e w2 ⟨rfl, hb2⟩
          have hbel2 := Lib.hid (hbel1.out.trans (hb2.mono hbel1.out.size))
          have hj2 := Lib.hid (hj1.out.keep hb2)
          clear hb2 hj1 hS2 hj hRR
          have j8 : wrap64 (8 * (p : Int)) = 8 * (p : Int) := w64 _ (by omega)
          by_cases l3 : bit ≥ 8 * (p : Int)
          · have j9 : decide (bit ≥ 8 * (p : Int)) = true := by simp; omega
            go_wp2_with fail
            refine (AW.out _).mono ?_
            rintro e w3 ⟨rfl, hb3⟩
            have hb4 := Lib.hid (hbel2.out.trans (hb3.mono hbel2.out.size))
            clear hb3
            go_wp2
            go_ret
            exact ⟨rfl, hb4.out⟩
          · have j9 : decide (bit ≥ 8 * (p : Int)) = false := by simp; omega
            go_wp2_with fail
            obtain ⟨bn, rfl⟩ : ∃ bn : Nat, bit = (bn : Int) := ⟨bit.toNat, by omega⟩
            obtain ⟨pp, hpp⟩ : ∃ x, bn / 8 = x := ⟨_, rfl⟩
            obtain ⟨jj, hjj⟩ : ∃ x, bn % 8 = x := ⟨_, rfl⟩
            have hpl : pp < p := by omega
            have hj8 : jj < 8 := by omega
            obtain ⟨g, rfl⟩ : ∃ g, da = some ⟨g, 0, none⟩ := by
              rcases hj2.out.data.2 with ⟨e, h0⟩ | ⟨g, _, _, e, -⟩
              · rw [hP.out] at h0; omega
              · simp only [Value.slice.injEq] at e; exact ⟨g, e.1⟩
            have hown := hj2.out.data
            rw [hP.out] at hown
            have k0 := hown.cellAt pp (by omega)
            rw [show (bc (jrn Rs))[pp]? = some (.int .u8 (((jrn Rs).getD pp 0 : Nat) : Int)) by simp [bc, List.getD, show pp < (jrn Rs).length by rw [hP.out]; exact hpl]] at k0
            have hx : (jrn Rs).getD pp 0 < 256 := hJy.out _ (getD_mem (by rw [hP.out]; exact hpl))
            obtain ⟨x, hxx⟩ : ∃ x, (jrn Rs).getD pp 0 = x := ⟨_, rfl⟩
            rw [hxx] at k0 hx
            have t1 : (bn : Int) / 8 = (pp : Int) := by omega
            have t2 : (bn : Int).tmod 8 = (jj : Int) := by rw [Int.tmod_eq_emod_of_nonneg (by omega)]; omega
            have t3 := wi64 (pp : Int) (by omega)
            have t5 := wi64 (jj : Int) (by omega)
            have t7 : (pp : Int) < (p : Int) := Int.ofNat_lt.2 hpl
            have hqb := Lib.hid (show q ≤ 50 by omega)
            have hJH := Lib.hid hJl
            have hxH := Lib.hid hx
            have hxv := Lib.hid (xor_val hx hj8)
            have hownH := Lib.hid hown
            have hplH := Lib.hid hpl
            have hppx := Lib.hid hpp
            have hxxH := Lib.hid hxx
            have hj8H := Lib.hid hj8
            clear hpp hjj hx j1 j2 j8 j9 hJl hpl l1 l2 l3 hq hqn
            go_still_tail 13, (by kernel_rfl)
            rw [hxv.out]
            change wpList _ _ _ _ _ w2.drew
            obtain ⟨w3, hw3⟩ : ∃ w3, w2.drew = w3 := ⟨_, rfl⟩
            rw [hw3]
            have k3 : w3.cell? ⟨g, pp, none⟩ = some (.int .u8 (x : Nat)) := by rw [← hw3]; exact k0
            have f3 : w3.frozen? ⟨g, pp, none⟩ = false := by rw [← hw3]; exact hownH.out.frozenAt pp
            have hb3 : Below w.heap.size w w3 := by rw [← hw3]; exact hbel2.out.trans ⟨rfl, rfl, rfl, Nat.le_refl _, fun _ _ => rfl⟩
            have o3 : w3.ownsRow w.heap.size 5 1 (.slice (some ⟨g, 0, none⟩) (jrn Rs).length dc) (jrn Rs).length (bc (jrn Rs)) := by rw [← hw3, hP.out]; exact hownH.out
            have e3 : w3.ownsRow w.heap.size 3 1 u6 (jends Rs q).length ((jends Rs q).map fun n => Value.int .i64 (n : Nat)) := by rw [← hw3]; exact hj2.out.ends
            have o4 := Lib.hid (own_set (y := x ^^^ 2 ^ jj) o3 (by rw [hP.out]; exact hplH.out))
            have e4 := Lib.hid (own_setfar (g := g) (o := pp) (u := .int .u8 ((x ^^^ 2 ^ jj : Nat) : Int)) e3 hj2.out.far)
            have hb4 := Lib.hid (Below.setCell (p := ⟨g, pp, none⟩) hb3 (o3.lt g rfl).1 (.int .u8 ((x ^^^ 2 ^ jj : Nat) : Int)))
            clear t2 t3 t5 t7 hb3 o3 e3
            clear hw3 hj2 hown hownH hxx hj8 k0 hbel2 hbel1 hbel
            go_wp2_with fail
            generalize w3.setCell ⟨g, pp, none⟩ (.int .u8 ((x ^^^ 2 ^ jj : Nat) : Int)) = w4 at o4 e4 hb4 ⊢
            clear k3 f3
            have e5 := e4.out
            rw [jends_len] at e5
            obtain ⟨ea, ec, rfl⟩ := own_shape e5
            obtain ⟨gE, rfl⟩ : ∃ g, ea = some ⟨g, 0, none⟩ := by
              rcases e5.2 with ⟨e, h0⟩ | ⟨g, _, _, e, -⟩
              · have := hP.out
                have h1 : Rs = [] := List.eq_nil_of_length_eq_zero (by rw [HM.out]; exact h0)
                rw [h1] at this
                have : p = 0 := this.symm
                have := hplH.out
                omega
              · simp only [Value.slice.injEq] at e; exact ⟨g, e.1⟩
            have EC := Lib.hid (show ∀ i, i < q → w4.cell? ⟨gE, i, none⟩ = some (.int .i64 (((jrn (Rs.take (i + 1))).length : Nat) : Int)) from fun i hi => by
              rw [e5.cellAt i (by omega)]
              simp [jends, hi])
            clear e5 e4
            go_loopw [12] (fun k wr => ∃ i : Nat, i < q ∧ k = .int .i64 i ∧ wr = w4 ∧ LoB Rs pp i) (fun k _ => q - (intOf k).toNat)
            case atStart =>
              have hq0 : 0 < q := by
                rcases Nat.eq_zero_or_pos q with h0 | h0
                · have h1 : Rs = [] := List.eq_nil_of_length_eq_zero (by rw [HM.out]; exact h0)
                  have h2 := hP.out
                  rw [h1] at h2
                  have : p = 0 := h2.symm
                  have := hplH.out
                  omega
                · exact h0
              exact ⟨0, hq0, rfl, rfl, fun j hj => by omega⟩
            case round =>
              obtain ⟨i, hi, rfl, rfl, hlo⟩ := hrel
              have k0 := EC.out i hi
              obtain ⟨ei, hei⟩ : ∃ e, (jrn (Rs.take (i + 1))).length = e := ⟨_, rfl⟩
              rw [hei] at k0
              replace hei := Lib.hid hei
              replace hlo := Lib.hid hlo
              have t4 := w64 (pp : Int) (by have := hJH.out; have := hplH.out; omega)
              have p0 : (i : Int) < (q : Int) := by omega
              by_cases g2 : ei ≤ pp
              · have j1 : decide ((ei : Int) ≤ (pp : Int)) = true := by simp; omega
                have hi1 : i + 1 < q := by
                  rcases Nat.lt_or_ge (i + 1) q with h | h
                  · exact h
                  · have h1 : Rs.take (i + 1) = Rs := List.take_of_length_le (by rw [HM.out]; exact h)
                    have h2 := hei.out
                    rw [h1, hP.out] at h2
                    have := hplH.out
                    omega
                have t6 := w64 ((i : Int) + 1) (by have := hqb.out; omega)
                have hnx : LoB Rs pp (i + 1) := fun j hj => by
                  by_cases h : j < i
                  · exact hlo.out j h
                  · have : j = i := by omega
                    rw [this, hei.out]
                    exact g2
                replace hnx := Lib.hid hnx
                replace hi1 := Lib.hid hi1
                clear hlo hei EC
                clear HR HY HM HD HA hJy hSW hP hplH hppx hxxH hj8H o4 hb4 hb0 hb1 jq
                go_wp2_with fail
                have m1 : Value.int .i64 (wrap64 ((i : Int) + 1)) = Value.int .i64 ((i + 1 : Nat) : Int) := by rw [t6]; rfl
                have m2 : q - ((i + 1 : Nat) : Int).toNat < q - ((i : Nat) : Int).toNat := by rw [Int.toNat_natCast, Int.toNat_natCast]; exact Nat.sub_lt_sub_left hi (Nat.lt_succ_self i)
                refine ⟨⟨i + 1, hi1.out, m1, trivial, hnx.out⟩, ?_⟩
                rw [m1]
                exact m2
              · have j1 : decide ((ei : Int) ≤ (pp : Int)) = false := by simp; omega
                have ht := scan_torn (Ps := Rs) (k := i) (p := pp) (j := jj) HA.out (fun b hb => HY.out b hb) hj8H.out (by rw [HM.out]; exact hi) (by
                  by_cases h : i = 0
                  · rw [h]; exact Nat.zero_le _
                  · have := hlo.out (i - 1) (by omega)
                    rw [show i - 1 + 1 = i by omega] at this
                    exact this) (by rw [hei.out]; omega)
                rw [hxxH.out] at ht
                have hby : By ((jrn Rs).set pp (x ^^^ 2 ^ jj)) := by
                  intro y hy
                  rcases List.mem_or_eq_of_mem_set hy with h | h
                  · exact hJy.out y h
                  · rw [h]; exact (flip_nat hxH.out hj8H.out).2
                have hlen : ((jrn Rs).set pp (x ^^^ 2 ^ jj)).length = p := by rw [List.length_set, hP.out]
                have hS3 := scan_own o4.out (by rw [hlen]; have := hJH.out; omega) hby
                rw [hlen] at hS3
                replace hS3 := Lib.hid hS3
                replace ht := Lib.hid ht
                clear hby hlen
                go_wp2_with fail
                refine hS3.out.mono ?_
                rintro e w5 ⟨v5, Rs5, R5, rfl, hr5, hb5, hRl5, hsc5⟩
                obtain ⟨r6, hr6⟩ := ht.out
                obtain ⟨rfl, rfl⟩ := scan_uniq hsc5 hr6
                have hbel5 := Lib.hid (hb4.out.trans (hb5.mono hb4.out.size))
                have hcpi := Nat.le_trans (Nat.le_of_lt hi) HCP.out
                have hRT : RowsR w (.slice a i cap) (Rs.take i) := by
                  obtain ⟨a', cap', e, hh⟩ := HR.out
                  simp only [Value.slice.injEq] at e
                  obtain ⟨rfl, -, rfl⟩ := e
                  have hl : (Rs.take i).length = i := by rw [List.length_take, HM.out]; omega
                  refine ⟨a, cap, by rw [hl], fun hp => ?_⟩
                  obtain ⟨b, off, rfl, hc⟩ := hh (by rw [HM.out]; omega)
                  refine ⟨b, off, rfl, fun k hk => ?_⟩
                  rw [hl] at hk
                  obtain ⟨u, g1, g2⟩ := hc k (by rw [HM.out]; omega)
                  refine ⟨u, g1, ?_⟩
                  have : (Rs.take i).getD k [] = Rs.getD k [] := by rw [List.getD_eq_getElem?_getD, List.getElem?_take_of_lt hk, ← List.getD_eq_getElem?_getD]
                  rw [this]
                  exact g2
                have hS6 := Lib.hid (same_any v5 (.slice a i cap) (Rs.take i) (by rw [List.length_take]; have := hqb.out; omega) w5 hr5.read (hRT.keep hbel5.out))
                obtain ⟨va5, vc5, rfl⟩ : ∃ va vc, v5 = .slice va i vc := by
                  obtain ⟨x1, x2, e, -⟩ := hr5.read
                  exact ⟨x1, x2, by rw [e, List.length_take, HM.out, Nat.min_eq_left (Nat.le_of_lt hi)]⟩
                have hcpj : (i : Int) ≤ (cap : Int) := Int.ofNat_le.2 hcpi
                clear hr5 hb5 hRl5 hsc5 hr6 hRT
                clear hS3 ht hb4 o4 hlo hei EC HR HY HM HD HA hJy hSW hP hplH hppx hxxH hj8H hb0 hb1 jq t4 p0 j1 g2 k0 t1
                have AW5 := Lib.hid (fun W => AW.out W)
                go_wp2_with fail
                refine hS6.out.mono ?_
                rintro e w6 ⟨rfl, hb6⟩
                have hbel6 := Lib.hid (hbel5.out.trans (hb6.mono hbel5.out.size))
                clear hb6 hS6 hbel5
                go_wp2_with fail
                refine (AW5.out _).mono ?_
                rintro e w7 ⟨rfl, hb7⟩
                have hbel7 := Lib.hid (hbel6.out.trans (hb7.mono hbel6.out.size))
                clear hb7 hbel6 AW AW5
                go_wp2_with fail
                go_ret
                exact ⟨rfl, hbel7.out⟩

end Go.Proofs.YtcgmmfcphfkdhaaGreat
