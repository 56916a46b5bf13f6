/- Walks: the program's disk: Read and Crash. -/
import Derived.Test.YtcgmmfcphfkdhaaGreatD2
import Derived.Test.YtcgmmfcphfkdhaaGreatX1
import Derived.StillTailTactics
namespace Go.Proofs.YtcgmmfcphfkdhaaGreat
open Go Go.RowKit Go.Proofs Go.Torn Go.Abs

set_option maxRecDepth 100000 in
set_option maxHeartbeats 1000000 in
theorem read39 {base A d : Nat} {v : Value} {D : List Nat} (w : World) (h : PD base w A v D d) :
    Calls Tryz.prog 39 #[.pointer (some ⟨A, 0, none⟩)] w fun e w' => ∃ v', e = .returned v' ∧ w'.ownsRow w.heap.size 5 1 v' D.length (bc D) ∧ Below w.heap.size w w' := by
  have HC := Lib.hid (clone_own w h.own (Nat.le_trans h.ml (by decide)))
  obtain ⟨a, c, rfl, -, -⟩ := own_slice h.own
  have c0 := h.bx.c0
  clear h
  go_enter Tryz.func39, Tryz.ntmps39
  go_wp2_with fail
  refine HC.out.mono ?_
  rintro e w1 ⟨v1, rfl, ho, hb⟩
  replace ho := Lib.hid ho
  replace hb := Lib.hid hb
  go_wp2
  go_ret
  exact ⟨_, rfl, ho.out, hb.out⟩

theorem own_take {base : Nat} {W : World} {a : Option Addr} {c k : Nat} {D : List Nat} (h : W.ownsRow base 5 1 (.slice a D.length c) D.length (bc D)) (hk : k ≤ D.length) : W.ownsRow base 5 1 (.slice a k c) k (bc (D.take k)) := by
  refine ⟨by rw [bc_len, List.length_take]; omega, ?_⟩
  rcases h.2 with ⟨e, h0⟩ | ⟨g, cap, cur, e, hb, hg, h1, h2, h3, h4⟩
  · simp only [Value.slice.injEq] at e
    obtain ⟨rfl, -, rfl⟩ := e
    exact .inl ⟨by rw [show k = 0 by omega], by omega⟩
  · simp only [Value.slice.injEq] at e
    obtain ⟨rfl, -, rfl⟩ := e
    refine .inr ⟨g, c, cur, rfl, hb, hg, by omega, h2, h3, ?_⟩
    have := congrArg (List.take k) h4
    rw [List.take_take, Nat.min_eq_left (by omega)] at this
    rw [show k * 1 = k by omega, this]
    unfold bc
    rw [List.map_take]

theorem PD.cut {base A d k : Nat} {W : World} {a : Option Addr} {c : Nat} {D : List Nat} (h : PD base W A (.slice a D.length c) D d) (hd : d ≤ k) (hk : k ≤ D.length) :
    PD base (W.setCell ⟨A, 0, none⟩ (.slice a k c)) A (.slice a k c) (D.take k) d := by
  have g := Chg.set (W := W) (fun k => k = A) A 0 (.slice a k c) rfl
  have fv : ∀ j, (Value.slice a k c).ownBlock = some j → j ≠ A := fun j e => h.far j (by cases a <;> exact e)
  have hl : (D.take k).length = k := by rw [List.length_take]; omega
  have ho := own_take h.own hk
  exact ⟨h.lo, h.bx.set0 _, by rw [hl]; exact g.own ho fv, fv, by omega, by have := h.ml; omega, By_take h.by' k⟩

theorem PD.low {base A d : Nat} {W W' : World} {v : Value} {D : List Nat} (h : PD base W A v D d) (hb : Below W.heap.size W W') : PD base W' A v D d :=
  h.keep (Chg.of_below (fun _ => False) hb) (fun e => e) (fun _ _ e => e)

set_option maxRecDepth 100000 in
set_option maxHeartbeats 1000000 in
theorem crash_keep {base A d : Nat} {v : Value} {D : List Nat} (keep f : Int) (w : World) (h : PD base w A v D d) (hk : ¬ (0 ≤ keep ∧ keep ≤ ((D.length - d : Nat) : Int))) :
    Calls Tryz.prog 35 #[.pointer (some ⟨A, 0, none⟩), .int .i64 keep, .int .i64 f] w fun e w' => e = .returned (.int .i64 1) ∧ Below w.heap.size w w' := by
  have HP := Lib.hid (pending37 w h)
  have HW := Lib.hid (fun w' => within_no keep 0 _ hk w')
  clear h hk
  obtain ⟨p, hp⟩ : ∃ p, D.length - d = p := ⟨_, rfl⟩
  rw [hp] at HP HW
  clear hp
  go_enter Tryz.func35, Tryz.ntmps35
  go_wp2_with fail
  refine HP.out.mono ?_
  rintro e w1 ⟨rfl, hb⟩
  replace hb := Lib.hid hb
  go_wp2_with fail
  refine (HW.out _).mono ?_
  rintro e w2 ⟨rfl, rfl⟩
  go_wp2_with fail
  go_ret
  exact ⟨rfl, hb.out⟩

set_option maxRecDepth 100000 in
set_option maxHeartbeats 1000000 in
theorem crash_bit {base A d : Nat} {v : Value} {D : List Nat} (keep : Nat) (f : Int) (w : World) (h : PD base w A v D d) (hk : d + keep ≤ D.length) (hf : ¬ (-1 ≤ f ∧ f ≤ 8 * (keep : Int) - 1)) :
    Calls Tryz.prog 35 #[.pointer (some ⟨A, 0, none⟩), .int .i64 (keep : Int), .int .i64 f] w fun e w' => e = .returned (.int .i64 1) ∧ Below w.heap.size w w' := by
  have HP := Lib.hid (pending37 w h)
  have HW := Lib.hid (fun w' => within_yes (keep : Int) 0 ((D.length - d : Nat) : Int) (by omega) (by omega) w')
  have HF := Lib.hid (fun w' => within_no f (-1) (8 * (keep : Int) - 1) hf w')
  have hml := h.ml
  have k1 : wrap64 (8 * (keep : Int)) = 8 * (keep : Int) := w64 _ (by omega)
  have k2 : wrap64 (8 * (keep : Int) - 1) = 8 * (keep : Int) - 1 := w64 _ (by omega)
  clear h hf hk hml
  obtain ⟨p, hp⟩ : ∃ p, D.length - d = p := ⟨_, rfl⟩
  rw [hp] at HP HW
  clear hp
  go_enter Tryz.func35, Tryz.ntmps35
  go_wp2_with fail
  refine HP.out.mono ?_
  rintro e w1 ⟨rfl, hb⟩
  replace hb := Lib.hid hb
  go_wp2_with fail
  refine (HW.out _).mono ?_
  rintro e w2 ⟨rfl, rfl⟩
  go_wp2_with fail
  refine (HF.out _).mono ?_
  rintro e w3 ⟨rfl, rfl⟩
  go_wp2_with fail
  go_ret
  exact ⟨rfl, hb.out⟩

set_option maxRecDepth 100000 in
set_option maxHeartbeats 1000000 in
theorem crash_plain {base A d : Nat} {v : Value} {D : List Nat} (keep : Nat) (w : World) (h : PD base w A v D d) (hk : d + keep ≤ D.length) :
    Calls Tryz.prog 35 #[.pointer (some ⟨A, 0, none⟩), .int .i64 (keep : Int), .int .i64 (-1)] w fun e w' => e = .returned (.int .i64 0) ∧ ∃ v', PD base w' A v' (D.take (d + keep)) (d + keep) ∧ Chg w w' (fun k => k = A ∨ v.ownBlock = some k) ∧ v'.ownBlock = v.ownBlock := by
  have HP := Lib.hid (pending37 w h)
  have HW := Lib.hid (fun w' => within_yes (keep : Int) 0 ((D.length - d : Nat) : Int) (by omega) (by omega) w')
  have HF := Lib.hid (fun w' => within_yes (-1) (-1) (8 * (keep : Int) - 1) (by omega) (by omega) w')
  have hml := h.ml
  have k1 : wrap64 (8 * (keep : Int)) = 8 * (keep : Int) := w64 _ (by omega)
  have k2 : wrap64 (8 * (keep : Int) - 1) = 8 * (keep : Int) - 1 := w64 _ (by omega)
  have HPD := Lib.hid (fun w' (hb : Below w.heap.size w w') => h.low hb)
  obtain ⟨a, c, rfl, hc1, -⟩ := own_slice h.own
  obtain ⟨p, hp⟩ : ∃ p, D.length - d = p := ⟨_, rfl⟩
  rw [hp] at HP HW
  clear hp h
  obtain ⟨n, hn⟩ : ∃ n, D.length = n := ⟨_, rfl⟩
  have HN := Lib.hid hn
  rw [hn] at hk hml hc1 ⊢
  clear hn
  go_enter Tryz.func35, Tryz.ntmps35
  go_wp2_with fail
  refine HP.out.mono ?_
  rintro e w1 ⟨rfl, hb⟩
  have HPD1 := Lib.hid (HPD.out w1 hb)
  have HC1 := Lib.hid (Chg.of_below (fun k => k = A ∨ (Value.slice a n c).ownBlock = some k) hb)
  clear hb HPD HP
  go_wp2_with fail
  refine (HW.out _).mono ?_
  rintro e w2 ⟨rfl, rfl⟩
  go_wp2_with fail
  refine (HF.out _).mono ?_
  rintro e w3 ⟨rfl, rfl⟩
  clear HW HF k1 k2
  have c0 := HPD1.out.bx.c0
  rw [HN.out] at c0
  have c1 := HPD1.out.bx.c1
  have f0 := HPD1.out.bx.fz 0
  have q1 : IntKind.i64.wrap ((d : Int) + (keep : Int)) = (d : Int) + (keep : Int) := wi64 _ (by omega)
  have q2 : (0 : Int) ≤ (d : Int) + (keep : Int) := by omega
  have q3 : ((d : Int) + (keep : Int)).toNat = d + keep := by omega
  have q4 : (d : Int) + (keep : Int) ≤ (c : Int) := by omega
  replace hk := Lib.hid hk
  replace hml := Lib.hid hml
  replace hc1 := Lib.hid hc1
  go_wp2_with fail
  go_still_tail 14, (by kernel_rfl)
  change wpList _ _ _ _ _ w3.drew
  obtain ⟨w4, hw4⟩ : ∃ w4, w3.drew = w4 := ⟨_, rfl⟩
  rw [hw4]
  have hb4 : Below w3.heap.size w3 w4 := by rw [← hw4]; exact ⟨rfl, rfl, rfl, Nat.le_refl _, fun _ _ => rfl⟩
  clear hw4 c0 c1 f0
  have HP4 := HPD1.out.low hb4
  have f4 := HP4.bx.fz 0
  have k4 := HP4.bx.c0
  rw [HN.out] at k4
  have HP5 := HP4.cut (k := d + keep) (Nat.le_add_right _ _) (by rw [HN.out]; exact hk.out)
  have HS := Lib.hid (sync33 _ HP5)
  have HC4 := Lib.hid (HC1.out.trans (Chg.of_below (fun _ => False) hb4) (fun _ _ h => h.elim))
  clear HP4 hb4 HC1 HP5 HPD1 q1 q2 q3 q4
  go_wp2_with fail
  refine HS.out.mono ?_
  rintro e w5 ⟨rfl, hpd, hch⟩
  have hl : (D.take (d + keep)).length = d + keep := by rw [List.length_take, HN.out]; have := hk.out; omega
  rw [hl] at hpd
  replace hpd := Lib.hid hpd
  have HC5 := Lib.hid (((HC4.out.trans (Chg.set (fun k => k = A) A 0 (.slice a (d + keep) c) rfl) (fun _ _ h => .inl h)).trans hch (fun _ _ h => .inl h)))
  clear hch HC4 HS k4 f4
  go_wp2_with fail
  go_ret
  exact ⟨rfl, .slice a (d + keep) c, hpd.out, HC5.out, by cases a <;> rfl⟩

theorem PD.flip {base A d i y g : Nat} {W : World} {c : Nat} {D : List Nat} (h : PD base W A (.slice (some ⟨g, 0, none⟩) D.length c) D d) (hi : i < D.length) (hy : y < 256) :
    PD base (W.setCell ⟨g, i, none⟩ (.int .u8 ((y : Nat) : Int))) A (.slice (some ⟨g, 0, none⟩) (D.set i y).length c) (D.set i y) d := by
  have hgA : g ≠ A := h.far g rfl
  have cg := Chg.set (W := W) (fun k => k = g) g i (.int .u8 ((y : Nat) : Int)) rfl
  exact ⟨h.lo, by have := h.bx.keep cg (fun e => hgA e.symm); rw [List.length_set]; exact this, own_set h.own hi, h.far, by rw [List.length_set]; exact h.dl, by rw [List.length_set]; exact h.ml, fun v hv => by
    rcases List.mem_or_eq_of_mem_set hv with e | e
    · exact h.by' v e
    · rw [e]; exact hy⟩

set_option maxRecDepth 100000 in
set_option maxHeartbeats 2000000 in
theorem crash_flip {base A d : Nat} {v : Value} {D : List Nat} (keep fn : Nat) (w : World) (h : PD base w A v D d) (hk : d + keep ≤ D.length) (hfn : fn < 8 * keep) :
    Calls Tryz.prog 35 #[.pointer (some ⟨A, 0, none⟩), .int .i64 (keep : Int), .int .i64 (fn : Int)] w fun e w' => e = .returned (.int .i64 0) ∧ ∃ v', PD base w' A v' ((D.set (d + fn / 8) (D.getD (d + fn / 8) 0 ^^^ 2 ^ (fn % 8))).take (d + keep)) (d + keep) ∧ Chg w w' (fun k => k = A ∨ v.ownBlock = some k) ∧ v'.ownBlock = v.ownBlock := by
  have HP := Lib.hid (pending37 w h)
  have HW := Lib.hid (fun w' => within_yes (keep : Int) 0 ((D.length - d : Nat) : Int) (by omega) (by omega) w')
  have HF := Lib.hid (fun w' => within_yes (fn : Int) (-1) (8 * (keep : Int) - 1) (by omega) (by omega) w')
  have hml := h.ml
  have k1 : wrap64 (8 * (keep : Int)) = 8 * (keep : Int) := w64 _ (by omega)
  have k2 : wrap64 (8 * (keep : Int) - 1) = 8 * (keep : Int) - 1 := w64 _ (by omega)
  have HPD := Lib.hid (fun w' (hb : Below w.heap.size w w') => h.low hb)
  obtain ⟨a, c, rfl, hc1, -⟩ := own_slice h.own
  obtain ⟨g, rfl⟩ : ∃ g, a = some ⟨g, 0, none⟩ := by
    rcases h.own.2 with ⟨e, h0⟩ | ⟨g, _, _, e, -⟩
    · omega
    · simp only [Value.slice.injEq] at e; exact ⟨g, e.1⟩
  obtain ⟨p, hp⟩ : ∃ p, D.length - d = p := ⟨_, rfl⟩
  rw [hp] at HP HW
  have HBY := Lib.hid h.by'
  clear hp h
  obtain ⟨n, hn⟩ : ∃ n, D.length = n := ⟨_, rfl⟩
  have HN0 := Lib.hid hn
  rw [hn] at hk hml hc1 ⊢
  clear hn
  obtain ⟨pp, hpp⟩ : ∃ x, fn / 8 = x := ⟨_, rfl⟩
  obtain ⟨jj, hjj⟩ : ∃ x, fn % 8 = x := ⟨_, rfl⟩
  have hpk : pp < keep := by omega
  have hj8 : jj < 8 := by omega
  have t1 : (fn : Int) / 8 = (pp : Int) := by omega
  have t2 : (fn : Int).tmod 8 = (jj : Int) := by rw [Int.tmod_eq_emod_of_nonneg (by omega)]; omega
  have hx : D.getD (d + pp) 0 < 256 := HBY.out _ (getD_mem (by rw [HN0.out]; omega))
  obtain ⟨x, hxx⟩ : ∃ x, D.getD (d + pp) 0 = x := ⟨_, rfl⟩
  rw [hxx] at hx
  have hxv := Lib.hid (xor_val hx hj8)
  have hy8 := Lib.hid (flip_nat hx hj8).2
  rw [hpp, hjj, hxx]
  have s1 : decide ((fn : Int) ≥ 0) = true := by simp
  have t3 := wi64 (pp : Int) (by omega)
  have t5 := wi64 (jj : Int) (by omega)
  have t6 : IntKind.i64.wrap ((d : Int) + (pp : Int)) = (d : Int) + (pp : Int) := wi64 _ (by omega)
  have t7 : (d : Int) + (pp : Int) < (n : Int) := by omega
  have t8 : (0 : Int) ≤ (d : Int) + (pp : Int) := by omega
  have t9 : ((d : Int) + (pp : Int)).toNat = d + pp := by omega
  have hdp := Lib.hid (show d + pp < n by omega)
  replace hxx := Lib.hid hxx
  replace hk := Lib.hid hk
  replace hml := Lib.hid hml
  replace hc1 := Lib.hid hc1
  clear hpp hjj hx hfn hpk
  go_enter Tryz.func35, Tryz.ntmps35
  go_wp2_with fail
  refine HP.out.mono ?_
  rintro e w1 ⟨rfl, hb⟩
  have HPD0 := Lib.hid (HPD.out w1 hb)
  have HC0 := Lib.hid (Chg.of_below (fun k => k = A ∨ (Value.slice (some ⟨g, 0, none⟩) n c).ownBlock = some k) hb)
  clear hb HPD HP
  go_wp2_with fail
  refine (HW.out _).mono ?_
  rintro e w2 ⟨rfl, rfl⟩
  go_wp2_with fail
  refine (HF.out _).mono ?_
  rintro e w9 ⟨rfl, rfl⟩
  clear HW HF k1 k2
  have c0 := HPD0.out.bx.c0
  rw [HN0.out] at c0
  have c1 := HPD0.out.bx.c1
  have f0 := HPD0.out.own.frozenAt (d + pp)
  have cx : w9.cell? ⟨g, d + pp, none⟩ = some (.int .u8 (x : Nat)) := by
    rw [HPD0.out.own.cellAt (d + pp) (by rw [HN0.out]; have := hdp.out; omega)]
    have : (bc D)[d + pp]? = some (.int .u8 ((D.getD (d + pp) 0 : Nat) : Int)) := by simp [bc, List.getD, show d + pp < D.length by rw [HN0.out]; exact hdp.out]
    rw [this, hxx.out]
  go_wp2_with fail
  go_still_tail 18, (by kernel_rfl)
  rw [hxv.out]
  change wpList _ _ _ _ _ w9.drew
  obtain ⟨w8, hw8⟩ : ∃ w8, w9.drew = w8 := ⟨_, rfl⟩
  rw [hw8]
  have hb8 : Below w9.heap.size w9 w8 := by rw [← hw8]; exact ⟨rfl, rfl, rfl, Nat.le_refl _, fun _ _ => rfl⟩
  clear hw8 c0 c1 f0 cx
  have HP8 := HPD0.out.low hb8
  have f8 := HP8.own.frozenAt (d + pp)
  have k8 : w8.cell? ⟨g, d + pp, none⟩ = some (.int .u8 (x : Nat)) := by
    rw [HP8.own.cellAt (d + pp) (by rw [HN0.out]; have := hdp.out; omega)]
    have : (bc D)[d + pp]? = some (.int .u8 ((D.getD (d + pp) 0 : Nat) : Int)) := by simp [bc, List.getD, show d + pp < D.length by rw [HN0.out]; exact hdp.out]
    rw [this, hxx.out]
  have HPD1 := Lib.hid (HP8.flip (i := d + pp) (y := x ^^^ 2 ^ jj) (by rw [HN0.out]; exact hdp.out) hy8.out)
  have HC1 := Lib.hid ((HC0.out.trans (Chg.of_below (fun _ => False) hb8) (fun _ _ h => h.elim)).trans (Chg.set (fun k => k = g) g (d + pp) (.int .u8 ((x ^^^ 2 ^ jj : Nat) : Int)) rfl) (fun _ _ h => .inr (by rw [h]; rfl)))
  clear HP8 hb8 HC0 HPD0 hj8 t1 t2 t3 t5 t6 t7 t8 t9
  go_wp2_with fail
  have HN : Hid ((D.set (d + pp) (x ^^^ 2 ^ jj)).length = n) := Lib.hid (by rw [List.length_set, HN0.out])
  obtain ⟨D1, hD1⟩ : ∃ D1, D.set (d + pp) (x ^^^ 2 ^ jj) = D1 := ⟨_, rfl⟩
  rw [hD1] at HPD1 HN
  generalize w8.setCell ⟨g, d + pp, none⟩ (.int .u8 ((x ^^^ 2 ^ jj : Nat) : Int)) = w3 at HPD1 HC1 ⊢
  clear f8 k8
  replace hD1 := Lib.hid hD1
  replace hk := hk.out
  replace hml := hml.out
  replace hc1 := hc1.out
  have c0 := HPD1.out.bx.c0
  rw [HN.out] at c0
  have c1 := HPD1.out.bx.c1
  have f0 := HPD1.out.bx.fz 0
  have q1 : IntKind.i64.wrap ((d : Int) + (keep : Int)) = (d : Int) + (keep : Int) := wi64 _ (by omega)
  have q2 : (0 : Int) ≤ (d : Int) + (keep : Int) := by omega
  have q3 : ((d : Int) + (keep : Int)).toNat = d + keep := by omega
  have q4 : (d : Int) + (keep : Int) ≤ (c : Int) := by omega
  replace hk := Lib.hid hk
  replace hml := Lib.hid hml
  replace hc1 := Lib.hid hc1
  go_still_tail 14, (by kernel_rfl)
  change wpList _ _ _ _ _ w3.drew
  obtain ⟨w4, hw4⟩ : ∃ w4, w3.drew = w4 := ⟨_, rfl⟩
  rw [hw4]
  have hb4 : Below w3.heap.size w3 w4 := by rw [← hw4]; exact ⟨rfl, rfl, rfl, Nat.le_refl _, fun _ _ => rfl⟩
  clear hw4 c0 c1 f0
  have HP4 := HPD1.out.low hb4
  have f4 := HP4.bx.fz 0
  have k4 := HP4.bx.c0
  rw [HN.out] at k4
  have HP5 := HP4.cut (k := d + keep) (Nat.le_add_right _ _) (by rw [HN.out]; exact hk.out)
  have HS := Lib.hid (sync33 _ HP5)
  have HC4 := Lib.hid (HC1.out.trans (Chg.of_below (fun _ => False) hb4) (fun _ _ h => h.elim))
  clear HP4 hb4 HC1 HP5 HPD1 q1 q2 q3 q4
  go_wp2_with fail
  refine HS.out.mono ?_
  rintro e w5 ⟨rfl, hpd, hch⟩
  have hl : (D1.take (d + keep)).length = d + keep := by rw [List.length_take, HN.out]; have := hk.out; omega
  rw [hl] at hpd
  replace hpd := Lib.hid hpd
  have HC5 := Lib.hid (((HC4.out.trans (Chg.set (fun k => k = A) A 0 (.slice (some ⟨g, 0, none⟩) (d + keep) c) rfl) (fun _ _ h => .inl h)).trans hch (fun _ _ h => .inl h)))
  clear hch HC4 HS k4 f4
  go_wp2_with fail
  go_ret
  exact ⟨rfl, .slice (some ⟨g, 0, none⟩) (d + keep) c, by rw [hD1.out]; exact hpd.out, HC5.out, rfl⟩

end Go.Proofs.YtcgmmfcphfkdhaaGreat
