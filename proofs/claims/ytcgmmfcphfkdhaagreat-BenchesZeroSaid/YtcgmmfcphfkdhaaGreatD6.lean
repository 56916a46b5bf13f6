/- Walks: the reference's disk: Crash. -/
import Derived.Test.YtcgmmfcphfkdhaaGreatD5
namespace Go.Proofs.YtcgmmfcphfkdhaaGreat
open Go Go.RowKit Go.Proofs Go.Torn Go.Abs

set_option maxRecDepth 100000 in
set_option maxHeartbeats 1000000 in
theorem rcrash_bad {base B : Nat} {x y : Value} {X Y : List Nat} (keep f : Int) (w : World) (h : RD base w B x y X Y) (hk : ¬ (0 ≤ keep ∧ keep ≤ (Y.length : Int) ∧ -1 ≤ f ∧ f ≤ 8 * keep - 1)) :
    Calls Tryz.prog 36 #[.pointer (some ⟨B, 0, none⟩), .int .i64 keep, .int .i64 f] w fun e w' => e = .returned (.int .i64 1) ∧ Below w.heap.size w w' := by
  obtain ⟨a', c', rfl, -, -⟩ := own_slice h.oy
  have c1 := h.bx.c1
  have hml := h.ml
  clear h
  obtain ⟨p, hp⟩ : ∃ p, Y.length = p := ⟨_, rfl⟩
  rw [hp] at c1 hk hml
  replace hml : p ≤ 4194304 := by omega
  clear hp
  by_cases l1 : keep < 0
  · have j1 : decide (keep < 0) = true := by simp; omega
    clear hk
    go_enter Tryz.func36, Tryz.ntmps36
    go_wp2_with fail
    go_ret
    exact ⟨rfl, Below.refl _ _⟩
  · have j1 : decide (keep < 0) = false := by simp; omega
    by_cases l2 : keep > (p : Int)
    · have j2 : decide (keep > (p : Int)) = true := by simp; omega
      clear hk
      go_enter Tryz.func36, Tryz.ntmps36
      go_wp2_with fail
      go_ret
      exact ⟨rfl, Below.refl _ _⟩
    · have j2 : decide (keep > (p : Int)) = false := by simp; omega
      by_cases l3 : f < -1
      · have j3 : decide (f < -1) = true := by simp; omega
        clear hk
        go_enter Tryz.func36, Tryz.ntmps36
        go_wp2_with fail
        go_ret
        exact ⟨rfl, Below.refl _ _⟩
      · have j3 : decide (f < -1) = false := by simp; omega
        have k1 : wrap64 (8 * keep) = 8 * keep := w64 _ (by omega)
        have j4 : decide (f ≥ 8 * keep) = true := by simp; omega
        clear hk
        go_enter Tryz.func36, Tryz.ntmps36
        go_wp2_with fail
        go_ret
        exact ⟨rfl, Below.refl _ _⟩

theorem slb_take {w : World} {a : Option Addr} {c k : Nat} {L : List Nat} (h : SlB w (.slice a L.length c) L) (hk : k ≤ L.length) : SlB w (.slice a k c) (L.take k) := by
  obtain ⟨a2, c2, e, ⟨h1, h2⟩, h3⟩ := h
  simp only [Value.slice.injEq, true_and] at e
  obtain ⟨rfl, rfl⟩ := e
  have hlen : (L.take k).length = k := by rw [List.length_take]; omega
  refine ⟨a, c, by rw [hlen], ⟨by rw [hlen]; omega, h2⟩, fun hp => ?_⟩
  rw [hlen] at hp
  obtain ⟨b, off, rfl, hd⟩ := h3 (by omega)
  refine ⟨b, off, rfl, fun j hj => ?_⟩
  rw [hlen] at hj
  rw [hd j (by omega)]
  simp [List.getD, List.getElem?_take_of_lt hj]

set_option maxRecDepth 100000 in
set_option maxHeartbeats 4000000 in
theorem rcrash_plain {base B : Nat} {x y : Value} {X Y : List Nat} (keep : Nat) (w : World) (hbw : base ≤ w.heap.size) (h : RD base w B x y X Y) (hk : keep ≤ Y.length) :
    Calls Tryz.prog 36 #[.pointer (some ⟨B, 0, none⟩), .int .i64 (keep : Int), .int .i64 (-1)] w fun e w' => e = .returned (.int .i64 0) ∧ ∃ x', RD base w' B x' (.slice none 0 0) (X ++ Y.take keep) [] ∧ Chg w w' (fun k => k = B) ∧ (∀ k, x'.ownBlock = some k → w.heap.size ≤ k) := by
  have H := Lib.hid h
  obtain ⟨ax, cx, rfl, -, -⟩ := own_slice h.ox
  obtain ⟨ay, cy, rfl, hcy, -⟩ := own_slice h.oy
  have hml := h.ml
  have hyl : Y.length ≤ 4194304 := by omega
  have hxl : X.length ≤ 4194304 := by omega
  obtain ⟨v1, W2, r1, o1, hb2⟩ := app1 (slb_take (own_SlB h.oy (by omega)).1 hk) (by rw [List.length_take]; omega)
  have lk : (Y.take keep).length = keep := by rw [List.length_take]; omega
  rw [lk] at o1
  obtain ⟨a1, c1, rfl, -, -⟩ := own_slice o1
  have c1a : (w.alloc (.cells #[] 5)).cell? ⟨B, 1, none⟩ = some (.slice ay Y.length cy) := keep_cell ((Below.refl _ w).alloc (Nat.le_refl _) _) h.bx.c1
  have c1w := h.bx.c1
  obtain ⟨p, hp⟩ : ∃ p, Y.length = p := ⟨_, rfl⟩
  rw [hp] at hk c1a c1w hyl hcy
  have hpH := Lib.hid hp
  have j1 : decide ((keep : Int) < 0) = false := by simp
  have j2 : decide (p < keep) = false := by simp; omega
  have k1 : wrap64 (8 * (keep : Int)) = 8 * (keep : Int) := w64 _ (by omega)
  have hkc : (keep : Int) ≤ (cy : Int) := Int.ofNat_le.2 (Nat.le_trans hk hcy)
  have hkc2 : keep ≤ cy := Nat.le_trans hk hcy
  replace o1 := Lib.hid o1
  replace hb2 := Lib.hid hb2
  replace lk := Lib.hid lk
  have hbk := hb2
  have hsk : Hid (SlB W2 (.slice a1 keep c1) (Y.take keep)) := Lib.hid (by
    have := o1.out
    have e := lk.out
    have g := own_SlB (x := Y.take keep) (by rw [e]; exact this) (by rw [e]; omega)
    exact g.1)
  have hKl := lk
  have hKy : Hid (By (Y.take keep)) := Lib.hid (By_take h.byy _)
  have hYp := Lib.hid hk
  obtain ⟨K, hK⟩ : ∃ K, Y.take keep = K := ⟨_, rfl⟩
  rw [hK] at hsk hKl hKy ⊢
  obtain ⟨Wk, hWk⟩ : ∃ W, W2 = W := ⟨_, rfl⟩
  subst hWk
  have H3 := H.out.keep (Chg.of_below (fun _ => False) hbk.out) (fun e => e) (fun _ _ e => e) (fun _ _ e => e)
  obtain ⟨v6, W6, v7, W7, r6, r7, o7, -, hb7, o6⟩ := app2 (own_SlB H3.ox (by omega)).1 hsk.out (by rw [hKl.out]; omega)
  have b7 : Bx W7 B 141 (.slice ax X.length cx) (.slice ay Y.length cy) := H3.bx.keep (Chg.of_below (fun _ => False) hb7) (fun e => e)
  have hb7w := hbk.out.trans (hb7.mono hbk.out.size)
  have fv : ∀ k, v7.ownBlock = some k → w.heap.size ≤ k := fun k e => Nat.le_trans hbk.out.size (o7.lt k e).1
  have hB := H.out.bx.lt
  have fin : Hid (∃ x', RD base ((W7.setCell ⟨B, 0, none⟩ v7).setCell ⟨B, 1, none⟩ (.slice none 0 0)) B x' (.slice none 0 0) (X ++ K) [] ∧ Chg w ((W7.setCell ⟨B, 0, none⟩ v7).setCell ⟨B, 1, none⟩ (.slice none 0 0)) (fun k => k = B) ∧ (∀ k, x'.ownBlock = some k → w.heap.size ≤ k)) := Lib.hid (by
    have g := Chg.set (W := W7) (fun k => k = B) B 0 v7 rfl
    have g' := Chg.set (W := W7.setCell ⟨B, 0, none⟩ v7) (fun k => k = B) B 1 (.slice none 0 0) rfl
    have g2 := ((Chg.of_below (fun k => k = B) hb7w).trans g (fun _ _ h => h)).trans g' (fun _ _ h => h)
    exact ⟨v7, ⟨H.out.lo, (b7.set0 _).set1 _, g'.own (g.own (own_low (Nat.le_trans hbw hbk.out.size) o7) (fun k e h => by have := fv k e; omega)) (fun k e h => by have := fv k e; omega), World.ownsRow_nil _ _ _ _, fun k e h => by have := fv k e; omega, (fun k e => by cases e), (by rw [List.length_append, hKl.out]; have := hml; have := hpH.out; simp; omega), By_append H.out.byx hKy.out, fun v hv => by simp at hv⟩, g2, fv⟩)
  have z0 := b7.fz 0
  have y0 := b7.c0
  have y1 : (W7.setCell ⟨B, 0, none⟩ v7).cell? ⟨B, 1, none⟩ = some (.slice ay Y.length cy) := (b7.set0 _).c1
  have z1 : (W7.setCell ⟨B, 0, none⟩ v7).frozen? ⟨B, 1, none⟩ = false := (b7.set0 _).fz 1
  have c0a : (W2.alloc (.cells #[] 5)).cell? ⟨B, 0, none⟩ = some (.slice ax X.length cx) := keep_cell ((Below.refl _ W2).alloc (Nat.le_refl _) _) H3.bx.c0
  obtain ⟨a6, c6, rfl, -, -⟩ := own_slice o6
  obtain ⟨a7, c7, rfl, -, -⟩ := own_slice o7
  obtain ⟨n7, hn7⟩ : ∃ n, (X ++ K).length = n := ⟨_, rfl⟩
  obtain ⟨nx, hnx⟩ : ∃ n, X.length = n := ⟨_, rfl⟩
  obtain ⟨ny, hny⟩ : ∃ n, Y.length = n := ⟨_, rfl⟩
  rw [hn7] at r7 fin y1 z1
  rw [hnx] at r6 r7 y0 c0a
  rw [hny] at y1
  clear b7 hb7w fv hB H3 hb7 o6 o7 hn7 hnx hny H hml hxl
  clear hbk hsk hKl hKy hYp hK o1 hb2 lk h hp hpH
  have tok : True := trivial
  have tok6 : True := trivial
  go_enter Tryz.func36, Tryz.ntmps36
  go_wp2_with (at_builtin; first | (have _t := tok; refine Lib.wpList_append_run _ rfl _ _ _ _ rfl _ _ rfl rfl _ _ r1 ?_; clear tok) | (have _t := tok6; refine Lib.wpList_append_run _ rfl _ _ _ _ rfl _ _ rfl rfl _ _ r6 ?_; clear tok6) | refine Lib.wpList_append_run _ rfl _ _ _ _ rfl _ _ rfl rfl _ _ r7 ?_)
  go_ret
  exact ⟨rfl, fin.out⟩

set_option maxRecDepth 100000 in
set_option maxHeartbeats 4000000 in
theorem rcrash_flip {base B : Nat} {x y : Value} {X Y : List Nat} (keep fn : Nat) (w : World) (hbw : base ≤ w.heap.size) (h : RD base w B x y X Y) (hk : keep ≤ Y.length) (hfn : fn < 8 * keep) :
    Calls Tryz.prog 36 #[.pointer (some ⟨B, 0, none⟩), .int .i64 (keep : Int), .int .i64 (fn : Int)] w fun e w' => e = .returned (.int .i64 0) ∧ ∃ x', RD base w' B x' (.slice none 0 0) (X ++ ((Y.take keep).set (fn / 8) ((Y.take keep).getD (fn / 8) 0 ^^^ 2 ^ (fn % 8)))) [] ∧ Chg w w' (fun k => k = B) ∧ (∀ k, x'.ownBlock = some k → w.heap.size ≤ k) := by
  have H := Lib.hid h
  obtain ⟨ax, cx, rfl, -, -⟩ := own_slice h.ox
  obtain ⟨ay, cy, rfl, hcy, -⟩ := own_slice h.oy
  have hml := h.ml
  have hyl : Y.length ≤ 4194304 := by omega
  have hxl : X.length ≤ 4194304 := by omega
  obtain ⟨v1, W2, r1, o1, hb2⟩ := app1 (slb_take (own_SlB h.oy (by omega)).1 hk) (by rw [List.length_take]; omega)
  have lk : (Y.take keep).length = keep := by rw [List.length_take]; omega
  rw [lk] at o1
  obtain ⟨a1, c1, rfl, -, -⟩ := own_slice o1
  have c1a : (w.alloc (.cells #[] 5)).cell? ⟨B, 1, none⟩ = some (.slice ay Y.length cy) := keep_cell ((Below.refl _ w).alloc (Nat.le_refl _) _) h.bx.c1
  have c1w := h.bx.c1
  obtain ⟨p, hp⟩ : ∃ p, Y.length = p := ⟨_, rfl⟩
  rw [hp] at hk c1a c1w hyl hcy
  have hpH := Lib.hid hp
  have j1 : decide ((keep : Int) < 0) = false := by simp
  have j2 : decide (p < keep) = false := by simp; omega
  have k1 : wrap64 (8 * (keep : Int)) = 8 * (keep : Int) := w64 _ (by omega)
  have hkc : (keep : Int) ≤ (cy : Int) := Int.ofNat_le.2 (Nat.le_trans hk hcy)
  have hkc2 : keep ≤ cy := Nat.le_trans hk hcy
  replace o1 := Lib.hid o1
  replace hb2 := Lib.hid hb2
  replace lk := Lib.hid lk
  obtain ⟨g, rfl⟩ : ∃ g, a1 = some ⟨g, 0, none⟩ := by
    rcases o1.out.2 with ⟨e, h0⟩ | ⟨g, _, _, e, -⟩
    · omega
    · simp only [Value.slice.injEq] at e; exact ⟨g, e.1⟩
  have hK0y := Lib.hid (By_take h.byy keep)
  obtain ⟨K0, hK0⟩ : ∃ K, Y.take keep = K := ⟨_, rfl⟩
  rw [hK0] at o1 lk hK0y ⊢
  obtain ⟨pp, hpp⟩ : ∃ x, fn / 8 = x := ⟨_, rfl⟩
  obtain ⟨jj, hjj⟩ : ∃ x, fn % 8 = x := ⟨_, rfl⟩
  have hpk : pp < keep := by omega
  have hj8 : jj < 8 := by omega
  have t1 : (fn : Int) / 8 = (pp : Int) := by omega
  have t2 : (fn : Int).tmod 8 = (jj : Int) := by rw [Int.tmod_eq_emod_of_nonneg (by omega)]; omega
  have hx : K0.getD pp 0 < 256 := hK0y.out _ (getD_mem (by rw [lk.out]; exact hpk))
  obtain ⟨x, hxx⟩ : ∃ x, K0.getD pp 0 = x := ⟨_, rfl⟩
  rw [hxx] at hx
  have hxv := Lib.hid (xor_val hx hj8)
  have hy8 := Lib.hid (flip_nat hx hj8).2
  rw [hpp, hjj, hxx]
  have s1 : decide ((fn : Int) ≥ 0) = true := by simp
  have j3 : decide ((fn : Int) < -1) = false := decide_eq_false (by omega)
  have j4 : decide ((fn : Int) ≥ 8 * (keep : Int)) = false := by simp; omega
  have t3 := wi64 (pp : Int) (by omega)
  have t5 := wi64 (jj : Int) (by omega)
  have t7 : (pp : Int) < (keep : Int) := by omega
  have cx : W2.cell? ⟨g, pp, none⟩ = some (.int .u8 (x : Nat)) := by
    rw [o1.out.cellAt pp (by omega)]
    have : (bc K0)[pp]? = some (.int .u8 ((K0.getD pp 0 : Nat) : Int)) := by simp [bc, List.getD, show pp < K0.length by rw [lk.out]; exact hpk]
    rw [this, hxx]
  have hpkH := Lib.hid hpk
  have hbase := Lib.hid (o1.out.lt g rfl).1
  clear h hp hfn hpp hjj hxx hx hK0
  go_enter Tryz.func36, Tryz.ntmps36
  go_wp2_with (at_builtin; refine Lib.wpList_append_run _ rfl _ _ _ _ rfl _ _ rfl rfl _ _ r1 ?_)
  go_still_tail 13, (by kernel_rfl)
  rw [hxv.out]
  change wpList _ _ _ _ _ W2.drew
  obtain ⟨w8, hw8⟩ : ∃ w8, W2.drew = w8 := ⟨_, rfl⟩
  rw [hw8]
  have hb8 : Below W2.heap.size W2 w8 := by rw [← hw8]; exact ⟨rfl, rfl, rfl, Nat.le_refl _, fun _ _ => rfl⟩
  clear hw8
  have o8 := own_keep o1.out hb8
  rw [← lk.out] at o8
  have k8 : w8.cell? ⟨g, pp, none⟩ = some (.int .u8 (x : Nat)) := keep_cell hb8 cx
  have f8 := o8.frozenAt pp
  have o9 := own_set (y := x ^^^ 2 ^ jj) o8 (by rw [lk.out]; exact hpkH.out)
  have hbk := Lib.hid (Below.setCell (p := ⟨g, pp, none⟩) (hb2.out.trans (hb8.mono hb2.out.size)) hbase.out (.int .u8 ((x ^^^ 2 ^ jj : Nat) : Int)))
  have hKl : Hid ((K0.set pp (x ^^^ 2 ^ jj)).length = keep) := Lib.hid (by rw [List.length_set, lk.out])
  have hKy : Hid (By (K0.set pp (x ^^^ 2 ^ jj))) := Lib.hid (fun v hv => by
    rcases List.mem_or_eq_of_mem_set hv with e | e
    · exact hK0y.out v e
    · rw [e]; exact hy8.out)
  obtain ⟨K, hK⟩ : ∃ K, K0.set pp (x ^^^ 2 ^ jj) = K := ⟨_, rfl⟩
  rw [hK] at o9 hKl hKy
  have hsk := Lib.hid (own_SlB o9 (by rw [hKl.out]; omega)).1
  rw [hKl.out] at hsk
  clear t1 t2 t3 t5 t7 j1 j2 j3 j4 s1 k1 cx o8 o9 hb8 hj8 hpk hkc hkc2 c1a c1w
  replace hK := Lib.hid hK
  obtain ⟨Wk, hWk⟩ : ∃ W, w8.setCell ⟨g, pp, none⟩ (.int .u8 ((x ^^^ 2 ^ jj : Nat) : Int)) = W := ⟨_, rfl⟩
  rw [hWk] at hbk hsk
  have H3 := H.out.keep (Chg.of_below (fun _ => False) hbk.out) (fun e => e) (fun _ _ e => e) (fun _ _ e => e)
  obtain ⟨v6, W6, v7, W7, r6, r7, o7, -, hb7, o6⟩ := app2 (own_SlB H3.ox (by omega)).1 hsk.out (by rw [hKl.out]; omega)
  have b7 : Bx W7 B 141 (.slice ax X.length cx) (.slice ay Y.length cy) := H3.bx.keep (Chg.of_below (fun _ => False) hb7) (fun e => e)
  have hb7w := hbk.out.trans (hb7.mono hbk.out.size)
  have fv : ∀ k, v7.ownBlock = some k → w.heap.size ≤ k := fun k e => Nat.le_trans hbk.out.size (o7.lt k e).1
  have hB := H.out.bx.lt
  have fin : Hid (∃ x', RD base ((W7.setCell ⟨B, 0, none⟩ v7).setCell ⟨B, 1, none⟩ (.slice none 0 0)) B x' (.slice none 0 0) (X ++ K) [] ∧ Chg w ((W7.setCell ⟨B, 0, none⟩ v7).setCell ⟨B, 1, none⟩ (.slice none 0 0)) (fun k => k = B) ∧ (∀ k, x'.ownBlock = some k → w.heap.size ≤ k)) := Lib.hid (by
    have g := Chg.set (W := W7) (fun k => k = B) B 0 v7 rfl
    have g' := Chg.set (W := W7.setCell ⟨B, 0, none⟩ v7) (fun k => k = B) B 1 (.slice none 0 0) rfl
    have g2 := ((Chg.of_below (fun k => k = B) hb7w).trans g (fun _ _ h => h)).trans g' (fun _ _ h => h)
    exact ⟨v7, ⟨H.out.lo, (b7.set0 _).set1 _, g'.own (g.own (own_low (Nat.le_trans hbw hbk.out.size) o7) (fun k e h => by have := fv k e; omega)) (fun k e h => by have := fv k e; omega), World.ownsRow_nil _ _ _ _, fun k e h => by have := fv k e; omega, (fun k e => by cases e), (by rw [List.length_append, hKl.out]; have := hml; have := hpH.out; simp; omega), By_append H.out.byx hKy.out, fun v hv => by simp at hv⟩, g2, fv⟩)
  have z0 := b7.fz 0
  have y0 := b7.c0
  have y1 : (W7.setCell ⟨B, 0, none⟩ v7).cell? ⟨B, 1, none⟩ = some (.slice ay Y.length cy) := (b7.set0 _).c1
  have z1 : (W7.setCell ⟨B, 0, none⟩ v7).frozen? ⟨B, 1, none⟩ = false := (b7.set0 _).fz 1
  have c0a : (Wk.alloc (.cells #[] 5)).cell? ⟨B, 0, none⟩ = some (.slice ax X.length cx) := keep_cell ((Below.refl _ Wk).alloc (Nat.le_refl _) _) H3.bx.c0
  obtain ⟨a6, c6, rfl, -, -⟩ := own_slice o6
  obtain ⟨a7, c7, rfl, -, -⟩ := own_slice o7
  obtain ⟨n7, hn7⟩ : ∃ n, (X ++ K).length = n := ⟨_, rfl⟩
  obtain ⟨nx, hnx⟩ : ∃ n, X.length = n := ⟨_, rfl⟩
  obtain ⟨ny, hny⟩ : ∃ n, Y.length = n := ⟨_, rfl⟩
  rw [hn7] at r7 fin y1 z1
  rw [hnx] at r6 r7 y0 c0a
  rw [hny] at y1
  clear b7 hb7w fv hB H3 hb7 o6 o7 hn7 hnx hny H hml hxl
  rw [← hK.out] at fin
  rw [← hWk] at r6 c0a
  clear hWk hbk hsk hKl hKy hK o1 hb2 lk hK0y hxv hy8 hpkH hbase hpH r1
  simp only [World.size_setCell] at r6
  have tok6 : True := trivial
  go_wp2_with (at_builtin; first | (have _t := tok6; refine Lib.wpList_append_run _ rfl _ _ _ _ rfl _ _ rfl rfl _ _ r6 ?_; clear tok6) | refine Lib.wpList_append_run _ rfl _ _ _ _ rfl _ _ rfl rfl _ _ r7 ?_)
  go_ret
  exact ⟨rfl, fin.out⟩

end Go.Proofs.YtcgmmfcphfkdhaaGreat
