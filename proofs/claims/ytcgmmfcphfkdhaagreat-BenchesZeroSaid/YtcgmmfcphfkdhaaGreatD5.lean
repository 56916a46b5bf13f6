/- Walks: the reference's disk: Sync and Read: regions that draw their order, in which three operations make memory, one after the other. -/
import Derived.Test.YtcgmmfcphfkdhaaGreatD4
namespace Go.Proofs.YtcgmmfcphfkdhaaGreat
open Go Go.RowKit Go.Proofs Go.Torn Go.Abs

def StV (cs : List Value) (i : Nat) (v : Value) (_ : World) : Prop := v = cs.getD i undef

def StR (k1 k2 k3 : Nat) (W1 W2 W3 : World) (j : Nat) (W W' : World) : Prop := W' = if j = k1 then W1 else if j = k2 then W2 else if j = k3 then W3 else W

structure StG (k1 k2 k3 : Nat) (W0 W1 W2 W3 : World) (listed : Array Bool) (W : World) : Prop where
  eq : W = if isIn listed k3 = true then W3 else if isIn listed k2 = true then W2 else if isIn listed k1 = true then W1 else W0
  a : isIn listed k3 = true → isIn listed k2 = true
  b : isIn listed k2 = true → isIn listed k1 = true

theorem StR.same {k1 k2 k3 j : Nat} {W1 W2 W3 W : World} (h1 : j ≠ k1) (h2 : j ≠ k2) (h3 : j ≠ k3) : StR k1 k2 k3 W1 W2 W3 j W W := by
  unfold StR; rw [if_neg h1, if_neg h2, if_neg h3]

theorem StG.step {k1 k2 k3 j : Nat} {W0 W1 W2 W3 W W' : World} {listed : Array Bool} (h12 : k1 < k2) (h23 : k2 < k3) (hl : j < listed.size) (hli : isIn listed j = false) (u2 : j = k2 → isIn listed k1 = true) (u3 : j = k3 → isIn listed k2 = true)
    (h : StG k1 k2 k3 W0 W1 W2 W3 listed W) (hr : StR k1 k2 k3 W1 W2 W3 j W W') : StG k1 k2 k3 W0 W1 W2 W3 (listed.setIfInBounds j true) W' := by
  obtain ⟨e, a, b⟩ := h
  unfold StR at hr
  subst hr
  by_cases e1 : j = k1
  · subst e1
    have n2 : isIn listed k2 = false := by cases hh : isIn listed k2 with | false => rfl | true => rw [b hh] at hli; cases hli
    have n3 : isIn listed k3 = false := by cases hh : isIn listed k3 with | false => rfl | true => rw [a hh] at n2; cases n2
    have m2 : (k2 == j) = false := by simp; omega
    have m3 : (k3 == j) = false := by simp; omega
    refine ⟨?_, ?_, ?_⟩ <;> simp [isIn_set hl, n2, n3, m2, m3]
  · by_cases e2 : j = k2
    · subst e2
      have n3 : isIn listed k3 = false := by cases hh : isIn listed k3 with | false => rfl | true => rw [a hh] at hli; cases hli
      have m3 : (k3 == j) = false := by simp; omega
      have m1 : (k1 == j) = false := by simp; omega
      have u := u2 rfl
      refine ⟨?_, ?_, ?_⟩ <;> simp [isIn_set hl, n3, m3, m1, u, e1]
    · by_cases e3 : j = k3
      · subst e3
        have m2 : (k2 == j) = false := by simp; omega
        have m1 : (k1 == j) = false := by simp; omega
        have u := u3 rfl
        have u' := b u
        refine ⟨?_, ?_, ?_⟩ <;> simp [isIn_set hl, m2, m1, u, u', e1, e2]
      · rw [if_neg e1, if_neg e2, if_neg e3]
        have m1 : (k1 == j) = false := by simp; omega
        have m2 : (k2 == j) = false := by simp; omega
        have m3 : (k3 == j) = false := by simp; omega
        refine ⟨?_, ?_, ?_⟩
        · simp only [isIn_set hl, m1, m2, m3, Bool.or_false]; exact e
        · simp only [isIn_set hl, m2, m3, Bool.or_false]; exact a
        · simp only [isIn_set hl, m1, m2, Bool.or_false]; exact b

theorem StG.at1 {k1 k2 k3 : Nat} {W0 W1 W2 W3 W : World} {listed : Array Bool} (h : StG k1 k2 k3 W0 W1 W2 W3 listed W) (n : isIn listed k1 = false) : W = W0 := by
  have n2 : isIn listed k2 = false := by cases hh : isIn listed k2 with | false => rfl | true => rw [h.b hh] at n; cases n
  have n3 : isIn listed k3 = false := by cases hh : isIn listed k3 with | false => rfl | true => rw [h.a hh] at n2; cases n2
  have := h.eq
  simpa [n, n2, n3] using this
theorem StG.at2 {k1 k2 k3 : Nat} {W0 W1 W2 W3 W : World} {listed : Array Bool} (h : StG k1 k2 k3 W0 W1 W2 W3 listed W) (y : isIn listed k1 = true) (n : isIn listed k2 = false) : W = W1 := by
  have n3 : isIn listed k3 = false := by cases hh : isIn listed k3 with | false => rfl | true => rw [h.a hh] at n; cases n
  have := h.eq
  simpa [y, n, n3] using this
theorem StG.at3 {k1 k2 k3 : Nat} {W0 W1 W2 W3 W : World} {listed : Array Bool} (h : StG k1 k2 k3 W0 W1 W2 W3 listed W) (y : isIn listed k2 = true) (n : isIn listed k3 = false) : W = W2 := by
  have := h.eq
  simpa [y, n] using this
theorem StG.below {N k1 k2 k3 : Nat} {w W0 W1 W2 W3 W : World} {listed : Array Bool} (h : StG k1 k2 k3 W0 W1 W2 W3 listed W) (h0 : Below N w W0) (h1 : Below N w W1) (h2 : Below N w W2) (h3 : Below N w W3) : Below N w W := by
  rw [h.eq]
  split
  · exact h3
  · split
    · exact h2
    · split
      · exact h1
      · exact h0

set_option maxRecDepth 100000 in
set_option maxHeartbeats 4000000 in
theorem rsync34 {base B : Nat} {x y : Value} {X Y : List Nat} (w : World) (hbw : base ≤ w.heap.size) (h : RD base w B x y X Y) :
    Calls Tryz.prog 34 #[.pointer (some ⟨B, 0, none⟩)] w fun e w' => e = .returned (.tuple #[]) ∧ ∃ x', RD base w' B x' (.slice none 0 0) (X ++ Y) [] ∧ Chg w w' (fun k => k = B) ∧ (∀ k, x'.ownBlock = some k → w.heap.size ≤ k) := by
  obtain ⟨ax, cx, rfl, -, -⟩ := own_slice h.ox
  obtain ⟨ay, cy, rfl, -, -⟩ := own_slice h.oy
  have H := Lib.hid h
  obtain ⟨w0, hw0⟩ : ∃ w0, w.drew = w0 := ⟨_, rfl⟩
  have hz0 : Hid (w0.heap.size = w.heap.size) := Lib.hid (by rw [← hw0]; rfl)
  have hb0 : Below w.heap.size w w0 := by rw [← hw0]; exact ⟨rfl, rfl, rfl, Nat.le_refl _, fun _ _ => rfl⟩
  have h0 := h.low hb0
  have hl : X.length ≤ 4194304 ∧ Y.length ≤ 4194304 ∧ X.length + Y.length ≤ 10000000 := by have := h.ml; omega
  obtain ⟨v6, W2, v7, W3, r6, r7, ho, hb2, hb3, ho6⟩ := app2 (own_SlB h0.ox (by omega)).1 (own_SlB h0.oy (by omega)).1 hl.2.2
  obtain ⟨W1, hW1⟩ : ∃ W1, w0.alloc (.cells #[] 5) = W1 := ⟨_, rfl⟩
  have hb1 : Below w.heap.size w W1 := by rw [← hW1]; exact hb0.trans ((Below.refl _ w0).alloc (by rw [hz0.out]; exact Nat.le_refl _) _)
  replace hb2 : Below w.heap.size w W2 := hb0.trans (hb2.mono (by rw [hz0.out]; exact Nat.le_refl _))
  replace hb3 : Below w.heap.size w W3 := hb0.trans (hb3.mono (by rw [hz0.out]; exact Nat.le_refl _))
  rw [hW1] at r6
  have hc0 : Hid (∀ W, Below w.heap.size w W → W.cell? ⟨B, 0, none⟩ = some (.slice ax X.length cx)) := Lib.hid (fun W hb => keep_cell hb h.bx.c0)
  have hc1 : Hid (∀ W, Below w.heap.size w W → W.cell? ⟨B, 1, none⟩ = some (.slice ay Y.length cy)) := Lib.hid (fun W hb => keep_cell hb h.bx.c1)
  have b3 : Bx W3 B 141 (.slice ax X.length cx) (.slice ay Y.length cy) := h.bx.keep (Chg.of_below (fun _ => False) hb3) (fun e => e)
  have fv : ∀ k, v7.ownBlock = some k → w.heap.size ≤ k := fun k e => by rw [← hz0.out]; exact (ho.lt k e).1
  have hB := h.bx.lt
  have fin : Hid (∃ x', RD base ((W3.setCell ⟨B, 0, none⟩ v7).setCell ⟨B, 1, none⟩ (.slice none 0 0)) B x' (.slice none 0 0) (X ++ Y) [] ∧ Chg w ((W3.setCell ⟨B, 0, none⟩ v7).setCell ⟨B, 1, none⟩ (.slice none 0 0)) (fun k => k = B) ∧ (∀ k, x'.ownBlock = some k → w.heap.size ≤ k)) := Lib.hid (by
    have g := Chg.set (W := W3) (fun k => k = B) B 0 v7 rfl
    have g' := Chg.set (W := W3.setCell ⟨B, 0, none⟩ v7) (fun k => k = B) B 1 (.slice none 0 0) rfl
    have g2 := ((Chg.of_below (fun k => k = B) hb3).trans g (fun _ _ h => h)).trans g' (fun _ _ h => h)
    exact ⟨v7, ⟨h.lo, (b3.set0 _).set1 _, g'.own (g.own (own_low (by rw [hz0.out]; exact hbw) ho) (fun k e h => by have := fv k e; omega)) (fun k e h => by have := fv k e; omega), World.ownsRow_nil _ _ _ _, fun k e h => by have := fv k e; omega, (fun k e => by cases e), (by rw [List.length_append]; simpa using h.ml), By_append h.byx h.byy, fun v hv => by simp at hv⟩, g2, fv⟩)
  have z0 := b3.fz 0
  have y0 := b3.c0
  have y1 : (W3.setCell ⟨B, 0, none⟩ v7).cell? ⟨B, 1, none⟩ = some (.slice ay Y.length cy) := (b3.set0 _).c1
  have z1 : (W3.setCell ⟨B, 0, none⟩ v7).frozen? ⟨B, 1, none⟩ = false := (b3.set0 _).fz 1
  clear b3 fv hB
  obtain ⟨a6, c6, rfl, -, -⟩ := own_slice ho6
  obtain ⟨a7, c7, rfl, -, -⟩ := own_slice ho
  obtain ⟨n7, hn7⟩ : ∃ n, (X ++ Y).length = n := ⟨_, rfl⟩
  obtain ⟨nx, hnx⟩ : ∃ n, X.length = n := ⟨_, rfl⟩
  obtain ⟨ny, hny⟩ : ∃ n, Y.length = n := ⟨_, rfl⟩
  obtain ⟨n6, hn6⟩ : ∃ n, X.length = n := ⟨_, rfl⟩
  rw [hn7] at r7 fin y1 z1
  rw [hnx] at y0
  rw [hny] at y1
  rw [hn6, hny] at r7
  have e6 : n6 = nx := by rw [← hn6, ← hnx]
  subst e6
  rw [hnx] at r6 hc0
  rw [hny] at hc1
  clear ho ho6 h h0 hl hn7 hnx hny hn6 H hz0
  go_enter Tryz.func34, Tryz.ntmps34
  go_wp2_with fail
  refine wp_region_valsA 12 (StV [.pointer (some ⟨B, 0, none⟩), .slice (some ⟨w0.heap.size, 0, none⟩) 0 0, .pointer (some ⟨B, 0, none⟩), .pointer (some ⟨B, 0, none⟩), .pointer (some ⟨B, 0, none⟩), .slice ax n6 cx, .slice a6 n6 c6, .pointer (some ⟨B, 0, none⟩), .pointer (some ⟨B, 0, none⟩), .pointer (some ⟨B, 1, none⟩), .slice ay ny cy, .slice a7 n7 c7]) (StR 1 6 11 W1 W2 W3) (StG 1 6 11 w0 W1 W2 W3) (by kernel_rfl) (by kernel_rfl) ?_ ?_ ?_ ?_ ?_
  · rw [hw0]
    have n1 : ∀ n i, isIn (Array.replicate n false) i = false := fun n i => getD_replicate_false _ _
    exact ⟨by simp [n1], by simp [n1], by simp [n1]⟩
  · intro listed j W W' hsz hj hli hup hg hR
    refine hg.step (by decide) (by decide) (by rw [hsz]; simp only [List.length_cons, List.length_nil]; omega) hli (fun e => hup 1 (by subst e; kernel_rfl)) (fun e => hup 6 (by subst e; kernel_rfl)) hR
  · intro listed i j v W W' _ _ _ _ _ hv _ _
    exact hv
  · simp only [List.take_succ_cons, List.take_zero]
    intro i o ho listed a' W hli hup hGd hfr hdep
    have f0 : a'.tmps[0]?.getD undef = .pointer (some ⟨B, 0, none⟩) := Array.getD_eq_getD_getElem?.symm.trans (hfr 0 rfl)
    have hbW := hGd.below hb0 hb1 hb2 hb3
    have q0 := hc0.out W hbW
    have q1 := hc1.out W hbW
    clear hfr
    have hi : i < 12 := by have := (List.getElem?_eq_some_iff.1 ho).1; simpa using this
    obtain rfl | rfl | rfl | rfl | rfl | rfl | rfl | rfl | rfl | rfl | rfl | rfl : i = 0 ∨ i = 1 ∨ i = 2 ∨ i = 3 ∨ i = 4 ∨ i = 5 ∨ i = 6 ∨ i = 7 ∨ i = 8 ∨ i = 9 ∨ i = 10 ∨ i = 11 := by omega
    all_goals simp only [List.getElem?_cons_zero, List.getElem?_cons_succ, Option.some.injEq] at ho
    all_goals subst ho
    · clear hdep
      refine .inl ⟨_, W, ?_, StR.same (by decide) (by decide) (by decide), rfl⟩
      go_simp
    · clear hdep
      have hW := hGd.at1 hli
      rw [hW]
      refine .inl ⟨.slice (some ⟨w0.heap.size, 0, none⟩) 0 0, W1, ?_, (by unfold StR; simp), rfl⟩
      rw [← hW1]
      go_simp
    · clear hdep
      refine .inl ⟨_, W, ?_, StR.same (by decide) (by decide) (by decide), rfl⟩
      go_simp
    · have d2 : a'.tmps[6]?.getD undef = .pointer (some ⟨B, 0, none⟩) := Array.getD_eq_getD_getElem?.symm.trans (hdep ⟨2, .data⟩ (by simp) rfl 6 rfl)
      clear hdep
      refine .inl ⟨_, W, ?_, StR.same (by decide) (by decide) (by decide), rfl⟩
      go_simp
    · have d3 : a'.tmps[7]?.getD undef = .pointer (some ⟨B, 0, none⟩) := Array.getD_eq_getD_getElem?.symm.trans (hdep ⟨3, .data⟩ (by simp) rfl 7 rfl)
      clear hdep
      refine .inl ⟨_, W, ?_, StR.same (by decide) (by decide) (by decide), rfl⟩
      go_simp
    · have d4 : a'.tmps[8]?.getD undef = .pointer (some ⟨B, 0, none⟩) := Array.getD_eq_getD_getElem?.symm.trans (hdep ⟨4, .data⟩ (by simp) rfl 8 rfl)
      clear hdep
      refine .inl ⟨_, W, ?_, StR.same (by decide) (by decide) (by decide), rfl⟩
      go_simp
    · have d1 : a'.tmps[5]?.getD undef = .slice (some ⟨w0.heap.size, 0, none⟩) 0 0 := Array.getD_eq_getD_getElem?.symm.trans (hdep ⟨1, .data⟩ (by simp) rfl 5 rfl)
      have d5 : a'.tmps[9]?.getD undef = .slice ax n6 cx := Array.getD_eq_getD_getElem?.symm.trans (hdep ⟨5, .data⟩ (by simp) rfl 9 rfl)
      clear hdep
      have hW := hGd.at2 (hup 1 (by kernel_rfl)) hli
      rw [hW]
      refine .inl ⟨.slice a6 n6 c6, W2, ?_, (by unfold StR; simp), rfl⟩
      simp only [execOp, resolve, invoke, builtin, Sem.run_bind, Sem.run_pure, Result.andThen_ok, List.map_toArray, List.map_cons, List.map_nil, Act.eval, Array.getD_eq_getD_getElem?, d1, d5, r6]
    · clear hdep
      refine .inl ⟨_, W, ?_, StR.same (by decide) (by decide) (by decide), rfl⟩
      go_simp
    · have d7 : a'.tmps[11]?.getD undef = .pointer (some ⟨B, 0, none⟩) := Array.getD_eq_getD_getElem?.symm.trans (hdep ⟨7, .data⟩ (by simp) rfl 11 rfl)
      clear hdep
      refine .inl ⟨_, W, ?_, StR.same (by decide) (by decide) (by decide), rfl⟩
      go_simp
    · have d8 : a'.tmps[12]?.getD undef = .pointer (some ⟨B, 0, none⟩) := Array.getD_eq_getD_getElem?.symm.trans (hdep ⟨8, .data⟩ (by simp) rfl 12 rfl)
      clear hdep
      refine .inl ⟨_, W, ?_, StR.same (by decide) (by decide) (by decide), rfl⟩
      go_simp
    · have d9 : a'.tmps[13]?.getD undef = .pointer (some ⟨B, 1, none⟩) := Array.getD_eq_getD_getElem?.symm.trans (hdep ⟨9, .data⟩ (by simp) rfl 13 rfl)
      clear hdep
      refine .inl ⟨_, W, ?_, StR.same (by decide) (by decide) (by decide), rfl⟩
      go_simp
    · have d6 : a'.tmps[10]?.getD undef = .slice a6 n6 c6 := Array.getD_eq_getD_getElem?.symm.trans (hdep ⟨6, .data⟩ (by simp) rfl 10 rfl)
      have d10 : a'.tmps[14]?.getD undef = .slice ay ny cy := Array.getD_eq_getD_getElem?.symm.trans (hdep ⟨10, .data⟩ (by simp) rfl 14 rfl)
      clear hdep
      have hW := hGd.at3 (hup 6 (by kernel_rfl)) hli
      rw [hW]
      refine .inl ⟨.slice a7 n7 c7, W3, ?_, (by unfold StR; simp), rfl⟩
      simp only [execOp, resolve, invoke, builtin, Sem.run_bind, Sem.run_pure, Result.andThen_ok, List.map_toArray, List.map_cons, List.map_nil, Act.eval, Array.getD_eq_getD_getElem?, d6, d10, r7]
  · intro listed W hle hGd
    have hW3 : W = W3 := by
      rw [hGd.eq, hle]
      rfl
    subst hW3
    subst hle
    simp only [List.take_succ_cons, List.take_zero, List.map_cons, List.map_nil, VQ, StV, List.getD_cons_zero, List.getD_cons_succ]
    rintro _ rfl _ rfl _ rfl _ rfl _ rfl _ rfl _ rfl _ rfl _ rfl _ rfl _ rfl _ rfl
    simp only [List.setIfInBounds_toArray, List.set_cons_zero, List.set_cons_succ, List.length_cons, List.length_nil, Nat.reduceAdd, Nat.reduceSub, ledList, List.replicate, List.cons_append, List.nil_append]
    clear hGd r6 r7 hc0 hc1 hb0 hb1 hb2 hb3 hW1 hw0
    refine wpAny_ready (rs := [12]) (by kernel_rfl) (by simp) (AllReady.cons rfl (fun K hK => ?_) AllReady.nil)
    simp only [List.getElem_toArray, List.getElem_cons_succ, List.getElem_cons_zero]
    rw [if_pos (show Region.wanted _ _ = true from rfl)]
    have HK := Lib.hid hK
    clear hK
    go_wp2_with fail
    refine HK.out _ _ ?_
    clear HK K
    refine wpAny_ready (rs := [13]) (by kernel_rfl) (by simp) (AllReady.cons rfl (fun K hK => ?_) AllReady.nil)
    simp only [List.getElem_toArray, List.getElem_cons_succ, List.getElem_cons_zero]
    rw [if_pos (show Region.wanted _ _ = true from rfl)]
    have HK := Lib.hid hK
    clear hK
    go_wp2_with fail
    refine HK.out _ _ ?_
    clear HK K
    refine wpAny_ready (rs := [14]) (by kernel_rfl) (by simp) (AllReady.cons rfl (fun K hK => ?_) AllReady.nil)
    simp only [List.getElem_toArray, List.getElem_cons_succ, List.getElem_cons_zero]
    rw [if_pos (show Region.wanted _ _ = true from rfl)]
    have HK := Lib.hid hK
    clear hK
    go_wp2_with fail
    refine HK.out _ _ ?_
    clear HK K
    refine wpAny_done (by kernel_rfl) ?_ _
    simp only [Exit.then]
    go_at_K
    go_wp2
    exact Go.Great.bodyPost_end0 rfl rfl ⟨rfl, fin.out⟩

set_option maxRecDepth 100000 in
set_option maxHeartbeats 4000000 in
theorem rread40 {base B : Nat} {x y : Value} {X Y : List Nat} (w : World) (h : RD base w B x y X Y) :
    Calls Tryz.prog 40 #[.pointer (some ⟨B, 0, none⟩)] w fun e w' => ∃ v', e = .returned v' ∧ w'.ownsRow w.heap.size 5 1 v' (X ++ Y).length (bc (X ++ Y)) ∧ Below w.heap.size w w' := by
  obtain ⟨ax, cx, rfl, -, -⟩ := own_slice h.ox
  obtain ⟨ay, cy, rfl, -, -⟩ := own_slice h.oy
  have H := Lib.hid h
  obtain ⟨w0, hw0⟩ : ∃ w0, w.drew = w0 := ⟨_, rfl⟩
  have hz0 : Hid (w0.heap.size = w.heap.size) := Lib.hid (by rw [← hw0]; rfl)
  have hb0 : Below w.heap.size w w0 := by rw [← hw0]; exact ⟨rfl, rfl, rfl, Nat.le_refl _, fun _ _ => rfl⟩
  have h0 := h.low hb0
  have hl : X.length ≤ 4194304 ∧ Y.length ≤ 4194304 ∧ X.length + Y.length ≤ 10000000 := by have := h.ml; omega
  obtain ⟨v6, W2, v7, W3, r6, r7, ho, hb2, hb3, ho6⟩ := app2 (own_SlB h0.ox (by omega)).1 (own_SlB h0.oy (by omega)).1 hl.2.2
  obtain ⟨W1, hW1⟩ : ∃ W1, w0.alloc (.cells #[] 5) = W1 := ⟨_, rfl⟩
  have hb1 : Below w.heap.size w W1 := by rw [← hW1]; exact hb0.trans ((Below.refl _ w0).alloc (by rw [hz0.out]; exact Nat.le_refl _) _)
  replace hb2 : Below w.heap.size w W2 := hb0.trans (hb2.mono (by rw [hz0.out]; exact Nat.le_refl _))
  replace hb3 : Below w.heap.size w W3 := hb0.trans (hb3.mono (by rw [hz0.out]; exact Nat.le_refl _))
  rw [hW1] at r6
  have hc0 : Hid (∀ W, Below w.heap.size w W → W.cell? ⟨B, 0, none⟩ = some (.slice ax X.length cx)) := Lib.hid (fun W hb => keep_cell hb h.bx.c0)
  have hc1 : Hid (∀ W, Below w.heap.size w W → W.cell? ⟨B, 1, none⟩ = some (.slice ay Y.length cy)) := Lib.hid (fun W hb => keep_cell hb h.bx.c1)
  have fin : Hid (W3.ownsRow w.heap.size 5 1 v7 (X ++ Y).length (bc (X ++ Y)) ∧ Below w.heap.size w W3) := Lib.hid ⟨by rw [← hz0.out]; exact ho, hb3⟩
  obtain ⟨a6, c6, rfl, -, -⟩ := own_slice ho6
  obtain ⟨a7, c7, rfl, -, -⟩ := own_slice ho
  obtain ⟨n7, hn7⟩ : ∃ n, (X ++ Y).length = n := ⟨_, rfl⟩
  obtain ⟨nx, hnx⟩ : ∃ n, X.length = n := ⟨_, rfl⟩
  obtain ⟨ny, hny⟩ : ∃ n, Y.length = n := ⟨_, rfl⟩
  obtain ⟨n6, hn6⟩ : ∃ n, X.length = n := ⟨_, rfl⟩
  rw [hn7] at r7 fin ⊢
  rw [hn6, hny] at r7
  have e6 : n6 = nx := by rw [← hn6, ← hnx]
  subst e6
  rw [hnx] at r6 hc0
  rw [hny] at hc1
  clear ho ho6 h h0 hl hn7 hnx hny hn6 H hz0
  go_enter Tryz.func40, Tryz.ntmps40
  go_wp2_with fail
  refine wp_region_valsA 11 (StV [.slice (some ⟨w0.heap.size, 0, none⟩) 0 0, .pointer (some ⟨B, 0, none⟩), .pointer (some ⟨B, 0, none⟩), .pointer (some ⟨B, 0, none⟩), .slice ax n6 cx, .slice a6 n6 c6, .pointer (some ⟨B, 0, none⟩), .pointer (some ⟨B, 0, none⟩), .pointer (some ⟨B, 1, none⟩), .slice ay ny cy, .slice a7 n7 c7]) (StR 0 5 10 W1 W2 W3) (StG 0 5 10 w0 W1 W2 W3) (by kernel_rfl) (by kernel_rfl) ?_ ?_ ?_ ?_ ?_
  · rw [hw0]
    have n1 : ∀ n i, isIn (Array.replicate n false) i = false := fun n i => getD_replicate_false _ _
    exact ⟨by simp [n1], by simp [n1], by simp [n1]⟩
  · intro listed j W W' hsz hj hli hup hg hR
    refine hg.step (by decide) (by decide) (by rw [hsz]; simp only [List.length_cons, List.length_nil]; omega) hli (fun e => hup 0 (by subst e; kernel_rfl)) (fun e => hup 5 (by subst e; kernel_rfl)) hR
  · intro listed i j v W W' _ _ _ _ _ hv _ _
    exact hv
  · simp only [List.take_succ_cons, List.take_zero]
    intro i o ho listed a' W hli hup hGd hfr hdep
    have f0 : a'.tmps[0]?.getD undef = .pointer (some ⟨B, 0, none⟩) := Array.getD_eq_getD_getElem?.symm.trans (hfr 0 rfl)
    have hbW := hGd.below hb0 hb1 hb2 hb3
    have q0 := hc0.out W hbW
    have q1 := hc1.out W hbW
    clear hfr
    have hi : i < 11 := by have := (List.getElem?_eq_some_iff.1 ho).1; simpa using this
    obtain rfl | rfl | rfl | rfl | rfl | rfl | rfl | rfl | rfl | rfl | rfl : i = 0 ∨ i = 1 ∨ i = 2 ∨ i = 3 ∨ i = 4 ∨ i = 5 ∨ i = 6 ∨ i = 7 ∨ i = 8 ∨ i = 9 ∨ i = 10 := by omega
    all_goals simp only [List.getElem?_cons_zero, List.getElem?_cons_succ, Option.some.injEq] at ho
    all_goals subst ho
    · clear hdep
      have hW := hGd.at1 hli
      rw [hW]
      refine .inl ⟨.slice (some ⟨w0.heap.size, 0, none⟩) 0 0, W1, ?_, (by unfold StR; simp), rfl⟩
      rw [← hW1]
      go_simp
    · clear hdep
      refine .inl ⟨_, W, ?_, StR.same (by decide) (by decide) (by decide), rfl⟩
      go_simp
    · have d1 : a'.tmps[6]?.getD undef = .pointer (some ⟨B, 0, none⟩) := Array.getD_eq_getD_getElem?.symm.trans (hdep ⟨1, .data⟩ (by simp) rfl 6 rfl)
      clear hdep
      refine .inl ⟨_, W, ?_, StR.same (by decide) (by decide) (by decide), rfl⟩
      go_simp
    · have d2 : a'.tmps[7]?.getD undef = .pointer (some ⟨B, 0, none⟩) := Array.getD_eq_getD_getElem?.symm.trans (hdep ⟨2, .data⟩ (by simp) rfl 7 rfl)
      clear hdep
      refine .inl ⟨_, W, ?_, StR.same (by decide) (by decide) (by decide), rfl⟩
      go_simp
    · have d3 : a'.tmps[8]?.getD undef = .pointer (some ⟨B, 0, none⟩) := Array.getD_eq_getD_getElem?.symm.trans (hdep ⟨3, .data⟩ (by simp) rfl 8 rfl)
      clear hdep
      refine .inl ⟨_, W, ?_, StR.same (by decide) (by decide) (by decide), rfl⟩
      go_simp
    · have d0 : a'.tmps[5]?.getD undef = .slice (some ⟨w0.heap.size, 0, none⟩) 0 0 := Array.getD_eq_getD_getElem?.symm.trans (hdep ⟨0, .data⟩ (by simp) rfl 5 rfl)
      have d4 : a'.tmps[9]?.getD undef = .slice ax n6 cx := Array.getD_eq_getD_getElem?.symm.trans (hdep ⟨4, .data⟩ (by simp) rfl 9 rfl)
      clear hdep
      have hW := hGd.at2 (hup 0 (by kernel_rfl)) hli
      rw [hW]
      refine .inl ⟨.slice a6 n6 c6, W2, ?_, (by unfold StR; simp), rfl⟩
      simp only [execOp, resolve, invoke, builtin, Sem.run_bind, Sem.run_pure, Result.andThen_ok, List.map_toArray, List.map_cons, List.map_nil, Act.eval, Array.getD_eq_getD_getElem?, d0, d4, r6]
    · clear hdep
      refine .inl ⟨_, W, ?_, StR.same (by decide) (by decide) (by decide), rfl⟩
      go_simp
    · have d6 : a'.tmps[11]?.getD undef = .pointer (some ⟨B, 0, none⟩) := Array.getD_eq_getD_getElem?.symm.trans (hdep ⟨6, .data⟩ (by simp) rfl 11 rfl)
      clear hdep
      refine .inl ⟨_, W, ?_, StR.same (by decide) (by decide) (by decide), rfl⟩
      go_simp
    · have d7 : a'.tmps[12]?.getD undef = .pointer (some ⟨B, 0, none⟩) := Array.getD_eq_getD_getElem?.symm.trans (hdep ⟨7, .data⟩ (by simp) rfl 12 rfl)
      clear hdep
      refine .inl ⟨_, W, ?_, StR.same (by decide) (by decide) (by decide), rfl⟩
      go_simp
    · have d8 : a'.tmps[13]?.getD undef = .pointer (some ⟨B, 1, none⟩) := Array.getD_eq_getD_getElem?.symm.trans (hdep ⟨8, .data⟩ (by simp) rfl 13 rfl)
      clear hdep
      refine .inl ⟨_, W, ?_, StR.same (by decide) (by decide) (by decide), rfl⟩
      go_simp
    · have d5 : a'.tmps[10]?.getD undef = .slice a6 n6 c6 := Array.getD_eq_getD_getElem?.symm.trans (hdep ⟨5, .data⟩ (by simp) rfl 10 rfl)
      have d9 : a'.tmps[14]?.getD undef = .slice ay ny cy := Array.getD_eq_getD_getElem?.symm.trans (hdep ⟨9, .data⟩ (by simp) rfl 14 rfl)
      clear hdep
      have hW := hGd.at3 (hup 5 (by kernel_rfl)) hli
      rw [hW]
      refine .inl ⟨.slice a7 n7 c7, W3, ?_, (by unfold StR; simp), rfl⟩
      simp only [execOp, resolve, invoke, builtin, Sem.run_bind, Sem.run_pure, Result.andThen_ok, List.map_toArray, List.map_cons, List.map_nil, Act.eval, Array.getD_eq_getD_getElem?, d5, d9, r7]
  · intro listed W hle hGd
    have hW3 : W = W3 := by
      rw [hGd.eq, hle]
      rfl
    subst hW3
    subst hle
    simp only [List.take_succ_cons, List.take_zero, List.map_cons, List.map_nil, VQ, StV, List.getD_cons_zero, List.getD_cons_succ]
    rintro _ rfl _ rfl _ rfl _ rfl _ rfl _ rfl _ rfl _ rfl _ rfl _ rfl _ rfl
    simp only [List.setIfInBounds_toArray, List.set_cons_zero, List.set_cons_succ, List.length_cons, List.length_nil, Nat.reduceAdd, Nat.reduceSub, ledList, List.replicate, List.cons_append, List.nil_append]
    clear hGd r6 r7 hc0 hc1 hb0 hb1 hb2 hb3 hW1 hw0
    refine wpAny_ready (rs := [11]) (by kernel_rfl) (by simp) (AllReady.cons rfl (fun K hK => ?_) AllReady.nil)
    simp only [List.getElem_toArray, List.getElem_cons_succ, List.getElem_cons_zero]
    rw [if_pos (show Region.wanted _ _ = true from rfl)]
    have HK := Lib.hid hK
    clear hK
    go_wp2_with fail
    refine HK.out _ _ ?_
    clear HK K
    refine wpAny_done (by kernel_rfl) ?_ _
    simp only [Exit.then]
    go_at_K
    go_wp2
    go_ret
    exact ⟨_, rfl, fin.out⟩

end Go.Proofs.YtcgmmfcphfkdhaaGreat
