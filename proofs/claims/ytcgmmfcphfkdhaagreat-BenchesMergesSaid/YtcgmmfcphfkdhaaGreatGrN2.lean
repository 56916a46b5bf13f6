/- The abstract machine, part GrN2. -/
import Derived.Test.YtcgmmfcphfkdhaaGreatGrN1
/- Comparing gauges, marks and sights. -/
namespace Go.Proofs.YtcgmmfcphfkdhaaGreat
open Go Go.RowKit Go.Proofs

set_option maxRecDepth 100000 in
set_option maxHeartbeats 4000000 in
theorem neq102 (a0 a1 a2 a3 a4 b0 b1 b2 b3 b4 : Int) : ∀ w, (binOp .neq 102 (.agg #[.int .i64 a0, .int .i64 a1, .int .i64 a2, .int .i64 a3, .int .i64 a4]) (.agg #[.int .i64 b0, .int .i64 b1, .int .i64 b2, .int .i64 b3, .int .i64 b4])).run Tryz.prog w = .ok (.bool (!(a0 == b0 && a1 == b1 && a2 == b2 && a3 == b3 && a4 == b4))) w := by
 intro w
 by_cases h0 : a0 = b0
 ·by_cases h1 : a1 = b1
  ·by_cases h2 : a2 = b2
   ·by_cases h3 : a3 = b3
    ·by_cases h4 : a4 = b4
     ·subst h0 h1 h2 h3 h4
      go_simp
     ·subst h0 h1 h2 h3
      go_simp
    ·subst h0 h1 h2
     go_simp
   ·subst h0 h1
    go_simp
  ·subst h0
   go_simp
 ·go_simp

set_option maxRecDepth 100000 in
set_option maxHeartbeats 4000000 in
theorem neq198 (a0 a1 a2 b0 b1 b2 : Int) : ∀ w, (binOp .neq 198 (.agg #[.int .i64 a0, .int .i64 a1, .int .i64 a2]) (.agg #[.int .i64 b0, .int .i64 b1, .int .i64 b2])).run Tryz.prog w = .ok (.bool (!(a0 == b0 && a1 == b1 && a2 == b2))) w := by
 intro w
 by_cases h0 : a0 = b0
 ·by_cases h1 : a1 = b1
  ·by_cases h2 : a2 = b2
   ·subst h0 h1 h2
    go_simp
   ·subst h0 h1
    go_simp
  ·subst h0
   go_simp
 ·go_simp

set_option maxRecDepth 100000 in
set_option maxHeartbeats 4000000 in
theorem neq194 (a0 a1 a2 a3 a4 a5 a6 a7 b0 b1 b2 b3 b4 b5 b6 b7 : Int) : ∀ w, (binOp .neq 194 (.agg #[.int .i64 a0, .int .i64 a1, .int .i64 a2, .int .i64 a3, .int .i64 a4, .int .i64 a5, .int .i64 a6, .int .i64 a7]) (.agg #[.int .i64 b0, .int .i64 b1, .int .i64 b2, .int .i64 b3, .int .i64 b4, .int .i64 b5, .int .i64 b6, .int .i64 b7])).run Tryz.prog w = .ok (.bool (!(a0 == b0 && a1 == b1 && a2 == b2 && a3 == b3 && a4 == b4 && a5 == b5 && a6 == b6 && a7 == b7))) w := by
 intro w
 by_cases h0 : a0 = b0
 ·by_cases h1 : a1 = b1
  ·by_cases h2 : a2 = b2
   ·by_cases h3 : a3 = b3
    ·by_cases h4 : a4 = b4
     ·by_cases h5 : a5 = b5
      ·by_cases h6 : a6 = b6
       ·by_cases h7 : a7 = b7
        ·subst h0 h1 h2 h3 h4 h5 h6 h7
         go_simp
        ·subst h0 h1 h2 h3 h4 h5 h6
         go_simp
       ·subst h0 h1 h2 h3 h4 h5
        go_simp
      ·subst h0 h1 h2 h3 h4
       go_simp
     ·subst h0 h1 h2 h3
      go_simp
    ·subst h0 h1 h2
     go_simp
   ·subst h0 h1
    go_simp
  ·subst h0
   go_simp
 ·go_simp

end Go.Proofs.YtcgmmfcphfkdhaaGreat

/- Walks: equal pieces. -/
namespace Go.Proofs.YtcgmmfcphfkdhaaGreat
open Go Go.RowKit Go.Proofs

theorem gz_eq {G H : List G5} (hl : G.length = H.length) (h : ∀ j, j < G.length → gz G j = gz H j) : G = H :=
 List.ext_getElem hl fun i h1 h2 => by
  have := h i h1
  unfold gz at this
  rw [List.getD_eq_getElem?_getD, List.getD_eq_getElem?_getD, List.getElem?_eq_getElem h1, List.getElem?_eq_getElem h2] at this
  exact this
theorem mq_eq {G H : List M3} (hl : G.length = H.length) (h : ∀ j, j < G.length → mq G j = mq H j) : G = H :=
 List.ext_getElem hl fun i h1 h2 => by
  have := h i h1
  unfold mq at this
  rw [List.getD_eq_getElem?_getD, List.getD_eq_getElem?_getD, List.getElem?_eq_getElem h1, List.getElem?_eq_getElem h2] at this
  exact this

abbrev pA (x0 x1 x2 x3 x4 : Int) (vg vm : Value) : Array Value := #[.int .i64 x0, .int .i64 x1, .int .i64 x2, .int .i64 x3, .int .i64 x4, vg, vm]

set_option maxRecDepth 100000 in
set_option maxHeartbeats 4000000 in
theorem samePiece_head (x0 x1 x2 x3 x4 y0 y1 y2 y3 y4 : Int) (a b a' b' : Option Addr) (nG nM nG' nM' c d c' d' : Nat) (h : ¬ (x0 = y0 ∧ x1 = y1 ∧ x2 = y2 ∧ x3 = y3 ∧ x4 = y4 ∧ nG = nG' ∧ nM = nM')) (w : World) :
  Calls Tryz.prog 146 #[.agg (pA x0 x1 x2 x3 x4 (.slice a nG c) (.slice b nM d)), .agg (pA y0 y1 y2 y3 y4 (.slice a' nG' c') (.slice b' nM' d'))] w fun e w' => e = .returned (.bool false) ∧ Below w.heap.size w w' := by
 have b0 : Below w.heap.size w ((w.alloc (.cells (pA x0 x1 x2 x3 x4 (.slice a nG c) (.slice b nM d)) 106)).alloc (.cells (pA y0 y1 y2 y3 y4 (.slice a' nG' c') (.slice b' nM' d')) 106)) := ((Below.refl _ _).alloc (Nat.le_refl _) _).alloc (by simp) _
 by_cases h0 : x0 = y0
 ·subst h0
  by_cases h1 : x1 = y1
  ·subst h1
   by_cases h2 : x2 = y2
   ·subst h2
    by_cases h3 : x3 = y3
    ·subst h3
     by_cases h4 : x4 = y4
     ·subst h4
      by_cases h5 : nG = nG'
      ·subst h5
       have h6 : ¬ (nM : Int) = (nM' : Int) := fun e => h ⟨rfl, rfl, rfl, rfl, rfl, rfl, by omega⟩
       clear h
       go_enter Tryz.func146, Tryz.ntmps146
       go_wp2
       go_ret
       exact ⟨rfl, b0⟩
      ·have h6 : ¬ (nG : Int) = (nG' : Int) := by omega
       clear h
       go_enter Tryz.func146, Tryz.ntmps146
       go_wp2
       go_ret
       exact ⟨rfl, b0⟩
     ·clear h
      go_enter Tryz.func146, Tryz.ntmps146
      go_wp2
      go_ret
      exact ⟨rfl, b0⟩
    ·clear h
     go_enter Tryz.func146, Tryz.ntmps146
     go_wp2
     go_ret
     exact ⟨rfl, b0⟩
   ·clear h
    go_enter Tryz.func146, Tryz.ntmps146
    go_wp2
    go_ret
    exact ⟨rfl, b0⟩
  ·clear h
   go_enter Tryz.func146, Tryz.ntmps146
   go_wp2
   go_ret
   exact ⟨rfl, b0⟩
 ·clear h
  go_enter Tryz.func146, Tryz.ntmps146
  go_wp2
  go_ret
  exact ⟨rfl, b0⟩

set_option maxRecDepth 100000 in
set_option maxHeartbeats 4000000 in
theorem samePiece_body (x0 x1 x2 x3 x4 : Int) (vg vm ug um : Value) (G G' : List G5) (M M' : List M3) (hlG : G.length = G'.length) (hlM : M.length = M'.length) (w : World) (hg : SlG w vg G) (hm : SlM w vm M) (hg' : SlG w ug G') (hm' : SlM w um M') :
  Calls Tryz.prog 146 #[.agg (pA x0 x1 x2 x3 x4 vg vm), .agg (pA x0 x1 x2 x3 x4 ug um)] w fun e w' => Say e (G = G' ∧ M = M') ∧ Below w.heap.size w w' := by
 obtain ⟨a, c, rfl, hl, hc⟩ := hg
 obtain ⟨b, d, rfl, hl2, hd⟩ := hm
 obtain ⟨a', c', rfl, -, hc'⟩ := hg'
 obtain ⟨b', d', rfl, -, hd'⟩ := hm'
 have HC := Lib.hid hc
 have HC' := Lib.hid hc'
 have HD := Lib.hid hd
 have HD' := Lib.hid hd'
 clear hc hc' hd hd'
 have NG : Hid (∀ q, q < G.length → gz G q ≠ gz G' q → ¬ (G = G' ∧ M = M')) := Lib.hid fun q _ h e => h (by rw [e.1])
 have NM : Hid (∀ q, q < M.length → mq M q ≠ mq M' q → ¬ (G = G' ∧ M = M')) := Lib.hid fun q _ h e => h (by rw [e.2])
 have YY : Hid ((∀ j, j < G.length → gz G j = gz G' j) → (∀ j, j < M.length → mq M j = mq M' j) → G = G' ∧ M = M') := Lib.hid fun h k => ⟨gz_eq hlG h, mq_eq hlM k⟩
 generalize (G = G' ∧ M = M') = RR at NG NM YY ⊢
 rw [← hlG] at HC' ⊢
 rw [← hlM] at HD' ⊢
 obtain ⟨n, hn⟩ : ∃ n, G.length = n := ⟨_, rfl⟩
 obtain ⟨m, hm⟩ : ∃ m, M.length = m := ⟨_, rfl⟩
 rw [hn] at HC HC' NG YY hl ⊢
 rw [hm] at HD HD' NM YY hl2 ⊢
 clear hn hm hlG hlM
 have b0 : Below w.heap.size w ((w.alloc (.cells (pA x0 x1 x2 x3 x4 (.slice a n c) (.slice b m d)) 106)).alloc (.cells (pA x0 x1 x2 x3 x4 (.slice a' n c') (.slice b' m d')) 106)) := ((Below.refl _ _).alloc (Nat.le_refl _) _).alloc (by simp) _
 have n1 := (NB.new w (pA x0 x1 x2 x3 x4 (.slice a n c) (.slice b m d)) 106).alloc (.cells (pA x0 x1 x2 x3 x4 (.slice a' n c') (.slice b' m d')) 106)
 have n2 := nb1 w (.cells (pA x0 x1 x2 x3 x4 (.slice a n c) (.slice b m d)) 106) (pA x0 x1 x2 x3 x4 (.slice a' n c') (.slice b' m d')) 106
 have f1 := n1.c (k := 5) (v := .slice a n c) rfl
 have f2 := n1.c (k := 6) (v := .slice b m d) rfl
 have f3 := n2.c (k := 5) (v := .slice a' n c') rfl
 have f4 := n2.c (k := 6) (v := .slice b' m d') rfl
 obtain ⟨W, hW⟩ : ∃ W, (w.alloc (.cells (pA x0 x1 x2 x3 x4 (.slice a n c) (.slice b m d)) 106)).alloc (.cells (pA x0 x1 x2 x3 x4 (.slice a' n c') (.slice b' m d')) 106) = W := ⟨_, rfl⟩
 rw [hW] at b0 f1 f2 f3 f4
 have F1 := Lib.hid f1
 have F2 := Lib.hid f2
 have F3 := Lib.hid f3
 have F4 := Lib.hid f4
 have B0 := Lib.hid b0
 have HW := Lib.hid hW
 clear n1 n2 f1 f2 f3 f4 b0 hW
 go_enter Tryz.func146, Tryz.ntmps146
 go_wp2_with fail
 rw [HW.out]
 clear HW
 go_loopw [5] (fun i wr => ∃ q : Nat, q ≤ n ∧ i = .int .i64 q ∧ Hid (Below W.heap.size W wr) ∧ ∀ j, j < q → gz G j = gz G' j) (fun i _ => n - (intOf i).toNat)
 case atStart => exact ⟨0, Nat.zero_le _, rfl, Lib.hid (Below.refl _ _), by simp⟩
 case round =>
  obtain ⟨q, hq, rfl, hbel, hall⟩ := hrel
  have HL := Lib.hid hall
  clear hall
  have f1 := keep_cell hbel.out F1.out
  have f3 := keep_cell hbel.out F3.out
  have HB := Lib.hid (B0.out.trans (hbel.out.mono B0.out.size))
  by_cases hlt : q < n
  ·obtain ⟨o, s, rfl, c0, c1, c2, c3, c4⟩ := HC.out q hlt
   obtain ⟨o', s', rfl, e0, e1, e2, e3, e4⟩ := HC'.out q hlt
   replace c0 := keep_cell HB.out c0
   replace c1 := keep_cell HB.out c1
   replace c2 := keep_cell HB.out c2
   replace c3 := keep_cell HB.out c3
   replace c4 := keep_cell HB.out c4
   replace e0 := keep_cell HB.out e0
   replace e1 := keep_cell HB.out e1
   replace e2 := keep_cell HB.out e2
   replace e3 := keep_cell HB.out e3
   replace e4 := keep_cell HB.out e4
   have j1 : (q : Int) < (n : Int) := by omega
   have j2 : wrap64 ((q : Int) + 1) = (q : Int) + 1 := w64 _ (by omega)
   have HN := Lib.hid (NG.out q hlt)
   obtain ⟨x, hx⟩ : ∃ x, gz G q = x := ⟨_, rfl⟩
   obtain ⟨y, hy⟩ : ∃ y, gz G' q = y := ⟨_, rfl⟩
   rw [hx] at c0 c1 c2 c3 c4 HN
   rw [hy] at e0 e1 e2 e3 e4 HN
   have HXY : Hid (x = y → gz G q = gz G' q) := Lib.hid fun e => by rw [hx, hy, e]
   obtain ⟨p0, p1, p2, p3, p4⟩ := x
   obtain ⟨r0, r1, r2, r3, r4⟩ := y
   simp only at c0 c1 c2 c3 c4 e0 e1 e2 e3 e4
   clear hx hy
   have hq := neq102 p0 p1 p2 p3 p4 r0 r1 r2 r3 r4
   by_cases hE : (p0 = r0 ∧ p1 = r1 ∧ p2 = r2 ∧ p3 = r3 ∧ p4 = r4)
   ·obtain ⟨rfl, rfl, rfl, rfl, rfl⟩ := hE
    simp only [BEq.rfl, Bool.and_self, Bool.not_true] at hq
    go_wp2_with fail
    go_quiet (fail)
    clear hq
    go_wp2
    refine ⟨⟨q + 1, hlt, by simp, Lib.hid (below_drewN hbel.out _), fun j hj => ?_⟩, by simp [intOf]; omega⟩
    rcases Nat.lt_or_ge j q with h | h
    ·exact HL.out j h
    ·obtain rfl : j = q := by omega
     exact HXY.out (by simp)
   ·have hq2 : (!(p0 == r0 && p1 == r1 && p2 == r2 && p3 == r3 && p4 == r4)) = true := by
     rw [Bool.not_eq_true', Bool.eq_false_iff]
     intro h
     simp only [Bool.and_eq_true, beq_iff_eq] at h
     exact hE ⟨h.1.1.1.1, h.1.1.1.2, h.1.1.2, h.1.2, h.2⟩
    rw [hq2] at hq
    have hne := Lib.hid (HN.out (by intro e; simp only [G5.mk.injEq] at e; exact hE e))
    clear hq2 hE
    go_wp2_with fail
    go_quiet (fail)
    clear hq
    go_wp2
    go_ret
    exact ⟨say_no hne.out, below_drewN HB.out _⟩
  ·have j1 : ¬ (q : Int) < (n : Int) := by omega
   have HG : Hid (∀ j, j < n → gz G j = gz G' j) := Lib.hid fun j hj => HL.out j (by omega)
   clear HL HC HC' NG hlt f3
   have BQ := Lib.hid hbel.out
   clear hbel HB
   go_wp2_with fail
   go_loopw [6] (fun i wr => ∃ q : Nat, q ≤ m ∧ i = .int .i64 q ∧ Hid (Below W.heap.size W wr) ∧ ∀ j, j < q → mq M j = mq M' j) (fun i _ => m - (intOf i).toNat)
   case atStart => exact ⟨0, Nat.zero_le _, rfl, Lib.hid BQ.out, by simp⟩
   case round =>
    obtain ⟨k, hk, rfl, hbel, hall⟩ := hrel
    have HL := Lib.hid hall
    clear hall
    have f2 := keep_cell hbel.out F2.out
    have f4 := keep_cell hbel.out F4.out
    have HB := Lib.hid (B0.out.trans (hbel.out.mono B0.out.size))
    by_cases hlt : k < m
    ·obtain ⟨o, s, rfl, c0, c1, c2⟩ := HD.out k hlt
     obtain ⟨o', s', rfl, e0, e1, e2⟩ := HD'.out k hlt
     replace c0 := keep_cell HB.out c0
     replace c1 := keep_cell HB.out c1
     replace c2 := keep_cell HB.out c2
     replace e0 := keep_cell HB.out e0
     replace e1 := keep_cell HB.out e1
     replace e2 := keep_cell HB.out e2
     have j3 : (k : Int) < (m : Int) := by omega
     have j2 : wrap64 ((k : Int) + 1) = (k : Int) + 1 := w64 _ (by omega)
     have HN := Lib.hid (NM.out k hlt)
     obtain ⟨x, hx⟩ : ∃ x, mq M k = x := ⟨_, rfl⟩
     obtain ⟨y, hy⟩ : ∃ y, mq M' k = y := ⟨_, rfl⟩
     rw [hx] at c0 c1 c2 HN
     rw [hy] at e0 e1 e2 HN
     have HXY : Hid (x = y → mq M k = mq M' k) := Lib.hid fun e => by rw [hx, hy, e]
     obtain ⟨p0, p1, p2⟩ := x
     obtain ⟨r0, r1, r2⟩ := y
     simp only at c0 c1 c2 e0 e1 e2
     clear hx hy
     have hq := neq198 p0 p1 p2 r0 r1 r2
     by_cases hE : (p0 = r0 ∧ p1 = r1 ∧ p2 = r2)
     ·obtain ⟨rfl, rfl, rfl⟩ := hE
      simp only [BEq.rfl, Bool.and_self, Bool.not_true] at hq
      go_wp2_with fail
      go_quiet (fail)
      clear hq
      go_wp2
      refine ⟨⟨k + 1, hlt, by simp, Lib.hid (below_drewN hbel.out _), fun j hj => ?_⟩, by simp [intOf]; omega⟩
      rcases Nat.lt_or_ge j k with h | h
      ·exact HL.out j h
      ·obtain rfl : j = k := by omega
       exact HXY.out (by simp)
     ·have hq2 : (!(p0 == r0 && p1 == r1 && p2 == r2)) = true := by
       rw [Bool.not_eq_true', Bool.eq_false_iff]
       intro h
       simp only [Bool.and_eq_true, beq_iff_eq] at h
       exact hE ⟨h.1.1, h.1.2, h.2⟩
      rw [hq2] at hq
      have hne := Lib.hid (HN.out (by intro e; simp only [M3.mk.injEq] at e; exact hE e))
      clear hq2 hE
      go_wp2_with fail
      go_quiet (fail)
      clear hq
      go_wp2
      go_ret
      exact ⟨say_no hne.out, below_drewN HB.out _⟩
    ·have j3 : ¬ (k : Int) < (m : Int) := by omega
     go_wp2
     go_ret
     exact ⟨say_yes (YY.out HG.out (fun j hj => HL.out j (by omega))), HB.out⟩

theorem samePiece_any (p r : Pc) (vg vm ug um : Value) (w : World) (hg : SlG w vg p.G) (hm : SlM w vm p.M) (hg' : SlG w ug r.G) (hm' : SlM w um r.M) :
  Calls Tryz.prog 146 #[.agg (pA p.id p.c p.r p.m p.s vg vm), .agg (pA r.id r.c r.r r.m r.s ug um)] w fun e w' => Say e (p = r) ∧ Below w.heap.size w w' := by
 obtain ⟨x0, x1, x2, x3, x4, G, M⟩ := p
 obtain ⟨y0, y1, y2, y3, y4, G', M'⟩ := r
 simp only at hg hm hg' hm' ⊢
 by_cases h : (x0 = y0 ∧ x1 = y1 ∧ x2 = y2 ∧ x3 = y3 ∧ x4 = y4 ∧ G.length = G'.length ∧ M.length = M'.length)
 ·obtain ⟨rfl, rfl, rfl, rfl, rfl, h5, h6⟩ := h
  refine (samePiece_body x0 x1 x2 x3 x4 vg vm ug um G G' M M' h5 h6 w hg hm hg' hm').mono ?_
  rintro e w1 ⟨⟨r, hr, rfl⟩, hb⟩
  exact ⟨say_is (hr.trans ⟨fun h => by rw [h.1, h.2], fun h => by simp only [Pc.mk.injEq] at h; exact h.2.2.2.2.2⟩), hb⟩
 ·obtain ⟨a, c, rfl, -⟩ := hg
  obtain ⟨b, d, rfl, -⟩ := hm
  obtain ⟨a', c', rfl, -⟩ := hg'
  obtain ⟨b', d', rfl, -⟩ := hm'
  refine (samePiece_head x0 x1 x2 x3 x4 y0 y1 y2 y3 y4 a b a' b' _ _ _ _ c d c' d' h w).mono ?_
  rintro e w1 ⟨rfl, hb⟩
  exact ⟨say_no (fun e => h (by simp only [Pc.mk.injEq] at e; obtain ⟨e0, e1, e2, e3, e4, e5, e6⟩ := e; exact ⟨e0, e1, e2, e3, e4, by rw [e5], by rw [e6]⟩)), hb⟩


end Go.Proofs.YtcgmmfcphfkdhaaGreat

/- Walks: equal lists of pieces. -/
namespace Go.Proofs.YtcgmmfcphfkdhaaGreat
open Go Go.RowKit Go.Proofs

theorem say_t {e : Ending} {R : Prop} (h : Say e R) (k : R) : e = .returned (.bool true) := by
 obtain ⟨r, hr, rfl⟩ := h
 rw [hr.2 k]
theorem say_f {e : Ending} {R : Prop} (h : Say e R) (k : ¬ R) : e = .returned (.bool false) := by
 obtain ⟨r, hr, rfl⟩ := h
 cases r
 ·rfl
 ·exact absurd (hr.1 rfl) k

theorem pz_eq {G H : List Pc} (hl : G.length = H.length) (h : ∀ j, j < G.length → pz G j = pz H j) : G = H :=
 List.ext_getElem hl fun i h1 h2 => by
  have := h i h1
  unfold pz at this
  rw [List.getD_eq_getElem?_getD, List.getD_eq_getElem?_getD, List.getElem?_eq_getElem h1, List.getElem?_eq_getElem h2] at this
  exact this

set_option maxRecDepth 100000 in
set_option maxHeartbeats 2000000 in
theorem samePieces73 (v v' : Value) (D E : List Pc) (w : World) (h : SlP w v D) (h' : SlP w v' E) :
  Calls Tryz.prog 73 #[v, v'] w fun e w' => Say e (D = E) ∧ Below w.heap.size w w' := by
 obtain ⟨a, cap, rfl, hl, hc⟩ := h
 obtain ⟨a', cap', rfl, hl', hc'⟩ := h'
 have HC := Lib.hid hc
 have HC' := Lib.hid hc'
 clear hc hc'
 by_cases hnm : D.length = E.length
 ·have HN : Hid (∀ q, q < D.length → pz D q ≠ pz E q → ¬ D = E) := Lib.hid fun q _ h e => h (by rw [e])
  have HE : Hid ((∀ j, j < D.length → pz D j = pz E j) → D = E) := Lib.hid (pz_eq hnm)
  generalize (D = E) = RR at HN HE ⊢
  obtain ⟨n, hn⟩ : ∃ n, D.length = n := ⟨_, rfl⟩
  rw [← hnm] at HC' hl' ⊢
  rw [hn] at HC HC' hl hl' HN HE ⊢
  clear hn hnm
  go_enter Tryz.func73, Tryz.ntmps73
  go_wp2_with fail
  go_loopw [5] (fun i wr => ∃ q : Nat, q ≤ n ∧ i = .int .i64 q ∧ Below w.heap.size w wr ∧ ∀ j, j < q → pz D j = pz E j) (fun i _ => n - (intOf i).toNat)
  case atStart => exact ⟨0, Nat.zero_le _, rfl, Below.refl _ _, by simp⟩
  case round =>
   obtain ⟨q, hq, rfl, hbel, hall⟩ := hrel
   have HL := Lib.hid hall
   clear hall
   by_cases hlt : q < n
   ·obtain ⟨b, off, rfl, vg, vm, hg, hm, c0, c1, c2, c3, c4, c5, c6⟩ := HC.out q hlt
    obtain ⟨b', off', rfl, ug, um, kg, km, d0, d1, d2, d3, d4, d5, d6⟩ := HC'.out q hlt
    have HN2 := Lib.hid (HN.out q hlt)
    obtain ⟨x, hx⟩ : ∃ x, pz D q = x := ⟨_, rfl⟩
    obtain ⟨y, hy⟩ : ∃ y, pz E q = y := ⟨_, rfl⟩
    have HXY : Hid (x = y → pz D q = pz E q) := Lib.hid fun e => by rw [hx, hy, e]
    rw [hx] at hg hm c0 c1 c2 c3 c4 HN2
    rw [hy] at kg km d0 d1 d2 d3 d4 HN2
    clear hx hy
    have CS := Lib.hid (fun z : Grow wr => samePiece_any x y vg vm ug um z.w ((hg.keep hbel).keep z.b) ((hm.keep hbel).keep z.b) ((kg.keep hbel).keep z.b) ((km.keep hbel).keep z.b))
    obtain ⟨x0, x1, x2, x3, x4, xG, xM⟩ := x
    obtain ⟨y0, y1, y2, y3, y4, yG, yM⟩ := y
    simp only at c0 c1 c2 c3 c4 d0 d1 d2 d3 d4
    have G0 := grow_cell (keep_cell hbel c0)
    have G1 := grow_cell (keep_cell hbel c1)
    have G2 := grow_cell (keep_cell hbel c2)
    have G3 := grow_cell (keep_cell hbel c3)
    have G4 := grow_cell (keep_cell hbel c4)
    have G5 := grow_cell (keep_cell hbel c5)
    have G6 := grow_cell (keep_cell hbel c6)
    have K0 := grow_cell (keep_cell hbel d0)
    have K1 := grow_cell (keep_cell hbel d1)
    have K2 := grow_cell (keep_cell hbel d2)
    have K3 := grow_cell (keep_cell hbel d3)
    have K4 := grow_cell (keep_cell hbel d4)
    have K5 := grow_cell (keep_cell hbel d5)
    have K6 := grow_cell (keep_cell hbel d6)
    have HB := Lib.hid hbel
    clear c0 c1 c2 c3 c4 c5 c6 d0 d1 d2 d3 d4 d5 d6 hbel hg hm kg km
    have j1 : (q : Int) < (n : Int) := by omega
    have j2 : wrap64 ((q : Int) + 1) = (q : Int) + 1 := w64 _ (by omega)
    by_cases hE : (⟨x0, x1, x2, x3, x4, xG, xM⟩ : Pc) = ⟨y0, y1, y2, y3, y4, yG, yM⟩
    ·have C : ∀ x : Grow wr, Calls Tryz.prog 146 #[.agg (pA x0 x1 x2 x3 x4 vg vm), .agg (pA y0 y1 y2 y3 y4 ug um)] x.w fun e w' => e = .returned (.bool true) ∧ Below x.w.heap.size x.w w' := fun x => (CS.out x).mono fun e w' h => ⟨say_t h.1 hE, h.2⟩
     have HE2 := Lib.hid (HXY.out hE)
     clear hE CS
     go_wp2_with fail
     refine wp_region_grow (by kernel_rfl) (by kernel_rfl) ?_
     repeat (go_big_quiet_step ((go_at_call 146; with_reducible exact calls_grow (C _))))
     refine wpQuiet_nil ?_
     rintro w2 ⟨x, rfl⟩
     have HB2 := Lib.hid (HB.out.trans (x.b.mono HB.out.size))
     clear C G0 G1 G2 G3 G4 G5 G6 K0 K1 K2 K3 K4 K5 K6
     generalize x.w = w2 at *
     go_wp2_with fail
     refine ⟨⟨q + 1, hlt, by simp, HB2.out, fun j hj => ?_⟩, by simp [intOf]; omega⟩
     rcases Nat.lt_or_ge j q with h | h
     ·exact HL.out j h
     ·obtain rfl : j = q := by omega
      exact HE2.out
    ·have C : ∀ x : Grow wr, Calls Tryz.prog 146 #[.agg (pA x0 x1 x2 x3 x4 vg vm), .agg (pA y0 y1 y2 y3 y4 ug um)] x.w fun e w' => e = .returned (.bool false) ∧ Below x.w.heap.size x.w w' := fun x => (CS.out x).mono fun e w' h => ⟨say_f h.1 hE, h.2⟩
     have HE2 := Lib.hid (HN2.out hE)
     clear hE CS
     go_wp2_with fail
     refine wp_region_grow (by kernel_rfl) (by kernel_rfl) ?_
     repeat (go_big_quiet_step ((go_at_call 146; with_reducible exact calls_grow (C _))))
     refine wpQuiet_nil ?_
     rintro w2 ⟨x, rfl⟩
     have HB2 := Lib.hid (HB.out.trans (x.b.mono HB.out.size))
     clear C G0 G1 G2 G3 G4 G5 G6 K0 K1 K2 K3 K4 K5 K6
     generalize x.w = w2 at *
     go_wp2_with fail
     go_ret
     exact ⟨say_no HE2.out, HB2.out⟩
   ·have j1 : ¬ (q : Int) < (n : Int) := by omega
    go_wp2
    go_ret
    exact ⟨say_yes (HE.out (fun j hj => HL.out j (by omega))), hbel⟩
 ·have hne : ¬ D = E := fun e => hnm (by rw [e])
  have HN := Lib.hid hne
  clear hne
  generalize D.length = n at hnm hl HC ⊢
  generalize E.length = m at hnm hl' HC' ⊢
  have j1 : ¬ (n : Int) = (m : Int) := by omega
  go_enter Tryz.func73, Tryz.ntmps73
  go_wp2
  go_ret
  exact ⟨say_no HN.out, Below.refl _ _⟩

end Go.Proofs.YtcgmmfcphfkdhaaGreat

/- Walks: equal items. -/
namespace Go.Proofs.YtcgmmfcphfkdhaaGreat
open Go Go.RowKit Go.Proofs

theorem sz_eq {G H : List S8} (hl : G.length = H.length) (h : ∀ j, j < G.length → sz G j = sz H j) : G = H :=
 List.ext_getElem hl fun i h1 h2 => by
  have := h i h1
  unfold sz at this
  rw [List.getD_eq_getElem?_getD, List.getD_eq_getElem?_getD, List.getElem?_eq_getElem h1, List.getElem?_eq_getElem h2] at this
  exact this

def scI (X Y : It) : Prop := X.id = Y.id ∧ X.k = Y.k ∧ X.y = Y.y ∧ X.f = Y.f ∧ X.p = Y.p ∧ X.l = Y.l ∧ X.s = Y.s ∧ X.lo = Y.lo ∧ X.hi = Y.hi

set_option maxRecDepth 100000 in
set_option maxHeartbeats 4000000 in
theorem sameItem_head (x y : Nv) (h : ¬ scI x.N.X y.N.X) (w : World) :
  Calls Tryz.prog 74 #[.agg x.itm, .agg y.itm] w fun e w' => e = .returned (.bool false) ∧ Below w.heap.size w w' := by
 have b0 : Below w.heap.size w ((w.alloc (.cells x.itm 38)).alloc (.cells y.itm 38)) := ((Below.refl _ _).alloc (Nat.le_refl _) _).alloc (by simp) _
 unfold scI at h
 have v0 : x.itm[0]? = some (.int .i64 x.N.X.id) := rfl
 have u0 : y.itm[0]? = some (.int .i64 y.N.X.id) := rfl
 have v1 : x.itm[1]? = some (.int .i64 x.N.X.k) := rfl
 have u1 : y.itm[1]? = some (.int .i64 y.N.X.k) := rfl
 have v2 : x.itm[2]? = some (.int .i64 x.N.X.y) := rfl
 have u2 : y.itm[2]? = some (.int .i64 y.N.X.y) := rfl
 have v3 : x.itm[3]? = some (.int .i64 x.N.X.f) := rfl
 have u3 : y.itm[3]? = some (.int .i64 y.N.X.f) := rfl
 have v4 : x.itm[4]? = some (.int .i64 x.N.X.p) := rfl
 have u4 : y.itm[4]? = some (.int .i64 y.N.X.p) := rfl
 have v5 : x.itm[5]? = some (.int .i64 x.N.X.l) := rfl
 have u5 : y.itm[5]? = some (.int .i64 y.N.X.l) := rfl
 have v6 : x.itm[6]? = some (.int .i64 x.N.X.s) := rfl
 have u6 : y.itm[6]? = some (.int .i64 y.N.X.s) := rfl
 have v9 : x.itm[9]? = some (.int .i64 x.N.X.lo) := rfl
 have u9 : y.itm[9]? = some (.int .i64 y.N.X.lo) := rfl
 have v10 : x.itm[10]? = some (.int .i64 x.N.X.hi) := rfl
 have u10 : y.itm[10]? = some (.int .i64 y.N.X.hi) := rfl
 generalize x.itm = V at *
 generalize y.itm = U at *
 generalize x.N.X.id = xid at *
 generalize y.N.X.id = yid at *
 generalize x.N.X.k = xk at *
 generalize y.N.X.k = yk at *
 generalize x.N.X.y = xy at *
 generalize y.N.X.y = yy at *
 generalize x.N.X.f = xf at *
 generalize y.N.X.f = yf at *
 generalize x.N.X.p = xp at *
 generalize y.N.X.p = yp at *
 generalize x.N.X.l = xl at *
 generalize y.N.X.l = yl at *
 generalize x.N.X.s = xs at *
 generalize y.N.X.s = ys at *
 generalize x.N.X.lo = xlo at *
 generalize y.N.X.lo = ylo at *
 generalize x.N.X.hi = xhi at *
 generalize y.N.X.hi = yhi at *
 by_cases hid : xid = yid
 ·subst hid
  by_cases hk : xk = yk
  ·subst hk
   by_cases hy : xy = yy
   ·subst hy
    by_cases hf : xf = yf
    ·subst hf
     by_cases hp : xp = yp
     ·subst hp
      by_cases hl : xl = yl
      ·subst hl
       by_cases hs : xs = ys
       ·subst hs
        by_cases hlo : xlo = ylo
        ·subst hlo
         by_cases hhi : xhi = yhi
         ·subst hhi
          exact absurd ⟨rfl, rfl, rfl, rfl, rfl, rfl, rfl, rfl, rfl⟩ h
         ·clear h
          go_enter Tryz.func74, Tryz.ntmps74
          go_wp2
          go_ret
          exact ⟨rfl, b0⟩
        ·clear h
         go_enter Tryz.func74, Tryz.ntmps74
         go_wp2
         go_ret
         exact ⟨rfl, b0⟩
       ·clear h
        go_enter Tryz.func74, Tryz.ntmps74
        go_wp2
        go_ret
        exact ⟨rfl, b0⟩
      ·clear h
       go_enter Tryz.func74, Tryz.ntmps74
       go_wp2
       go_ret
       exact ⟨rfl, b0⟩
     ·clear h
      go_enter Tryz.func74, Tryz.ntmps74
      go_wp2
      go_ret
      exact ⟨rfl, b0⟩
    ·clear h
     go_enter Tryz.func74, Tryz.ntmps74
     go_wp2
     go_ret
     exact ⟨rfl, b0⟩
   ·clear h
    go_enter Tryz.func74, Tryz.ntmps74
    go_wp2
    go_ret
    exact ⟨rfl, b0⟩
  ·clear h
   go_enter Tryz.func74, Tryz.ntmps74
   go_wp2
   go_ret
   exact ⟨rfl, b0⟩
 ·clear h
  go_enter Tryz.func74, Tryz.ntmps74
  go_wp2
  go_ret
  exact ⟨rfl, b0⟩

end Go.Proofs.YtcgmmfcphfkdhaaGreat

/- Walks: equal items, the lists. -/
namespace Go.Proofs.YtcgmmfcphfkdhaaGreat
open Go Go.RowKit Go.Proofs

set_option maxRecDepth 100000 in
set_option maxHeartbeats 4000000 in
theorem sameItem_body (x y : Nv) (h : scI x.N.X y.N.X) (w : World) (hx : IV w x) (hy : IV w y) :
  Calls Tryz.prog 74 #[.agg x.itm, .agg y.itm] w fun e w' => Say e (x.N.X.P = y.N.X.P ∧ x.N.X.C = y.N.X.C ∧ x.N.X.S = y.N.X.S) ∧ Below w.heap.size w w' := by
 have b0 : Below w.heap.size w ((w.alloc (.cells x.itm 38)).alloc (.cells y.itm 38)) := ((Below.refl _ _).alloc (Nat.le_refl _) _).alloc (by simp) _
 have CP := ints72 x.iP y.iP x.N.X.P y.N.X.P _ (hx.P.keep b0) (hy.P.keep b0)
 have CC := fun w1 (hb : Below ((w.alloc (.cells x.itm 38)).alloc (.cells y.itm 38)).heap.size ((w.alloc (.cells x.itm 38)).alloc (.cells y.itm 38)) w1) => ints72 x.iC y.iC x.N.X.C y.N.X.C w1 ((hx.C.keep b0).keep hb) ((hy.C.keep b0).keep hb)
 obtain ⟨aS, cS, eS, hl, hc⟩ := hx.S
 obtain ⟨aT, cT, eT, -, hc'⟩ := hy.S
 have n1 := (NB.new w x.itm 38).alloc (.cells y.itm 38)
 have n2 := nb1 w (.cells x.itm 38) y.itm 38
 have v0 : x.itm[0]? = some (.int .i64 x.N.X.id) := rfl
 have u0 : y.itm[0]? = some (.int .i64 x.N.X.id) := by rw [h.1]; rfl
 have v1 : x.itm[1]? = some (.int .i64 x.N.X.k) := rfl
 have u1 : y.itm[1]? = some (.int .i64 x.N.X.k) := by rw [h.2.1]; rfl
 have v2 : x.itm[2]? = some (.int .i64 x.N.X.y) := rfl
 have u2 : y.itm[2]? = some (.int .i64 x.N.X.y) := by rw [h.2.2.1]; rfl
 have v3 : x.itm[3]? = some (.int .i64 x.N.X.f) := rfl
 have u3 : y.itm[3]? = some (.int .i64 x.N.X.f) := by rw [h.2.2.2.1]; rfl
 have v4 : x.itm[4]? = some (.int .i64 x.N.X.p) := rfl
 have u4 : y.itm[4]? = some (.int .i64 x.N.X.p) := by rw [h.2.2.2.2.1]; rfl
 have v5 : x.itm[5]? = some (.int .i64 x.N.X.l) := rfl
 have u5 : y.itm[5]? = some (.int .i64 x.N.X.l) := by rw [h.2.2.2.2.2.1]; rfl
 have v6 : x.itm[6]? = some (.int .i64 x.N.X.s) := rfl
 have u6 : y.itm[6]? = some (.int .i64 x.N.X.s) := by rw [h.2.2.2.2.2.2.1]; rfl
 have v9 : x.itm[9]? = some (.int .i64 x.N.X.lo) := rfl
 have u9 : y.itm[9]? = some (.int .i64 x.N.X.lo) := by rw [h.2.2.2.2.2.2.2.1]; rfl
 have v10 : x.itm[10]? = some (.int .i64 x.N.X.hi) := rfl
 have u10 : y.itm[10]? = some (.int .i64 x.N.X.hi) := by rw [h.2.2.2.2.2.2.2.2]; rfl
 have v7 : x.itm[7]? = some x.iP := rfl
 have u7 : y.itm[7]? = some y.iP := rfl
 have v8 : x.itm[8]? = some x.iC := rfl
 have u8 : y.itm[8]? = some y.iC := rfl
 have v11 : x.itm[11]? = some (.slice aS x.N.X.S.length cS) := congrArg some eS
 have u11 : y.itm[11]? = some (.slice aT y.N.X.S.length cT) := congrArg some eT
 clear eS eT h hx hy
 generalize x.itm = V at *
 generalize y.itm = U at *
 generalize x.iP = iP at *
 generalize y.iP = jP at *
 generalize x.iC = iC at *
 generalize y.iC = jC at *
 generalize x.N.X.id = xid at *
 generalize x.N.X.k = xk at *
 generalize x.N.X.y = xy at *
 generalize x.N.X.f = xf at *
 generalize x.N.X.p = xp at *
 generalize x.N.X.l = xl at *
 generalize x.N.X.s = xs at *
 generalize x.N.X.lo = xlo at *
 generalize x.N.X.hi = xhi at *
 generalize x.N.X.P = P at *
 generalize y.N.X.P = P' at *
 generalize x.N.X.C = C at *
 generalize y.N.X.C = C' at *
 generalize x.N.X.S = S at *
 generalize y.N.X.S = S' at *
 obtain ⟨W, hW⟩ : ∃ W, (w.alloc (.cells V 38)).alloc (.cells U 38) = W := ⟨_, rfl⟩
 have g8 := n1.c v8
 have g8' := n2.c u8
 have g11 := n1.c v11
 have g11' := n2.c u11
 have CP0 := CP
 rw [hW] at b0 CC g8 g8' g11 g11' CP0
 have CCh := Lib.hid CC
 have G8 := Lib.hid g8
 have G8' := Lib.hid g8'
 have G11 := Lib.hid g11
 have G11' := Lib.hid g11'
 have B0 := Lib.hid b0
 have HW := Lib.hid hW
 have HC := Lib.hid hc
 have HC' := Lib.hid hc'
 clear n1 n2 CC g8 g8' g11 g11' b0 hc hc' CP0
 by_cases hP : P = P'
 ·replace CP := CP.mono fun e w' (h : Say e (P = P') ∧ _) => And.intro (say_t h.1 hP) h.2
  have HP := Lib.hid hP
  clear hP
  by_cases hC : C = C'
  ·have CC2 := Lib.hid (fun w1 hb => (CCh.out w1 hb).mono fun e w' (h : Say e (C = C') ∧ _) => And.intro (say_t h.1 hC) h.2)
   have HCC := Lib.hid hC
   clear hC CCh
   by_cases hS : S.length = S'.length
   ·have HN : Hid (∀ q, q < S.length → sz S q ≠ sz S' q → ¬ (P = P' ∧ C = C' ∧ S = S')) := Lib.hid fun q _ h e => h (by rw [e.2.2])
    have HE : Hid ((∀ j, j < S.length → sz S j = sz S' j) → (P = P' ∧ C = C' ∧ S = S')) := Lib.hid fun h => ⟨HP.out, HCC.out, sz_eq hS h⟩
    generalize (P = P' ∧ C = C' ∧ S = S') = RR at HN HE ⊢
    rw [← hS] at HC' G11' u11
    generalize S.length = n at *
    clear hS
    rw [hW] at CP
    clear hW
    go_enter Tryz.func74, Tryz.ntmps74
    go_wp2_with fail
    rw [HW.out]
    refine CP.mono ?_
    rintro e w1 ⟨rfl, hb⟩
    have q8 := keep_cell hb G8.out
    have q8' := keep_cell hb G8'.out
    have HB1 := Lib.hid hb
    clear hb CP
    go_wp2_with fail
    refine (CC2.out _ HB1.out).mono ?_
    rintro e w2 ⟨rfl, hb2⟩
    have HB2 := Lib.hid (HB1.out.trans (hb2.mono HB1.out.size))
    have q11 := keep_cell HB2.out G11.out
    have q11' := keep_cell HB2.out G11'.out
    clear hb2 q8 q8'
    go_wp2_with fail
    clear q11 q11'
    go_loopw [5] (fun i wr => ∃ q : Nat, q ≤ n ∧ i = .int .i64 q ∧ Hid (Below W.heap.size W wr) ∧ ∀ j, j < q → sz S j = sz S' j) (fun i _ => n - (intOf i).toNat)
    case atStart => exact ⟨0, Nat.zero_le _, rfl, Lib.hid HB2.out, by simp⟩
    case round =>
     obtain ⟨q, hq, rfl, hbel, hall⟩ := hrel
     have HL := Lib.hid hall
     clear hall
     have f1 := keep_cell hbel.out G11.out
     have f3 := keep_cell hbel.out G11'.out
     have HB := Lib.hid (B0.out.trans (hbel.out.mono B0.out.size))
     by_cases hlt : q < n
     ·obtain ⟨o, s, rfl, c0, c1, c2, c3, c4, c5, c6, c7⟩ := HC.out q hlt
      obtain ⟨o', s', rfl, e0, e1, e2, e3, e4, e5, e6, e7⟩ := HC'.out q hlt
      replace c0 := keep_cell HB.out c0
      replace e0 := keep_cell HB.out e0
      replace c1 := keep_cell HB.out c1
      replace e1 := keep_cell HB.out e1
      replace c2 := keep_cell HB.out c2
      replace e2 := keep_cell HB.out e2
      replace c3 := keep_cell HB.out c3
      replace e3 := keep_cell HB.out e3
      replace c4 := keep_cell HB.out c4
      replace e4 := keep_cell HB.out e4
      replace c5 := keep_cell HB.out c5
      replace e5 := keep_cell HB.out e5
      replace c6 := keep_cell HB.out c6
      replace e6 := keep_cell HB.out e6
      replace c7 := keep_cell HB.out c7
      replace e7 := keep_cell HB.out e7
      have j1 : (q : Int) < (n : Int) := by omega
      have j2 : wrap64 ((q : Int) + 1) = (q : Int) + 1 := w64 _ (by omega)
      have HN2 := Lib.hid (HN.out q hlt)
      obtain ⟨x, hx⟩ : ∃ x, sz S q = x := ⟨_, rfl⟩
      obtain ⟨y, hy⟩ : ∃ y, sz S' q = y := ⟨_, rfl⟩
      rw [hx] at c0 c1 c2 c3 c4 c5 c6 c7 HN2
      rw [hy] at e0 e1 e2 e3 e4 e5 e6 e7 HN2
      have HXY : Hid (x = y → sz S q = sz S' q) := Lib.hid fun e => by rw [hx, hy, e]
      obtain ⟨p0, p1, p2, p3, p4, p5, p6, p7⟩ := x
      obtain ⟨r0, r1, r2, r3, r4, r5, r6, r7⟩ := y
      simp only at c0 c1 c2 c3 c4 c5 c6 c7 e0 e1 e2 e3 e4 e5 e6 e7
      clear hx hy
      have hq := neq194 p0 p1 p2 p3 p4 p5 p6 p7 r0 r1 r2 r3 r4 r5 r6 r7
      by_cases hE : (p0 = r0 ∧ p1 = r1 ∧ p2 = r2 ∧ p3 = r3 ∧ p4 = r4 ∧ p5 = r5 ∧ p6 = r6 ∧ p7 = r7)
      ·obtain ⟨rfl, rfl, rfl, rfl, rfl, rfl, rfl, rfl⟩ := hE
       simp only [BEq.rfl, Bool.and_self, Bool.not_true] at hq
       go_wp2_with fail
       go_quiet (fail)
       clear hq
       go_wp2
       refine ⟨⟨q + 1, hlt, by simp, Lib.hid (below_drewN hbel.out _), fun j hj => ?_⟩, by simp [intOf]; omega⟩
       rcases Nat.lt_or_ge j q with h | h
       ·exact HL.out j h
       ·obtain rfl : j = q := by omega
        exact HXY.out (by simp)
      ·have hq2 : (!(p0 == r0 && p1 == r1 && p2 == r2 && p3 == r3 && p4 == r4 && p5 == r5 && p6 == r6 && p7 == r7)) = true := by
        rw [Bool.not_eq_true', Bool.eq_false_iff]
        intro h
        simp only [Bool.and_eq_true, beq_iff_eq] at h
        exact hE ⟨h.1.1.1.1.1.1.1, h.1.1.1.1.1.1.2, h.1.1.1.1.1.2, h.1.1.1.1.2, h.1.1.1.2, h.1.1.2, h.1.2, h.2⟩
       rw [hq2] at hq
       have hne := Lib.hid (HN2.out (by intro e; simp only [S8.mk.injEq] at e; exact hE e))
       clear hq2 hE
       go_wp2_with fail
       go_quiet (fail)
       clear hq
       go_wp2
       go_ret
       exact ⟨say_no hne.out, below_drewN HB.out _⟩
     ·have j1 : ¬ (q : Int) < (n : Int) := by omega
      go_wp2
      go_ret
      exact ⟨say_yes (HE.out (fun j hj => HL.out j (by omega))), HB.out⟩
   ·have hne : ¬ (P = P' ∧ C = C' ∧ S = S') := fun e => hS (by rw [e.2.2])
    have HN := Lib.hid hne
    clear hne
    generalize S.length = n at *
    generalize S'.length = m at *
    have j1 : ¬ (n : Int) = (m : Int) := by omega
    clear hS
    rw [hW] at CP
    clear hW
    go_enter Tryz.func74, Tryz.ntmps74
    go_wp2_with fail
    rw [HW.out]
    refine CP.mono ?_
    rintro e w1 ⟨rfl, hb⟩
    have q8 := keep_cell hb G8.out
    have q8' := keep_cell hb G8'.out
    have HB1 := Lib.hid hb
    clear hb CP
    go_wp2_with fail
    refine (CC2.out _ HB1.out).mono ?_
    rintro e w2 ⟨rfl, hb2⟩
    have HB2 := Lib.hid (HB1.out.trans (hb2.mono HB1.out.size))
    have q11 := keep_cell HB2.out G11.out
    have q11' := keep_cell HB2.out G11'.out
    clear hb2 q8 q8'
    go_wp2_with fail
    go_ret
    exact ⟨say_no HN.out, B0.out.trans (HB2.out.mono B0.out.size)⟩
  ·have CC2 := Lib.hid (fun w1 hb => (CCh.out w1 hb).mono fun e w' (h : Say e (C = C') ∧ _) => And.intro (say_f h.1 hC) h.2)
   have HN : Hid (¬ (P = P' ∧ C = C' ∧ S = S')) := Lib.hid fun e => hC e.2.1
   clear hC CCh
   rw [hW] at CP
   clear hW
   go_enter Tryz.func74, Tryz.ntmps74
   go_wp2_with fail
   rw [HW.out]
   refine CP.mono ?_
   rintro e w1 ⟨rfl, hb⟩
   have q8 := keep_cell hb G8.out
   have q8' := keep_cell hb G8'.out
   have HB1 := Lib.hid hb
   clear hb CP
   go_wp2_with fail
   refine (CC2.out _ HB1.out).mono ?_
   rintro e w2 ⟨rfl, hb2⟩
   have HB2 := Lib.hid (HB1.out.trans (hb2.mono HB1.out.size))
   clear hb2 q8 q8'
   go_wp2_with fail
   go_ret
   exact ⟨say_no HN.out, B0.out.trans (HB2.out.mono B0.out.size)⟩
 ·replace CP := CP.mono fun e w' (h : Say e (P = P') ∧ _) => And.intro (say_f h.1 hP) h.2
  have HN : Hid (¬ (P = P' ∧ C = C' ∧ S = S')) := Lib.hid fun e => hP e.1
  clear hP
  rw [hW] at CP
  clear hW
  go_enter Tryz.func74, Tryz.ntmps74
  go_wp2_with fail
  rw [HW.out]
  refine CP.mono ?_
  rintro e w1 ⟨rfl, hb⟩
  have HB1 := Lib.hid hb
  clear hb CP
  go_wp2_with fail
  go_ret
  exact ⟨say_no HN.out, B0.out.trans (HB1.out.mono B0.out.size)⟩

theorem sameItem_any (x y : Nv) (w : World) (hx : IV w x) (hy : IV w y) :
  Calls Tryz.prog 74 #[.agg x.itm, .agg y.itm] w fun e w' => Say e (x.N.X = y.N.X) ∧ Below w.heap.size w w' := by
 have hq : x.N.X = y.N.X ↔ scI x.N.X y.N.X ∧ (x.N.X.P = y.N.X.P ∧ x.N.X.C = y.N.X.C ∧ x.N.X.S = y.N.X.S) := by
  generalize x.N.X = X
  generalize y.N.X = Y
  obtain ⟨a0, a1, a2, a3, a4, a5, a6, a7, a8, a9, a10, a11⟩ := X
  obtain ⟨c0, c1, c2, c3, c4, c5, c6, c7, c8, c9, c10, c11⟩ := Y
  unfold scI
  simp only [It.mk.injEq]
  constructor
  ·rintro ⟨h0, h1, h2, h3, h4, h5, h6, h7, h8, h9, h10, h11⟩
   exact ⟨⟨h0, h1, h2, h3, h4, h5, h6, h9, h10⟩, h7, h8, h11⟩
  ·rintro ⟨⟨h0, h1, h2, h3, h4, h5, h6, h9, h10⟩, h7, h8, h11⟩
   exact ⟨h0, h1, h2, h3, h4, h5, h6, h7, h8, h9, h10, h11⟩
 by_cases h : scI x.N.X y.N.X
 ·refine (sameItem_body x y h w hx hy).mono ?_
  rintro e w1 ⟨⟨r, hr, rfl⟩, hb⟩
  exact ⟨say_is (hr.trans ⟨fun k => hq.2 ⟨h, k⟩, fun k => (hq.1 k).2⟩), hb⟩
 ·refine (sameItem_head x y h w).mono ?_
  rintro e w1 ⟨rfl, hb⟩
  exact ⟨say_no fun k => h (hq.1 k).1, hb⟩

end Go.Proofs.YtcgmmfcphfkdhaaGreat
