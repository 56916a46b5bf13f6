/- Walks: the reference's disk: Pending, Write. -/
import Derived.Test.YtcgmmfcphfkdhaaGreatD3
import Derived.Test.YtcgmmfcphfkdhaaGreatGrVX
namespace Go.Proofs.YtcgmmfcphfkdhaaGreat
open Go Go.RowKit Go.Proofs Go.Torn Go.Abs

theorem RD.low {base B : Nat} {W W' : World} {x y : Value} {X Y : List Nat} (h : RD base W B x y X Y) (hb : Below W.heap.size W W') : RD base W' B x y X Y :=
  h.keep (Chg.of_below (fun _ => False) hb) (fun e => e) (fun _ _ e => e) (fun _ _ e => e)

/-- Bytes laid anew. -/
theorem app1 {w : World} {x : Value} {X : List Nat} (hx : SlB w x X) (hl : X.length ≤ 10000000) :
    ∃ v6 W2, (Builtin.append_ #[46, 46] 46 #[.slice (some ⟨w.heap.size, 0, none⟩) 0 0, x]).run Tryz.prog (w.alloc (.cells #[] 5)) = .ok v6 W2 ∧ W2.ownsRow w.heap.size 5 1 v6 X.length (bc X) ∧ Below w.heap.size w W2 := by
  have hal : Below w.heap.size w (w.alloc (Obj.cells #[] 5)) := (Below.refl _ w).alloc (Nat.le_refl _) _
  have hown : (w.alloc (Obj.cells #[] 5)).ownsRow w.heap.size 5 1 (.slice (some ⟨w.heap.size, 0, none⟩) 0 0) ([] : List Nat).length (bc []) := by
    have := World.ownsRow_lit (e := 5) (size := 1) w #[] 0 (Nat.le_refl w.heap.size) (by unfold maxLen; omega) (by simp)
    simpa [bc] using this
  obtain ⟨v6, W2, r1, r2, r3, -⟩ := push_any (w.alloc (Obj.cells #[] 5)) hal.size hown (hx.keep hal) (by simpa using hl)
  refine ⟨v6, W2, r1, by simpa using r2, ?_⟩
  exact hal.grown r3 hal.size (fun j e => (hown.lt j e).1)

/-- Two runs of bytes laid anew, one behind the other. -/
theorem app2 {w : World} {x y : Value} {X Y : List Nat} (hx : SlB w x X) (hy : SlB w y Y) (hl : X.length + Y.length ≤ 10000000) :
    ∃ v6 W2 v7 W3, (Builtin.append_ #[46, 46] 46 #[.slice (some ⟨w.heap.size, 0, none⟩) 0 0, x]).run Tryz.prog (w.alloc (.cells #[] 5)) = .ok v6 W2 ∧ (Builtin.append_ #[46, 46] 46 #[v6, y]).run Tryz.prog W2 = .ok v7 W3 ∧
      W3.ownsRow w.heap.size 5 1 v7 (X ++ Y).length (bc (X ++ Y)) ∧ Below w.heap.size w W2 ∧ Below w.heap.size w W3 ∧ W2.ownsRow w.heap.size 5 1 v6 X.length (bc X) := by
  obtain ⟨v6, W2, r1, r2, r3⟩ := app1 hx (by omega)
  obtain ⟨v7, W3, q1, q2, q3, -⟩ := push_any W2 r3.size r2 (hy.keep r3) hl
  exact ⟨v6, W2, v7, W3, r1, q1, q2, r3, r3.grown q3 r3.size (fun j e => (r2.lt j e).1), r2⟩

set_option maxRecDepth 100000 in
set_option maxHeartbeats 1000000 in
theorem pending38 {base B : Nat} {x y : Value} {X Y : List Nat} (w : World) (h : RD base w B x y X Y) :
    Calls Tryz.prog 38 #[.pointer (some ⟨B, 0, none⟩)] w fun e w' => e = .returned (.int .i64 (Y.length : Nat)) ∧ w' = w := by
  obtain ⟨a, c, rfl, -, -⟩ := own_slice h.oy
  have c1 := h.bx.c1
  clear h
  obtain ⟨n, hn⟩ : ∃ n, Y.length = n := ⟨_, rfl⟩
  rw [hn] at c1 ⊢
  clear hn
  go_enter Tryz.func38, Tryz.ntmps38
  go_wp2
  go_ret
  exact ⟨rfl, rfl⟩

set_option maxRecDepth 100000 in
set_option maxHeartbeats 1000000 in
theorem rwrite_full {base B : Nat} {x y u : Value} {X Y L : List Nat} (w : World) (h : RD base w B x y X Y) (hs : SlB w u L) (hf : ¬ X.length + Y.length + L.length ≤ 4194304) (hL : L.length ≤ 9000000000000000000) :
    Calls Tryz.prog 32 #[.pointer (some ⟨B, 0, none⟩), u] w fun e w' => e = .returned (.int .i64 2) ∧ Below w.heap.size w w' := by
  obtain ⟨a, c, rfl, -, -⟩ := own_slice h.ox
  obtain ⟨a', c', rfl, -, -⟩ := own_slice h.oy
  obtain ⟨ua, uc, rfl, -, -⟩ := hs
  have c0 := h.bx.c0
  have c1 := h.bx.c1
  have hml := h.ml
  clear h
  obtain ⟨n, hn⟩ : ∃ n, X.length = n := ⟨_, rfl⟩
  obtain ⟨p, hp⟩ : ∃ p, Y.length = p := ⟨_, rfl⟩
  obtain ⟨m, hm⟩ : ∃ m, L.length = m := ⟨_, rfl⟩
  rw [hn] at c0 hf hml
  rw [hp] at c1 hf hml
  rw [hm] at hf hL ⊢
  clear hn hp hm
  have k1 := wi64 ((n : Int) + (p : Int)) (by omega)
  have k2 := wi64 ((n : Int) + (p : Int) + (m : Int)) (by omega)
  have j1 : decide ((n : Int) + (p : Int) + (m : Int) > 4194304) = true := by simp; omega
  clear hf hml hL
  go_enter Tryz.func32, Tryz.ntmps32
  go_wp2_with fail
  go_quiet (fail)
  go_wp2_with fail
  go_ret
  exact ⟨rfl, below_drewN (Below.refl _ w) _⟩

set_option maxRecDepth 100000 in
set_option maxHeartbeats 1000000 in
theorem rwrite_room {base B : Nat} {x y u : Value} {X Y L : List Nat} (w : World) (hbw : base ≤ w.heap.size) (h : RD base w B x y X Y) (hs : SlB w u L) (hf : X.length + Y.length + L.length ≤ 4194304) (hy : By L) :
    Calls Tryz.prog 32 #[.pointer (some ⟨B, 0, none⟩), u] w fun e w' => e = .returned (.int .i64 0) ∧ ∃ y', RD base w' B x y' X (Y ++ L) ∧ Chg w w' (fun k => k = B) ∧ (∀ k, y'.ownBlock = some k → w.heap.size ≤ k) := by
  have H := Lib.hid h
  have HS := Lib.hid hs
  obtain ⟨a, c, rfl, -, -⟩ := own_slice h.ox
  obtain ⟨a', c', rfl, -, -⟩ := own_slice h.oy
  obtain ⟨ua, uc, rfl, -, -⟩ := hs
  have c0 := h.bx.c0
  have c1 := h.bx.c1
  have hml := h.ml
  clear h
  obtain ⟨n, hn⟩ : ∃ n, X.length = n := ⟨_, rfl⟩
  obtain ⟨p, hp⟩ : ∃ p, Y.length = p := ⟨_, rfl⟩
  obtain ⟨m, hm⟩ : ∃ m, L.length = m := ⟨_, rfl⟩
  rw [hn] at c0 hf hml
  rw [hp] at c1 hf hml
  rw [hm] at hf ⊢
  have HN := Lib.hid (And.intro hn (And.intro hp hm))
  clear hn hp hm
  have k1 := wi64 ((n : Int) + (p : Int)) (by omega)
  have k2 := wi64 ((n : Int) + (p : Int) + (m : Int)) (by omega)
  have j1 : decide ((n : Int) + (p : Int) + (m : Int) > 4194304) = false := by simp; omega
  have hF := Lib.hid hf
  clear hf hml
  go_enter Tryz.func32, Tryz.ntmps32
  go_wp2_with fail
  go_quiet (fail)
  rename_i nq
  obtain ⟨w1, hw1⟩ : ∃ w1, w.drewN nq = w1 := ⟨_, rfl⟩
  rw [hw1]
  have hb1 : Below w.heap.size w w1 := by rw [← hw1]; exact below_drewN (Below.refl _ w) _
  have hz1 : Hid (w1.heap.size = w.heap.size) := Lib.hid (by rw [← hw1]; rfl)
  clear hw1 c0 c1 k1 k2
  have H1 := H.out.low hb1
  obtain ⟨v6, W2, v7, W3, r6, r7, ho, -, hbW, ho6⟩ := app2 (own_SlB H1.oy (by rw [HN.out.2.1]; have := hF.out; omega)).1 (HS.out.keep hb1) (by rw [HN.out.2.1, HN.out.2.2]; have := hF.out; omega)
  have b3 : Bx W3 B 141 (.slice a X.length c) (.slice a' Y.length c') := H1.bx.keep (Chg.of_below (fun _ => False) hbW) (fun e => e)
  have fv : ∀ k, v7.ownBlock = some k → w.heap.size ≤ k := fun k e => by rw [← hz1.out]; exact (ho.lt k e).1
  have hB := H.out.bx.lt
  have fin : Hid (∃ y', RD base (W3.setCell ⟨B, 1, none⟩ v7) B (.slice a X.length c) y' X (Y ++ L) ∧ Chg w (W3.setCell ⟨B, 1, none⟩ v7) (fun k => k = B) ∧ (∀ k, y'.ownBlock = some k → w.heap.size ≤ k)) := Lib.hid (by
    have g := Chg.set (W := W3) (fun k => k = B) B 1 v7 rfl
    have g1 := Chg.of_below (fun _ => False) (hb1.trans (hbW.mono (by rw [hz1.out]; exact Nat.le_refl _)))
    have g2 : Chg w (W3.setCell ⟨B, 1, none⟩ v7) (fun k => k = B) := (Chg.of_below (fun k => k = B) (hb1.trans (hbW.mono (by rw [hz1.out]; exact Nat.le_refl _)))).trans g (fun _ _ h => h)
    refine ⟨v7, ⟨H1.lo, b3.set1 _, g2.own H.out.ox (fun k e h => H.out.fx k e h), g.own (own_low (by rw [hz1.out]; exact hbw) ho) (fun k e h => by have := fv k e; omega), H.out.fx, fun k e h => by have := fv k e; omega, ?_, H.out.byx, By_append H.out.byy hy⟩, g2, fv⟩
    rw [List.length_append, HN.out.1, HN.out.2.1, HN.out.2.2]
    have := hF.out
    omega)
  have c1 := b3.c1
  have c1' := H1.bx.c1
  have f1 := b3.fz 1
  have c1a : (w1.alloc (.cells #[] 5)).cell? ⟨B, 1, none⟩ = some (.slice a' Y.length c') := keep_cell ((Below.refl _ w1).alloc (Nat.le_refl _) _) c1'
  rw [HN.out.2.1] at c1a r6
  rw [HN.out.2.2] at r7
  obtain ⟨a6, c6, rfl, -, -⟩ := own_slice ho6
  obtain ⟨a7, c7, rfl, -, -⟩ := own_slice ho
  obtain ⟨q2, hq2⟩ : ∃ q, (Y ++ L).length = q := ⟨_, rfl⟩
  obtain ⟨q1, hq1⟩ : ∃ q, Y.length = q := ⟨_, rfl⟩
  rw [hq2] at r7 fin
  rw [hq1] at r6 r7 c1
  clear H1 hb1 hbW b3 fv hB ho ho6 c1' hq2 hq1
  go_wp2_with (at_builtin; first | refine Lib.wpList_append_run _ rfl _ _ _ _ rfl _ _ rfl rfl _ _ r6 ?_ | refine Lib.wpList_append_run _ rfl _ _ _ _ rfl _ _ rfl rfl _ _ r7 ?_)
  go_ret
  exact ⟨rfl, fin.out⟩

end Go.Proofs.YtcgmmfcphfkdhaaGreat
