/- The abstract machine, part NG. -/
import Derived.Test.YtlocdadkhdcedaaNE
import Derived.Test.YtlocdadkhdcedaaXA
import Derived.Test.YtlocdadkhdcedaaMD
/- Walks: corners, Box of both. -/
namespace Go.Proofs.Ytlocdadkhdcedaa
open Go Go.RowKit Go.Proofs Go.Abs Go.Plain

def lowU (xs : Nat → Int) : Nat → Int
  | 0 => xs 0
  | k + 1 => if xs k < lowU xs k then xs k else lowU xs k
def highU (xs : Nat → Int) : Nat → Int
  | 0 => xs 0
  | k + 1 => if highU xs k < xs k then xs k else highU xs k

/-- What Box answers. -/
def bxV (L : Pl) : Value := if vOut L then .tuple #[pt (lowU (px L) L.length) (lowU (py L) L.length), pt (highU (px L) L.length) (highU (py L) L.length), .int .i64 0] else .tuple #[pt 0 0, pt 0 0, .int .i64 1]

theorem res_cct {P : Program} {fn : Func} {a b s : Tmp} {t u : TypeId} {w : World} {v v' : Value} {p q : Addr} (h : fn.results = #[.cell a t, .cell b u, .tmp s]) (tmps : Array Value) (hp : tmps.getD a undef = .pointer (some p)) (hq : tmps.getD b undef = .pointer (some q))
    (hl : (loadVar t p).run P w = .ok v w) (hm : (loadVar u q).run P w = .ok v' w) : (results fn tmps).run P w = .ok (.tuple #[v, v', tmps.getD s undef]) w := by
  have hp' : tmps[a]?.getD undef = .pointer (some p) := by simpa using hp
  have hq' : tmps[b]?.getD undef = .pointer (some q) := by simpa using hq
  simp only [results, h]
  simp [hp', hq', asAddr, hl, hm]

theorem res_cc {P : Program} {fn : Func} {a b : Tmp} {t u : TypeId} {w : World} {v v' : Value} {p q : Addr} (h : fn.results = #[.cell a t, .cell b u]) (tmps : Array Value) (hp : tmps.getD a undef = .pointer (some p)) (hq : tmps.getD b undef = .pointer (some q))
    (hl : (loadVar t p).run P w = .ok v w) (hm : (loadVar u q).run P w = .ok v' w) : (results fn tmps).run P w = .ok (.tuple #[v, v']) w := by
  have hp' : tmps[a]?.getD undef = .pointer (some p) := by simpa using hp
  have hq' : tmps[b]?.getD undef = .pointer (some q) := by simpa using hq
  simp only [results, h]
  simp [hp', hq', asAddr, hl, hm]

theorem Pb.low {w : World} {b k c : Nat} {x y : Int} (h : Pb w b x y) (v : Value) (hn : c ≠ b) : Pb (w.setCell ⟨c, k, none⟩ v) b x y := h.other v (Ne.symm hn)

theorem twoPut {w : World} {a b : Nat} {x y u v : Int} (f0 : Pb w a x y) (f1 : Pb w b u v) (hn : a ≠ b) (l0 l1 u0 u1 : Int) :
    let W := (((w.setCell ⟨a, 0, none⟩ (.int .i64 l0)).setCell ⟨a, 1, none⟩ (.int .i64 l1)).setCell ⟨b, 0, none⟩ (.int .i64 u0)).setCell ⟨b, 1, none⟩ (.int .i64 u1)
    Pb W a l0 l1 ∧ Pb W b u0 u1 :=
  ⟨((f0.set l0 l1).other _ hn).other _ hn, ((f1.other _ hn.symm).other _ hn.symm).set u0 u1⟩

theorem belowPut {B : Nat} {z w : World} {a b : Nat} (h : Below B z w) (ha : B ≤ a) (hb : B ≤ b) (v0 v1 v2 v3 : Value) :
    Below B z ((((w.setCell ⟨a, 0, none⟩ v0).setCell ⟨a, 1, none⟩ v1).setCell ⟨b, 0, none⟩ v2).setCell ⟨b, 1, none⟩ v3) :=
  (((h.setCell ha _).setCell ha _).setCell hb _).setCell hb _

theorem twoStart (w : World) : let W := (w.alloc (ptObj 0 0)).alloc (ptObj 0 0)
    Pb W w.heap.size 0 0 ∧ Pb W (w.heap.size + 1) 0 0 ∧ Below w.heap.size w W ∧ W.heap.size = w.heap.size + 2 := by
  have s1 : ∀ (v : World) (o : Obj), (v.alloc o).heap.size = v.heap.size + 1 := fun v o => by simp
  refine ⟨(Pb.new w 0 0).alloc _, ?_, ((Below.refl _ _).alloc (by simp) _).alloc (by simp) _, by simp⟩
  have := Pb.new (w.alloc (ptObj 0 0)) 0 0
  rwa [s1] at this

theorem cornersStart (w : World) (x y : Int) : let W := (((w.alloc (ptObj 0 0)).alloc (ptObj 0 0)).alloc (ptObj x y)).alloc (ptObj x y)
    Pb W w.heap.size 0 0 ∧ Pb W (w.heap.size + 1) 0 0 ∧ Pb W (w.heap.size + 2) x y ∧ Pb W (w.heap.size + 3) x y ∧ Below w.heap.size w W ∧ W.heap.size = w.heap.size + 4 := by
  have s1 : ∀ (v : World) (o : Obj), (v.alloc o).heap.size = v.heap.size + 1 := fun v o => by simp
  obtain ⟨f0, f1, bel, hz⟩ := twoStart w
  refine ⟨(f0.alloc _).alloc _, (f1.alloc _).alloc _, ?_, ?_, (bel.alloc (by simp; omega) _).alloc (by simp; omega) _, by simp⟩
  · have := (Pb.new ((w.alloc (ptObj 0 0)).alloc (ptObj 0 0)) x y).alloc (ptObj x y)
    rwa [s1, s1] at this
  · have := Pb.new (((w.alloc (ptObj 0 0)).alloc (ptObj 0 0)).alloc (ptObj x y)) x y
    rwa [s1, s1, s1] at this

set_option maxRecDepth 100000 in
set_option maxHeartbeats 4000000 in
theorem refCorners_any (b off cap : Nat) (L : Pl) (hl : 1 ≤ L.length) (hl2 : L.length ≤ 1000) (w : World) (hp : PtsAt w b off L) :
    Calls Try.prog 102 #[.slice (some ⟨b, off, none⟩) L.length cap] w fun e w' => e = .returned (.tuple #[pt (lowU (px L) L.length) (lowU (py L) L.length), pt (highU (px L) L.length) (highU (py L) L.length)]) ∧ Below w.heap.size w w' := by
  have a0 := (hp 0 (by omega)).1
  have a1 := (hp 0 (by omega)).2
  simp only [Nat.zero_mul, Nat.add_zero] at a0 a1
  have HP := Lib.hid hp
  have hblt := hp.lt (by omega)
  clear hp
  obtain ⟨f0, f1, f2, f3, bel, hsz⟩ := cornersStart w (px L 0) (py L 0)
  have a2 := pt_old _ (ptObj (px L 0) (py L 0)) (pt_old _ (ptObj 0 0) (pt_old _ (ptObj 0 0) a0))
  have a3 := pt_old _ (ptObj (px L 0) (py L 0)) (pt_old _ (ptObj 0 0) (pt_old _ (ptObj 0 0) a1))
  go_enter Try.func102, Try.ntmps102
  go_wp2_with fail
  go_loopw [6] (fun i wr => ∃ k : Nat, k ≤ L.length ∧ i = .int .i64 k ∧ Pb wr w.heap.size 0 0 ∧ Pb wr (w.heap.size + 1) 0 0 ∧ Pb wr (w.heap.size + 2) (lowU (px L) k) (lowU (py L) k) ∧ Pb wr (w.heap.size + 3) (highU (px L) k) (highU (py L) k) ∧ Below w.heap.size w wr) (fun i _ => L.length - (intOf i).toNat)
  case atStart => exact ⟨0, Nat.zero_le _, rfl, f0, f1, f2, f3, bel⟩
  case round =>
    clear f0 f1 f2 f3 bel hsz a0 a1 a2 a3
    obtain ⟨k, hk, rfl, f0, f1, f2, f3, hbel⟩ := hrel
    by_cases hlt : k < L.length
    · have j1 : (k : Int) < (L.length : Int) := by omega
      have a0 := keep_cell hbel (HP.out k hlt).1
      have a1 := keep_cell hbel (HP.out k hlt).2
      have HM : Hid ((lowU (px L) (k + 1) = if px L k < lowU (px L) k then px L k else lowU (px L) k) ∧ (lowU (py L) (k + 1) = if py L k < lowU (py L) k then py L k else lowU (py L) k) ∧
        (highU (px L) (k + 1) = if highU (px L) k < px L k then px L k else highU (px L) k) ∧ (highU (py L) (k + 1) = if highU (py L) k < py L k then py L k else highU (py L) k)) := Lib.hid ⟨rfl, rfl, rfl, rfl⟩
      generalize px L k = x0, py L k = y0, lowU (px L) k = l0, lowU (py L) k = l1, highU (px L) k = u0, highU (py L) k = u1 at a0 a1 f2 f3 HM
      obtain ⟨m0, hm0⟩ : ∃ m, (if x0 < l0 then x0 else l0) = m := ⟨_, rfl⟩
      obtain ⟨m1, hm1⟩ : ∃ m, (if y0 < l1 then y0 else l1) = m := ⟨_, rfl⟩
      obtain ⟨m2, hm2⟩ : ∃ m, (if u0 < x0 then x0 else u0) = m := ⟨_, rfl⟩
      obtain ⟨m3, hm3⟩ : ∃ m, (if u1 < y0 then y0 else u1) = m := ⟨_, rfl⟩
      rw [hm0, hm1, hm2, hm3] at HM
      have c20 := f2.c0
      have c21 := f2.c1
      have c30 := f3.c0
      have c31 := f3.c1
      have z20 := f2.f 0
      have z21 := f2.f 1
      have z30 := f3.f 0
      have z31 := f3.f 1
      have nb2 : b ≠ w.heap.size + 2 := by omega
      have nb3 : b ≠ w.heap.size + 3 := by omega
      go_wp2_with fail
      go_region
      go_wp2_with fail
      go_region
      go_wp2_with fail
      go_region
      go_wp2_with fail
      go_region
      clear c20 c21 c30 c31 z20 z21 z30 z31 hm0 hm1 hm2 hm3 a0 a1
      go_wp2
      have n02 : w.heap.size ≠ w.heap.size + 2 := by omega
      have n03 : w.heap.size ≠ w.heap.size + 3 := by omega
      have n12 : w.heap.size + 1 ≠ w.heap.size + 2 := by omega
      have n13 : w.heap.size + 1 ≠ w.heap.size + 3 := by omega
      have n23 : w.heap.size + 2 ≠ w.heap.size + 3 := by omega
      have g0 := (((f0.other (k := 0) (.int .i64 m0) n02).other (k := 1) (.int .i64 m1) n02).other (k := 0) (.int .i64 m2) n03).other (k := 1) (.int .i64 m3) n03
      have g1 := (((f1.other (k := 0) (.int .i64 m0) n12).other (k := 1) (.int .i64 m1) n12).other (k := 0) (.int .i64 m2) n13).other (k := 1) (.int .i64 m3) n13
      have g2 := ((f2.set m0 m1).other (k := 0) (.int .i64 m2) n23).other (k := 1) (.int .i64 m3) n23
      have g3 := ((f3.other (k := 0) (.int .i64 m0) n23.symm).other (k := 1) (.int .i64 m1) n23.symm).set m2 m3
      have g4 := (((hbel.setCell (p := ⟨w.heap.size + 2, 0, none⟩) (by simp) (.int .i64 m0)).setCell (p := ⟨w.heap.size + 2, 1, none⟩) (by simp) (.int .i64 m1)).setCell (p := ⟨w.heap.size + 3, 0, none⟩) (by simp) (.int .i64 m2)).setCell (p := ⟨w.heap.size + 3, 1, none⟩) (by simp) (.int .i64 m3)
      refine ⟨⟨k + 1, hlt, by simp, g0, g1, ?_, ?_, g4.drew.drew.drew.drew⟩, by simp [intOf]; omega⟩
      · rw [HM.out.1, HM.out.2.1]
        exact g2
      · rw [HM.out.2.2.1, HM.out.2.2.2]
        exact g3
    · obtain rfl : k = L.length := by omega
      have HF := Lib.hid (And.intro f0 f1)
      generalize h0 : lowU (px L) L.length = l0, h1 : lowU (py L) L.length = l1, h2 : highU (px L) L.length = u0, h3 : highU (py L) L.length = u1 at f2 f3
      have HE := Lib.hid (And.intro h0 (And.intro h1 (And.intro h2 h3)))
      clear h0 h1 h2 h3
      have c00 := f0.c0
      have c01 := f0.c1
      have c10 := f1.c0
      have c11 := f1.c1
      have c20 := f2.c0
      have c21 := f2.c1
      have c30 := f3.c0
      have c31 := f3.c1
      have z00 := f0.f 0
      have z01 := f0.f 1
      have z10 := f1.f 0
      have z11 := f1.f 1
      go_wp2_with fail
      go_region
      clear c00 c01 c10 c11 c20 c21 c30 c31 z00 z01 z10 z11
      go_wp2
      obtain ⟨r0, r1⟩ := twoPut f0 f1 (by omega) l0 l1 u0 u1
      refine bodyPost_ret (v := .tuple #[pt l0 l1, pt u0 u1]) ?_ rfl ⟨by rw [HE.out.1, HE.out.2.1, HE.out.2.2.1, HE.out.2.2.2], (belowPut hbel (Nat.le_refl _) (Nat.le_succ _) _ _ _ _).drew⟩
      refine res_cc (fn := Try.f102) rfl _ rfl rfl (Pb.load ?_) (Pb.load ?_)
      · exact r0
      · exact r1

end Go.Proofs.Ytlocdadkhdcedaa

/- Walks: the reference's Box. -/
namespace Go.Proofs.Ytlocdadkhdcedaa
open Go Go.RowKit Go.Proofs Go.Abs Go.Plain

set_option maxRecDepth 100000 in
set_option maxHeartbeats 4000000 in
theorem refBox_sl {w : World} {v : Value} {L : Pl} (h : SlV w v L) : Calls Try.prog 39 #[v] w fun e w' => e = .returned (bxV L) ∧ Below w.heap.size w w' := by
  obtain ⟨f0, f1, bel, hsz⟩ := twoStart w
  have C1 := refOut_sl (h.keep bel)
  cases hv : vOut L
  · rw [hv] at C1
    have HV : Hid (bxV L = .tuple #[pt 0 0, pt 0 0, .int .i64 1]) := Lib.hid (by unfold bxV; rw [hv]; rfl)
    clear h hv hsz
    go_enter Try.func39, Try.ntmps39
    go_wp2_with fail
    refine C1.mono ?_
    rintro e w1 ⟨rfl, hb⟩
    replace f0 := f0.keep hb
    replace f1 := f1.keep hb
    replace bel := keep_below bel hb
    have c00 := f0.c0
    have c01 := f0.c1
    have c10 := f1.c0
    have c11 := f1.c1
    have z00 := f0.f 0
    have z01 := f0.f 1
    have z10 := f1.f 0
    have z11 := f1.f 1
    clear hb C1
    go_wp2
    obtain ⟨r0, r1⟩ := twoPut f0 f1 (by omega) 0 0 0 0
    refine bodyPost_ret (v := .tuple #[pt 0 0, pt 0 0, .int .i64 1]) ?_ rfl ⟨by rw [HV.out], belowPut bel (Nat.le_refl _) (Nat.le_succ _) _ _ _ _⟩
    refine res_cct (fn := Try.f39) rfl _ rfl rfl (Pb.load ?_) (Pb.load ?_)
    · exact r0
    · exact r1
  · rw [hv] at C1
    have HV : Hid (bxV L = .tuple #[pt (lowU (px L) L.length) (lowU (py L) L.length), pt (highU (px L) L.length) (highU (py L) L.length), .int .i64 0]) := Lib.hid (by unfold bxV; rw [hv]; rfl)
    obtain ⟨b, off, cap, rfl, hp⟩ := vOut_pts h hv
    obtain ⟨h3, h24, hvp⟩ := vOut_n hv
    have C2 := fun w' (hb : Below w.heap.size w w') => refCorners_any b off cap L (by omega) (by omega) w' (hp.keep hb)
    clear h hv hp hvp hsz
    generalize lowU (px L) L.length = l0, lowU (py L) L.length = l1, highU (px L) L.length = u0, highU (py L) L.length = u1 at C2 HV
    go_enter Try.func39, Try.ntmps39
    go_wp2_with fail
    refine C1.mono ?_
    rintro e w1 ⟨rfl, hb⟩
    replace f0 := f0.keep hb
    replace f1 := f1.keep hb
    replace bel := keep_below bel hb
    clear hb C1
    go_wp2_with fail
    refine (C2 w1 bel).mono ?_
    rintro e w2 ⟨rfl, hb⟩
    replace f0 := f0.keep hb
    replace f1 := f1.keep hb
    replace bel := keep_below bel hb
    clear hb C2
    have hz : w.heap.size + 2 ≤ w2.heap.size := by have := f1.lt; omega
    have ne0 : ¬ w2.heap.size = w.heap.size := by omega
    have ne1 : ¬ w2.heap.size = w.heap.size + 1 := by omega
    have ne2 : ¬ w2.heap.size + 1 = w.heap.size := by omega
    have q0 := (Pb.new w2 l0 l1).alloc (ptObj u0 u1)
    have q1 := Pb.new (w2.alloc (ptObj l0 l1)) u0 u1
    have s1 : ∀ (v : World) (o : Obj), (v.alloc o).heap.size = v.heap.size + 1 := fun v o => by simp
    rw [s1] at q1
    clear s1
    replace f0 := (f0.alloc (ptObj l0 l1)).alloc (ptObj u0 u1)
    replace f1 := (f1.alloc (ptObj l0 l1)).alloc (ptObj u0 u1)
    replace bel := (bel.alloc bel.size (ptObj l0 l1)).alloc (by have := bel.size; simp; omega) (ptObj u0 u1)
    have c00 := f0.c0
    have c01 := f0.c1
    have c10 := f1.c0
    have c11 := f1.c1
    have z00 := f0.f 0
    have z01 := f0.f 1
    have z10 := f1.f 0
    have z11 := f1.f 1
    have c20 := q0.c0
    have c21 := q0.c1
    have c30 := q1.c0
    have c31 := q1.c1
    go_wp2_with fail
    go_region
    clear c00 c01 c10 c11 c20 c21 c30 c31 z00 z01 z10 z11
    go_wp2
    obtain ⟨r0, r1⟩ := twoPut f0 f1 (by omega) l0 l1 u0 u1
    refine bodyPost_ret (v := .tuple #[pt l0 l1, pt u0 u1, .int .i64 0]) ?_ rfl ⟨by rw [HV.out], (belowPut bel (Nat.le_refl _) (Nat.le_succ _) _ _ _ _).drew⟩
    refine res_cct (fn := Try.f39) rfl _ rfl rfl (Pb.load ?_) (Pb.load ?_)
    · exact r0
    · exact r1

end Go.Proofs.Ytlocdadkhdcedaa

/- Walks: Box. -/
namespace Go.Proofs.Ytlocdadkhdcedaa
open Go Go.RowKit Go.Proofs Go.Abs Go.Plain

theorem lowU_next (xs : Nat → Int) (k : Nat) : lowU xs (k + 1) = if xs k < lowU xs k then xs k else lowU xs k := rfl
theorem highU_next (xs : Nat → Int) (k : Nat) : highU xs (k + 1) = if highU xs k < xs k then xs k else highU xs k := rfl

set_option maxRecDepth 100000 in
set_option maxHeartbeats 8000000 in
theorem box_any (b off cap : Nat) (L : Pl) (hv : vOut L = true) (w : World) (hp : PtsAt w b off L) :
    Calls Try.prog 38 #[.slice (some ⟨b, off, none⟩) L.length cap] w fun e w' => e = .returned (bxV L) ∧ Below w.heap.size w w' := by
  have HV : Hid (bxV L = .tuple #[pt (lowU (px L) L.length) (lowU (py L) L.length), pt (highU (px L) L.length) (highU (py L) L.length), .int .i64 0]) := Lib.hid (by unfold bxV; rw [hv]; rfl)
  obtain ⟨h3, h24, hvp⟩ := vOut_n hv
  have hblt := hp.lt (by omega)
  obtain ⟨f0, f1, bel, hsz⟩ := twoStart w
  have C1 := validOutline_any b off cap L (by omega) _ (hp.keep bel)
  rw [hv] at C1
  have HP := Lib.hid hp
  have HP0 := Lib.hid (show w.cell? ⟨b, off, none⟩ = some (.int .i64 (lowU (px L) 0)) ∧ w.cell? ⟨b, off + 1, none⟩ = some (.int .i64 (lowU (py L) 0)) by
    have := hp 0 (by omega)
    simpa [lowU] using this)
  have HHL := Lib.hid (And.intro (show highU (px L) 0 = lowU (px L) 0 from rfl) (show highU (py L) 0 = lowU (py L) 0 from rfl))
  clear hp hv hvp
  have j0 : (0 : Int) < (L.length : Int) := by omega
  go_enter Try.func38, Try.ntmps38
  go_wp2_with fail
  refine C1.mono ?_
  rintro e w1 ⟨rfl, hb⟩
  replace f0 := f0.keep hb
  replace f1 := f1.keep hb
  replace bel := keep_below bel hb
  have hz1 : w.heap.size + 2 ≤ w1.heap.size := by rw [← hsz]; exact hb.size
  clear hb C1 hsz
  have a0 := keep_cell bel HP0.out.1
  have a1 := keep_cell bel HP0.out.2
  have z00 := f0.f 0
  have z01 := f0.f 1
  have z10 := f1.f 0
  have z11 := f1.f 1
  have e00 := f0.c0
  have e01 := f0.c1
  have e10 := f1.c0
  have e11 := f1.c1
  generalize hl0 : lowU (px L) 0 = x0, hl1 : lowU (py L) 0 = y0 at a0 a1
  have HL := Lib.hid (And.intro hl0 hl1)
  clear hl0 hl1
  go_wp2_with fail
  go_region
  clear a0 a1 z00 z01 z10 z11 e00 e01 e10 e11
  obtain ⟨r0, r1⟩ := twoPut f0 f1 (by omega) x0 y0 x0 y0
  have rb := belowPut bel (Nat.le_refl _) (Nat.le_succ _) (.int .i64 x0) (.int .i64 y0) (.int .i64 x0) (.int .i64 y0)
  clear f0 f1 bel
  have hz2 : w.heap.size + 2 ≤ ((((w1.setCell ⟨w.heap.size, 0, none⟩ (.int .i64 x0)).setCell ⟨w.heap.size, 1, none⟩ (.int .i64 y0)).setCell ⟨w.heap.size + 1, 0, none⟩ (.int .i64 x0)).setCell ⟨w.heap.size + 1, 1, none⟩ (.int .i64 y0)).heap.size := by
    have := r1.lt
    omega
  clear hz1
  go_wp2_with fail
  go_loopw [20] (fun i wr => ∃ k : Nat, k ≤ L.length ∧ i = .int .i64 k ∧ Pb wr w.heap.size (lowU (px L) k) (lowU (py L) k) ∧ Pb wr (w.heap.size + 1) (highU (px L) k) (highU (py L) k) ∧ Below w.heap.size w wr) (fun i _ => L.length - (intOf i).toNat)
  case atStart =>
    refine ⟨0, Nat.zero_le _, rfl, ?_, ?_, rb.drew⟩
    · rw [HL.out.1, HL.out.2]
      exact r0
    · rw [HHL.out.1, HHL.out.2, HL.out.1, HL.out.2]
      exact r1
  case round =>
    clear r0 r1 rb hz2
    obtain ⟨k, hk, rfl, f0, f1, hbel⟩ := hrel
    have hz : w.heap.size + 2 ≤ wr.heap.size := by have := f1.lt; omega
    by_cases hlt : k < L.length
    · have j1 : (k : Int) < (L.length : Int) := by omega
      have a0 := keep_cell hbel (HP.out k hlt).1
      have a1 := keep_cell hbel (HP.out k hlt).2
      have HM := Lib.hid (And.intro (lowU_next (px L) k) (And.intro (lowU_next (py L) k) (And.intro (highU_next (px L) k) (highU_next (py L) k))))
      generalize px L k = x0, py L k = y0, lowU (px L) k = l0, lowU (py L) k = l1, highU (px L) k = u0, highU (py L) k = u1 at a0 a1 f0 f1 HM
      obtain ⟨m0, hm0⟩ : ∃ m, (if x0 < l0 then x0 else l0) = m := ⟨_, rfl⟩
      obtain ⟨m1, hm1⟩ : ∃ m, (if y0 < l1 then y0 else l1) = m := ⟨_, rfl⟩
      obtain ⟨m2, hm2⟩ : ∃ m, (if u0 < x0 then x0 else u0) = m := ⟨_, rfl⟩
      obtain ⟨m3, hm3⟩ : ∃ m, (if u1 < y0 then y0 else u1) = m := ⟨_, rfl⟩
      rw [hm0, hm1, hm2, hm3] at HM
      have ne0 : ¬ wr.heap.size = w.heap.size := by omega
      have ne1 : ¬ wr.heap.size = w.heap.size + 1 := by omega
      have nb0 : ¬ b = w.heap.size := by omega
      have q := Pb.new wr x0 y0
      replace f0 := f0.alloc (ptObj x0 y0)
      replace f1 := f1.alloc (ptObj x0 y0)
      replace hbel := hbel.alloc hbel.size (ptObj x0 y0)
      have c00 := f0.c0
      have c01 := f0.c1
      have c10 := f1.c0
      have c11 := f1.c1
      have z00 := f0.f 0
      have z01 := f0.f 1
      have z10 := f1.f 0
      have z11 := f1.f 1
      have q0 := q.c0
      have q1 := q.c1
      go_wp2_with fail
      obtain ⟨r0, r1⟩ := twoPut f0 f1 (by omega) m0 m1 m2 m3
      have rb := belowPut hbel (Nat.le_refl _) (Nat.le_succ _) (.int .i64 m0) (.int .i64 m1) (.int .i64 m2) (.int .i64 m3)
      refine ⟨⟨k + 1, hlt, by simp, ?_, ?_, rb⟩, by simp [intOf]; omega⟩
      · rw [HM.out.1, HM.out.2.1]
        exact r0
      · rw [HM.out.2.2.1, HM.out.2.2.2]
        exact r1
    · obtain rfl : k = L.length := by omega
      generalize h0 : lowU (px L) L.length = l0, h1 : lowU (py L) L.length = l1, h2 : highU (px L) L.length = u0, h3 : highU (py L) L.length = u1 at f0 f1
      rw [h0, h1, h2, h3] at HV
      clear h0 h1 h2 h3
      have c00 := f0.c0
      have c01 := f0.c1
      have c10 := f1.c0
      have c11 := f1.c1
      have z00 := f0.f 0
      have z01 := f0.f 1
      have z10 := f1.f 0
      have z11 := f1.f 1
      go_wp2_with fail
      go_region
      clear c00 c01 c10 c11 z00 z01 z10 z11
      go_wp2
      obtain ⟨r0, r1⟩ := twoPut f0 f1 (by omega) l0 l1 u0 u1
      refine bodyPost_ret (v := .tuple #[pt l0 l1, pt u0 u1, .int .i64 0]) ?_ rfl ⟨by rw [HV.out], (belowPut hbel (Nat.le_refl _) (Nat.le_succ _) _ _ _ _).drew⟩
      refine res_cct (fn := Try.f38) rfl _ rfl rfl (Pb.load ?_) (Pb.load ?_)
      · exact r0
      · exact r1

theorem box_bad (v : Value) {L : Pl} {w : World} (h : SlV w v L) (hv : vOut L = false) : Calls Try.prog 38 #[v] w fun e w' => e = .returned (bxV L) ∧ Below w.heap.size w w' := by
  obtain ⟨f0, f1, bel, hsz⟩ := twoStart w
  have C1 := vOut_sl (h.keep bel)
  rw [hv] at C1
  have HV : Hid (bxV L = .tuple #[pt 0 0, pt 0 0, .int .i64 1]) := Lib.hid (by unfold bxV; rw [hv]; rfl)
  clear h hv hsz
  go_enter Try.func38, Try.ntmps38
  go_wp2_with fail
  refine C1.mono ?_
  rintro e w1 ⟨rfl, hb⟩
  replace f0 := f0.keep hb
  replace f1 := f1.keep hb
  replace bel := keep_below bel hb
  have c00 := f0.c0
  have c01 := f0.c1
  have c10 := f1.c0
  have c11 := f1.c1
  have z00 := f0.f 0
  have z01 := f0.f 1
  have z10 := f1.f 0
  have z11 := f1.f 1
  clear hb C1
  go_wp2
  obtain ⟨r0, r1⟩ := twoPut f0 f1 (by omega) 0 0 0 0
  refine bodyPost_ret (v := .tuple #[pt 0 0, pt 0 0, .int .i64 1]) ?_ rfl ⟨by rw [HV.out], belowPut bel (Nat.le_refl _) (Nat.le_succ _) _ _ _ _⟩
  refine res_cct (fn := Try.f38) rfl _ rfl rfl (Pb.load ?_) (Pb.load ?_)
  · exact r0
  · exact r1

theorem box_sl {w : World} {v : Value} {L : Pl} (h : SlV w v L) : Calls Try.prog 38 #[v] w fun e w' => e = .returned (bxV L) ∧ Below w.heap.size w w' := by
  cases hv : vOut L
  · exact box_bad v h hv
  · obtain ⟨b, off, cap, rfl, hp⟩ := vOut_pts h hv
    exact box_any b off cap L hv w hp

end Go.Proofs.Ytlocdadkhdcedaa
