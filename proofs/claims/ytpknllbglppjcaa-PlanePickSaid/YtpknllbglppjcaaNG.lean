/- The abstract machine, part NG. -/
import Derived.Test.YtpknllbglppjcaaGS
import Derived.Test.YtpknllbglppjcaaXA
import Derived.Test.YtpknllbglppjcaaMD
/- Walks: corners, Box of both. -/
namespace Go.Proofs.Ytpknllbglppjcaa
open Go Go.RowKit Go.Proofs Go.Abs Go.Plain

def lowU (xs : Nat → Int) : Nat → Int
  | 0 => xs 0
  | k + 1 => if xs k < lowU xs k then xs k else lowU xs k
def highU (xs : Nat → Int) : Nat → Int
  | 0 => xs 0
  | k + 1 => if highU xs k < xs k then xs k else highU xs k

/-- What Box answers. -/
def bxV (L : Pl) : Value := if vOut L then .tuple #[pt (lowU (px L) L.length) (lowU (py L) L.length), pt (highU (px L) L.length) (highU (py L) L.length), .int .i64 0] else .tuple #[pt 0 0, pt 0 0, .int .i64 1]

theorem res_cct {P : Program} {fn : Func} {a b s : Tmp} {t u : TypeId} {w : World} {v v' : Value} {p q : Addr} (h : fn.results = #[.cell a t, .cell b u, .tmp s]) (tmps : Array Value) (hp : tmps.getD a undef = .pointer (some p)) (hq : tmps.getD b undef = .pointer (some q))
    (hl : (loadVar t p).run P w = .ok v w) (hm : (loadVar u q).run P w = .ok v' w) : (results fn tmps).run P w = .ok (.tuple #[v, v', tmps.getD s undef]) w := by
  have hp' : tmps[a]?.getD undef = .pointer (some p) := by simpa using hp
  have hq' : tmps[b]?.getD undef = .pointer (some q) := by simpa using hq
  simp only [results, h]
  simp [hp', hq', asAddr, hl, hm]

theorem Pb.low {w : World} {b k c : Nat} {x y : Int} (h : Pb w b x y) (v : Value) (hn : c ≠ b) : Pb (w.setCell ⟨c, k, none⟩ v) b x y := h.other v (Ne.symm hn)

theorem twoPut {w : World} {a b : Nat} {x y u v : Int} (f0 : Pb w a x y) (f1 : Pb w b u v) (hn : a ≠ b) (l0 l1 u0 u1 : Int) :
    let W := (((w.setCell ⟨a, 0, none⟩ (.int .i64 l0)).setCell ⟨a, 1, none⟩ (.int .i64 l1)).setCell ⟨b, 0, none⟩ (.int .i64 u0)).setCell ⟨b, 1, none⟩ (.int .i64 u1)
    Pb W a l0 l1 ∧ Pb W b u0 u1 :=
  ⟨((f0.set l0 l1).other _ hn).other _ hn, ((f1.other _ hn.symm).other _ hn.symm).set u0 u1⟩

theorem belowPut {B : Nat} {z w : World} {a b : Nat} (h : Below B z w) (ha : B ≤ a) (hb : B ≤ b) (v0 v1 v2 v3 : Value) :
    Below B z ((((w.setCell ⟨a, 0, none⟩ v0).setCell ⟨a, 1, none⟩ v1).setCell ⟨b, 0, none⟩ v2).setCell ⟨b, 1, none⟩ v3) :=
  (((h.setCell ha _).setCell ha _).setCell hb _).setCell hb _

theorem twoStart (w : World) : let W := (w.alloc (ptObj 0 0)).alloc (ptObj 0 0)
    Pb W w.heap.size 0 0 ∧ Pb W (w.heap.size + 1) 0 0 ∧ Below w.heap.size w W ∧ W.heap.size = w.heap.size + 2 := by
  have s1 : ∀ (v : World) (o : Obj), (v.alloc o).heap.size = v.heap.size + 1 := fun v o => by simp
  refine ⟨(Pb.new w 0 0).alloc _, ?_, ((Below.refl _ _).alloc (by simp) _).alloc (by simp) _, by simp⟩
  have := Pb.new (w.alloc (ptObj 0 0)) 0 0
  rwa [s1] at this

end Go.Proofs.Ytpknllbglppjcaa

/- Walks: the reference's Box. -/
namespace Go.Proofs.Ytpknllbglppjcaa
open Go Go.RowKit Go.Proofs Go.Abs Go.Plain

end Go.Proofs.Ytpknllbglppjcaa

/- Walks: Box. -/
namespace Go.Proofs.Ytpknllbglppjcaa
open Go Go.RowKit Go.Proofs Go.Abs Go.Plain

theorem lowU_next (xs : Nat → Int) (k : Nat) : lowU xs (k + 1) = if xs k < lowU xs k then xs k else lowU xs k := rfl
theorem highU_next (xs : Nat → Int) (k : Nat) : highU xs (k + 1) = if highU xs k < xs k then xs k else highU xs k := rfl

set_option maxRecDepth 100000 in
set_option maxHeartbeats 8000000 in
theorem box_any (b off cap : Nat) (L : Pl) (hv : vOut L = true) (w : World) (hp : PtsAt w b off L) :
    Calls Try.prog 38 #[.slice (some ⟨b, off, none⟩) L.length cap] w fun e w' => e = .returned (bxV L) ∧ Below w.heap.size w w' := by
  have HV : Hid (bxV L = .tuple #[pt (lowU (px L) L.length) (lowU (py L) L.length), pt (highU (px L) L.length) (highU (py L) L.length), .int .i64 0]) := Lib.hid (by unfold bxV; rw [hv]; rfl)
  obtain ⟨h3, h24, hvp⟩ := vOut_n hv
  have hblt := hp.lt (by omega)
  obtain ⟨f0, f1, bel, hsz⟩ := twoStart w
  have C1 := validOutline_any b off cap L (by omega) _ (hp.keep bel)
  rw [hv] at C1
  have HP := Lib.hid hp
  have HP0 := Lib.hid (show w.cell? ⟨b, off, none⟩ = some (.int .i64 (lowU (px L) 0)) ∧ w.cell? ⟨b, off + 1, none⟩ = some (.int .i64 (lowU (py L) 0)) by
    have := hp 0 (by omega)
    simpa [lowU] using this)
  have HHL := Lib.hid (And.intro (show highU (px L) 0 = lowU (px L) 0 from rfl) (show highU (py L) 0 = lowU (py L) 0 from rfl))
  clear hp hv hvp
  have j0 : (0 : Int) < (L.length : Int) := by omega
  go_enter Try.func38, Try.ntmps38
  go_wp2_with fail
  refine C1.mono ?_
  rintro e w1 ⟨rfl, hb⟩
  replace f0 := f0.keep hb
  replace f1 := f1.keep hb
  replace bel := keep_below bel hb
  have hz1 : w.heap.size + 2 ≤ w1.heap.size := by rw [← hsz]; exact hb.size
  clear hb C1 hsz
  have a0 := keep_cell bel HP0.out.1
  have a1 := keep_cell bel HP0.out.2
  have z00 := f0.f 0
  have z01 := f0.f 1
  have z10 := f1.f 0
  have z11 := f1.f 1
  have e00 := f0.c0
  have e01 := f0.c1
  have e10 := f1.c0
  have e11 := f1.c1
  generalize hl0 : lowU (px L) 0 = x0, hl1 : lowU (py L) 0 = y0 at a0 a1
  have HL := Lib.hid (And.intro hl0 hl1)
  clear hl0 hl1
  go_wp2_with fail
  go_region
  clear a0 a1 z00 z01 z10 z11 e00 e01 e10 e11
  obtain ⟨r0, r1⟩ := twoPut f0 f1 (by omega) x0 y0 x0 y0
  have rb := belowPut bel (Nat.le_refl _) (Nat.le_succ _) (.int .i64 x0) (.int .i64 y0) (.int .i64 x0) (.int .i64 y0)
  clear f0 f1 bel
  have hz2 : w.heap.size + 2 ≤ ((((w1.setCell ⟨w.heap.size, 0, none⟩ (.int .i64 x0)).setCell ⟨w.heap.size, 1, none⟩ (.int .i64 y0)).setCell ⟨w.heap.size + 1, 0, none⟩ (.int .i64 x0)).setCell ⟨w.heap.size + 1, 1, none⟩ (.int .i64 y0)).heap.size := by
    have := r1.lt
    omega
  clear hz1
  go_wp2_with fail
  go_loopw [20] (fun i wr => ∃ k : Nat, k ≤ L.length ∧ i = .int .i64 k ∧ Pb wr w.heap.size (lowU (px L) k) (lowU (py L) k) ∧ Pb wr (w.heap.size + 1) (highU (px L) k) (highU (py L) k) ∧ Below w.heap.size w wr) (fun i _ => L.length - (intOf i).toNat)
  case atStart =>
    refine ⟨0, Nat.zero_le _, rfl, ?_, ?_, rb.drew⟩
    · rw [HL.out.1, HL.out.2]
      exact r0
    · rw [HHL.out.1, HHL.out.2, HL.out.1, HL.out.2]
      exact r1
  case round =>
    clear r0 r1 rb hz2
    obtain ⟨k, hk, rfl, f0, f1, hbel⟩ := hrel
    have hz : w.heap.size + 2 ≤ wr.heap.size := by have := f1.lt; omega
    by_cases hlt : k < L.length
    · have j1 : (k : Int) < (L.length : Int) := by omega
      have a0 := keep_cell hbel (HP.out k hlt).1
      have a1 := keep_cell hbel (HP.out k hlt).2
      have HM := Lib.hid (And.intro (lowU_next (px L) k) (And.intro (lowU_next (py L) k) (And.intro (highU_next (px L) k) (highU_next (py L) k))))
      generalize px L k = x0, py L k = y0, lowU (px L) k = l0, lowU (py L) k = l1, highU (px L) k = u0, highU (py L) k = u1 at a0 a1 f0 f1 HM
      obtain ⟨m0, hm0⟩ : ∃ m, (if x0 < l0 then x0 else l0) = m := ⟨_, rfl⟩
      obtain ⟨m1, hm1⟩ : ∃ m, (if y0 < l1 then y0 else l1) = m := ⟨_, rfl⟩
      obtain ⟨m2, hm2⟩ : ∃ m, (if u0 < x0 then x0 else u0) = m := ⟨_, rfl⟩
      obtain ⟨m3, hm3⟩ : ∃ m, (if u1 < y0 then y0 else u1) = m := ⟨_, rfl⟩
      rw [hm0, hm1, hm2, hm3] at HM
      have ne0 : ¬ wr.heap.size = w.heap.size := by omega
      have ne1 : ¬ wr.heap.size = w.heap.size + 1 := by omega
      have nb0 : ¬ b = w.heap.size := by omega
      have q := Pb.new wr x0 y0
      replace f0 := f0.alloc (ptObj x0 y0)
      replace f1 := f1.alloc (ptObj x0 y0)
      replace hbel := hbel.alloc hbel.size (ptObj x0 y0)
      have c00 := f0.c0
      have c01 := f0.c1
      have c10 := f1.c0
      have c11 := f1.c1
      have z00 := f0.f 0
      have z01 := f0.f 1
      have z10 := f1.f 0
      have z11 := f1.f 1
      have q0 := q.c0
      have q1 := q.c1
      go_wp2_with fail
      obtain ⟨r0, r1⟩ := twoPut f0 f1 (by omega) m0 m1 m2 m3
      have rb := belowPut hbel (Nat.le_refl _) (Nat.le_succ _) (.int .i64 m0) (.int .i64 m1) (.int .i64 m2) (.int .i64 m3)
      refine ⟨⟨k + 1, hlt, by simp, ?_, ?_, rb⟩, by simp [intOf]; omega⟩
      · rw [HM.out.1, HM.out.2.1]
        exact r0
      · rw [HM.out.2.2.1, HM.out.2.2.2]
        exact r1
    · obtain rfl : k = L.length := by omega
      generalize h0 : lowU (px L) L.length = l0, h1 : lowU (py L) L.length = l1, h2 : highU (px L) L.length = u0, h3 : highU (py L) L.length = u1 at f0 f1
      rw [h0, h1, h2, h3] at HV
      clear h0 h1 h2 h3
      have c00 := f0.c0
      have c01 := f0.c1
      have c10 := f1.c0
      have c11 := f1.c1
      have z00 := f0.f 0
      have z01 := f0.f 1
      have z10 := f1.f 0
      have z11 := f1.f 1
      go_wp2_with fail
      go_region
      clear c00 c01 c10 c11 z00 z01 z10 z11
      go_wp2
      obtain ⟨r0, r1⟩ := twoPut f0 f1 (by omega) l0 l1 u0 u1
      refine bodyPost_ret (v := .tuple #[pt l0 l1, pt u0 u1, .int .i64 0]) ?_ rfl ⟨by rw [HV.out], (belowPut hbel (Nat.le_refl _) (Nat.le_succ _) _ _ _ _).drew⟩
      refine res_cct (fn := Try.f38) rfl _ rfl rfl (Pb.load ?_) (Pb.load ?_)
      · exact r0
      · exact r1

theorem box_bad (v : Value) {L : Pl} {w : World} (h : SlV w v L) (hv : vOut L = false) : Calls Try.prog 38 #[v] w fun e w' => e = .returned (bxV L) ∧ Below w.heap.size w w' := by
  obtain ⟨f0, f1, bel, hsz⟩ := twoStart w
  have C1 := vOut_sl (h.keep bel)
  rw [hv] at C1
  have HV : Hid (bxV L = .tuple #[pt 0 0, pt 0 0, .int .i64 1]) := Lib.hid (by unfold bxV; rw [hv]; rfl)
  clear h hv hsz
  go_enter Try.func38, Try.ntmps38
  go_wp2_with fail
  refine C1.mono ?_
  rintro e w1 ⟨rfl, hb⟩
  replace f0 := f0.keep hb
  replace f1 := f1.keep hb
  replace bel := keep_below bel hb
  have c00 := f0.c0
  have c01 := f0.c1
  have c10 := f1.c0
  have c11 := f1.c1
  have z00 := f0.f 0
  have z01 := f0.f 1
  have z10 := f1.f 0
  have z11 := f1.f 1
  clear hb C1
  go_wp2
  obtain ⟨r0, r1⟩ := twoPut f0 f1 (by omega) 0 0 0 0
  refine bodyPost_ret (v := .tuple #[pt 0 0, pt 0 0, .int .i64 1]) ?_ rfl ⟨by rw [HV.out], belowPut bel (Nat.le_refl _) (Nat.le_succ _) _ _ _ _⟩
  refine res_cct (fn := Try.f38) rfl _ rfl rfl (Pb.load ?_) (Pb.load ?_)
  · exact r0
  · exact r1

theorem box_sl {w : World} {v : Value} {L : Pl} (h : SlV w v L) : Calls Try.prog 38 #[v] w fun e w' => e = .returned (bxV L) ∧ Below w.heap.size w w' := by
  cases hv : vOut L
  · exact box_bad v h hv
  · obtain ⟨b, off, cap, rfl, hp⟩ := vOut_pts h hv
    exact box_any b off cap L hv w hp

end Go.Proofs.Ytpknllbglppjcaa
