/- The abstract machine, part NE. -/
import Derived.Test.YtlocdadkhdcedaaND
import Derived.Test.YtlocdadkhdcedaaSA
import Derived.Test.YtlocdadkhdcedaaKC
import Derived.Test.YtlocdadkhdcedaaS9
import Derived.Deep.AppendLies
import Derived.Deep.RegionLaw
/- Walks: Area, Bends. -/
namespace Go.Proofs.Ytlocdadkhdcedaa
open Go Go.RowKit Go.Proofs Go.Abs Go.Plain

/-- What Area answers. -/
def arV (L : Pl) : Value := if vOut L then .tuple #[.int .i64 (sumL L), .int .i64 0] else .tuple #[.int .i64 0, .int .i64 1]

theorem vOut_pts {w : World} {v : Value} {L : Pl} (h : SlV w v L) (hv : vOut L = true) : ∃ b off cap, v = .slice (some ⟨b, off, none⟩) L.length cap ∧ PtsAt w b off L := by
  obtain ⟨a, cap, rfl, hl, ⟨b, off, rfl, hp⟩ | ⟨rfl, rfl, rfl⟩⟩ := h
  · exact ⟨b, off, cap, rfl, hp⟩
  · cases hv

set_option maxRecDepth 100000 in
set_option maxHeartbeats 2000000 in
theorem area_sl {w : World} {v : Value} {L : Pl} (h : SlV w v L) : Calls Try.prog 31 #[v] w fun e w' => e = .returned (arV L) ∧ Below w.heap.size w w' := by
  have C1 := vOut_sl h
  cases hv : vOut L
  · rw [hv] at C1
    have HV : Hid (arV L = .tuple #[.int .i64 0, .int .i64 1]) := Lib.hid (by unfold arV; rw [hv]; rfl)
    clear h hv
    go_enter Try.func31, Try.ntmps31
    go_wp2_with fail
    refine C1.mono ?_
    rintro e w1 ⟨rfl, hb⟩
    go_wp2
    go_ret2
    exact ⟨by rw [HV.out]; rfl, hb⟩
  · rw [hv] at C1
    have HV : Hid (arV L = .tuple #[.int .i64 (sumL L), .int .i64 0]) := Lib.hid (by unfold arV; rw [hv]; rfl)
    obtain ⟨b, off, cap, rfl, hp⟩ := vOut_pts h hv
    obtain ⟨h3, h24, hvp⟩ := vOut_n hv
    have hsm := vPts_small hvp
    have C2 := fun w' (hb : Below w.heap.size w w') => calls_wide_doubled b off L.length cap (px L) (py L) (by omega) hsm w' (hp.keep hb) ((hp.keep hb).lt (by omega))
    rw [show sumD (px L) (py L) L.length (List.range L.length) = sumL L from rfl] at C2
    obtain ⟨s, hs⟩ : ∃ s, sumL L = s := ⟨_, rfl⟩
    rw [hs] at C2 HV
    clear h hv hp hs hsm hvp
    go_enter Try.func31, Try.ntmps31
    go_wp2_with fail
    refine C1.mono ?_
    rintro e w1 ⟨rfl, hb⟩
    go_wp2_with fail
    refine (C2 w1 hb).mono ?_
    rintro e w2 ⟨rfl, hb2⟩
    have b2 := keep_below hb hb2
    go_wp2
    go_ret2
    exact ⟨by rw [HV.out]; rfl, b2⟩

set_option maxRecDepth 100000 in
set_option maxHeartbeats 2000000 in
theorem refArea_sl {w : World} {v : Value} {L : Pl} (h : SlV w v L) : Calls Try.prog 32 #[v] w fun e w' => e = .returned (arV L) ∧ Below w.heap.size w w' := by
  have C1 := refOut_sl h
  cases hv : vOut L
  · rw [hv] at C1
    have HV : Hid (arV L = .tuple #[.int .i64 0, .int .i64 1]) := Lib.hid (by unfold arV; rw [hv]; rfl)
    clear h hv
    go_enter Try.func32, Try.ntmps32
    go_wp2_with fail
    refine C1.mono ?_
    rintro e w1 ⟨rfl, hb⟩
    go_wp2
    go_ret2
    exact ⟨by rw [HV.out]; rfl, hb⟩
  · rw [hv] at C1
    have HV : Hid (arV L = .tuple #[.int .i64 (sumL L), .int .i64 0]) := Lib.hid (by unfold arV; rw [hv]; rfl)
    obtain ⟨b, off, cap, rfl, hp⟩ := vOut_pts h hv
    obtain ⟨h3, h24, hvp⟩ := vOut_n hv
    have hsm := vPts_small hvp
    have C2 := fun w' (hb : Below w.heap.size w w') => sum_any b off L.length cap (px L) (py L) (by omega) hsm w' (hp.keep hb)
    rw [show sumD (px L) (py L) L.length (List.range L.length) = sumL L from rfl] at C2
    obtain ⟨s, hs⟩ : ∃ s, sumL L = s := ⟨_, rfl⟩
    rw [hs] at C2 HV
    clear h hv hp hs hsm hvp
    go_enter Try.func32, Try.ntmps32
    go_wp2_with fail
    refine C1.mono ?_
    rintro e w1 ⟨rfl, hb⟩
    go_wp2_with fail
    refine (C2 w1 hb).mono ?_
    rintro e w2 ⟨rfl, hb2⟩
    have b2 := keep_below hb hb2
    go_wp2
    go_ret2
    exact ⟨by rw [HV.out]; rfl, b2⟩

/-- What Bends answers. -/
def BendS (L : Pl) (base : Nat) (W : World) (v : Value) (E : Int) : Prop :=
  (vOut L = false ∧ v = .slice none 0 0 ∧ E = 1) ∨ (vOut L = true ∧ W.ownsRow base 3 1 v L.length (bendL (px L) (py L) L.length (List.range L.length)) ∧ E = 0)

set_option maxRecDepth 100000 in
set_option maxHeartbeats 2000000 in
theorem bends_sl {w : World} {v : Value} {L : Pl} (h : SlV w v L) : Calls Try.prog 33 #[v] w fun e w' => ∃ r E, e = .returned (.tuple #[r, .int .i64 E]) ∧ BendS L w.heap.size w' r E ∧ Below w.heap.size w w' := by
  have C1 := vOut_sl h
  cases hv : vOut L
  · rw [hv] at C1
    have HV : Hid (∀ W, BendS L w.heap.size W (.slice none 0 0) 1) := Lib.hid (fun W => .inl ⟨hv, rfl, rfl⟩)
    clear h hv
    go_enter Try.func33, Try.ntmps33
    go_wp2_with fail
    refine C1.mono ?_
    rintro e w1 ⟨rfl, hb⟩
    go_wp2
    go_ret2
    exact ⟨_, _, rfl, HV.out _, hb⟩
  · rw [hv] at C1
    have HV : Hid (∀ W v, W.ownsRow w.heap.size 3 1 v L.length (bendL (px L) (py L) L.length (List.range L.length)) → BendS L w.heap.size W v 0) := Lib.hid (fun W v ho => .inr ⟨hv, ho, rfl⟩)
    obtain ⟨b, off, cap, rfl, hp⟩ := vOut_pts h hv
    obtain ⟨h3, h24, hvp⟩ := vOut_n hv
    have hsm := vPts_small hvp
    have C2 := fun w' (hb : Below w.heap.size w w') => bends_any b off L.length cap (px L) (py L) (by omega) hsm w' (hp.keep hb) ((hp.keep hb).lt (by omega))
    clear h hv hp hsm hvp
    go_enter Try.func33, Try.ntmps33
    go_wp2_with fail
    refine C1.mono ?_
    rintro e w1 ⟨rfl, hb⟩
    go_wp2_with fail
    refine (C2 w1 hb).mono ?_
    rintro e w2 ⟨r, rfl, o2, hb2⟩
    have b2 := keep_below hb hb2
    have HO := Lib.hid (HV.out w2 r (own_low o2 hb.size))
    clear o2
    go_wp2
    go_ret2
    exact ⟨_, _, rfl, HO.out, b2⟩

end Go.Proofs.Ytlocdadkhdcedaa

/- Walks: the reference's Bends. -/
namespace Go.Proofs.Ytlocdadkhdcedaa
open Go Go.RowKit Go.Proofs Go.Abs Go.Plain

theorem bendL_take (xs ys : Nat → Int) (n k : Nat) : bendL xs ys n (List.range (k + 1)) = bendL xs ys n (List.range k) ++ [.int .i64 (bendS xs ys n k)] := by
  rw [List.range_succ, bendL_snoc]

set_option maxRecDepth 100000 in
set_option maxHeartbeats 8000000 in
theorem refBends_sl {w : World} {v : Value} {L : Pl} (h : SlV w v L) : Calls Try.prog 34 #[v] w fun e w' => ∃ r E, e = .returned (.tuple #[r, .int .i64 E]) ∧ BendS L w.heap.size w' r E ∧ Below w.heap.size w w' := by
  have C1 := refOut_sl h
  cases hv : vOut L
  · rw [hv] at C1
    have HV : Hid (∀ W, BendS L w.heap.size W (.slice none 0 0) 1) := Lib.hid (fun W => .inl ⟨hv, rfl, rfl⟩)
    clear h hv
    go_enter Try.func34, Try.ntmps34
    go_wp2_with fail
    refine C1.mono ?_
    rintro e w1 ⟨rfl, hb⟩
    go_wp2
    go_ret2
    exact ⟨_, _, rfl, HV.out _, hb⟩
  · rw [hv] at C1
    have HV : Hid (∀ W v, W.ownsRow w.heap.size 3 1 v L.length (bendL (px L) (py L) L.length (List.range L.length)) → BendS L w.heap.size W v 0) := Lib.hid (fun W v ho => .inr ⟨hv, ho, rfl⟩)
    obtain ⟨b, off, cap, rfl, hp⟩ := vOut_pts h hv
    obtain ⟨h3, h24, hvp⟩ := vOut_n hv
    have HM := Lib.hid (vPts_small hvp)
    have HSB := Lib.hid (fun i (hi : i < L.length) => sg_bend (vOut_str hv i hi))
    have HP := Lib.hid hp
    obtain ⟨i0, hi, hz0, hz1, hz2⟩ := info_parts info3
    clear h hv hp hvp
    go_enter Try.func34, Try.ntmps34
    go_wp2_with fail
    refine C1.mono ?_
    rintro e w1 ⟨rfl, b1⟩
    go_wp2_with fail
    go_loopw [4, 5] (fun v i wr => ∃ k : Nat, k ≤ L.length ∧ i = .int .i64 k ∧ wr.ownsRow w.heap.size 3 1 v k (bendL (px L) (py L) L.length (List.range k)) ∧ Below w.heap.size w wr) (fun _ i _ => L.length - (intOf i).toNat)
    case atStart => exact ⟨0, Nat.zero_le _, rfl, World.ownsRow_nil _ _ _ _, b1⟩
    case round =>
      clear b1
      obtain ⟨k, hk, rfl, hown, hbel⟩ := hrel
      by_cases hlt : k < L.length
      · have j1 : (k : Int) < (L.length : Int) := by omega
        have hk1 : (k + 1) % L.length < L.length := Nat.mod_lt _ (by omega)
        have a0 := keep_cell hbel (HP.out k hlt).1
        have a1 := keep_cell hbel (HP.out k hlt).2
        have HC0 : Hid (∀ i, i < L.length → w.cell? ⟨b, off + i * 2, none⟩ = some (.int .i64 (px L i)) ∧ w.cell? ⟨b, off + i * 2 + 1, none⟩ = some (.int .i64 (py L i))) := Lib.hid HP.out
        have A0 := Lib.hid (at_from (cap := cap) (by omega) HC0 ((k : Int) - 1) ((k + L.length - 1) % L.length) (px L ((k + L.length - 1) % L.length)) (py L ((k + L.length - 1) % L.length)) (Lib.hid ⟨by omega, atN_pred hlt, rfl, rfl⟩))
        have A1 := Lib.hid (at_from (cap := cap) (by omega) HC0 ((k : Int) + 1) ((k + 1) % L.length) (px L ((k + 1) % L.length)) (py L ((k + 1) % L.length)) (Lib.hid ⟨by omega, atN_succ hlt, rfl, rfl⟩))
        have CC := fun w => refCross_any (px L ((k + L.length - 1) % L.length)) (py L ((k + L.length - 1) % L.length)) (px L k) (py L k) (px L ((k + 1) % L.length)) (py L ((k + 1) % L.length)) w (HM.out _).1 (HM.out _).2 (HM.out _).1 (HM.out _).2 (HM.out _).1 (HM.out _).2
        obtain ⟨cv, hcv⟩ : ∃ c, cross (px L ((k + L.length - 1) % L.length)) (py L ((k + L.length - 1) % L.length)) (px L k) (py L k) (px L ((k + 1) % L.length)) (py L ((k + 1) % L.length)) = c := ⟨_, rfl⟩
        rw [hcv] at CC
        have HSG : Hid (Lib.compareInt cv 0 = bendS (px L) (py L) L.length k) := Lib.hid (by rw [← HSB.out k hlt]; unfold sgC; rw [hcv])
        have CS := fun w => sign_any cv w
        obtain ⟨sg, hsg⟩ : ∃ s, Lib.compareInt cv 0 = s := ⟨_, rfl⟩
        rw [hsg] at CS HSG
        have HBT : Hid (bendL (px L) (py L) L.length (List.range (k + 1)) = bendL (px L) (py L) L.length (List.range k) ++ [.int .i64 sg]) := Lib.hid (by rw [bendL_take, HSG.out])
        obtain ⟨xs, hxs⟩ : ∃ xs, bendL (px L) (py L) L.length (List.range k) = xs := ⟨_, rfl⟩
        rw [hxs] at hown HBT
        obtain ⟨x0, hx0⟩ : ∃ x, px L k = x := ⟨_, rfl⟩
        obtain ⟨y0, hy0⟩ : ∃ x, py L k = x := ⟨_, rfl⟩
        obtain ⟨x1, hx1⟩ : ∃ x, px L ((k + 1) % L.length) = x := ⟨_, rfl⟩
        obtain ⟨y1, hy1⟩ : ∃ x, py L ((k + 1) % L.length) = x := ⟨_, rfl⟩
        obtain ⟨x2, hx2⟩ : ∃ x, px L ((k + L.length - 1) % L.length) = x := ⟨_, rfl⟩
        obtain ⟨y2, hy2⟩ : ∃ x, py L ((k + L.length - 1) % L.length) = x := ⟨_, rfl⟩
        rw [hx0] at a0 CC
        rw [hy0] at a1 CC
        rw [hx1] at A1 CC
        rw [hy1] at A1 CC
        rw [hx2] at A0 CC
        rw [hy2] at A0 CC
        clear hx0 hy0 hx1 hy1 hx2 hy2 hcv hsg hxs HSG
        have hbd := hbel.drew
        have a0d : wr.drew.cell? ⟨b, off + k * 2, none⟩ = some (.int .i64 x0) := a0
        have a1d : wr.drew.cell? ⟨b, off + k * 2 + 1, none⟩ = some (.int .i64 y0) := a1
        have hownd := owns_drew 1 hown
        go_wp2_with fail
        have d0 := a0d
        have d1 := a1d
        have T1 : IntKind.i64.wrap ((k : Int) - 1) = (k : Int) - 1 := wi64 _ (by omega)
        have T2 : IntKind.i64.wrap ((k : Int) + 1) = (k : Int) + 1 := wi64 _ (by omega)
        go_region_law (first
          | (refine step_append_lies _ rfl _ _ 38 rfl w.heap.size 3 i0 (.int .i64 0) 1 8 Try.underlying38 hi hz0 hz1 hz2 rfl (by decide) _ _ _ rfl (go3.alloc _) _ 1 1 [.int .i64 sg] rfl rfl (cell_one_new _ _ _) (by simp [Value.oneCell']) (by decide) (by unfold maxLen; omega) (by omega) (by simp; omega) _ rfl ?_; intro g4 cap4 w4 hown1 hgrow hat4 hlt4)
          | (go_simp; go_at_call 96; with_reducible refine (A0.out _ hbd).mono ?_; rintro e w1 ⟨rfl, hb1⟩
             have go1 := own_keep hownd hb1
             have b1 := keep_below hbd hb1
             have p0 := keep_cell hb1 d0
             have p1 := keep_cell hb1 d1)
          | (go_simp; go_at_call 96; with_reducible refine (A1.out _ b1).mono ?_; rintro e w2 ⟨rfl, hb2⟩
             have go2 := own_keep go1 hb2
             have b2 := keep_below b1 hb2
             have q0 := keep_cell hb2 p0
             have q1 := keep_cell hb2 p1)
          | (go_simp; go_at_call 65; refine (CC _).mono ?_; rintro e w3 ⟨rfl, hb3⟩
             have go3 := own_keep go2 hb3
             have b3 := keep_below b2 hb3
             have hz3 : w.heap.size ≤ w3.heap.size := b3.size)
          | (go_simp; go_at_call 75; refine (CS _).mono ?_; rintro e w3' ⟨rfl, rfl⟩))
        all_goals
          have hb4 : Below w.heap.size w w4 := (b3.alloc b3.size (.cells #[.int .i64 sg] 3)).grown hgrow (by have := b3.size; simp; omega) (fun j e => by have := (go3.lt j e).1; omega)
          have hown2 : w4.ownsRow w.heap.size 3 1 (.slice (some ⟨g4, 0, none⟩) (k + 1) cap4) (k + 1) (bendL (px L) (py L) L.length (List.range (k + 1))) := by
            rw [HBT.out]
            exact hown1
          clear T1 T2 hown1 hgrow go1 go2 go3 hb1 hb2 hb3 b1 b2 b3 hz3 p0 p1 q0 q1 hbd hat4 a0 a1 d0 d1 hownd A0 A1 CC CS
          go_wp2
          refine ⟨⟨k + 1, by omega, by simp, hown2, hb4⟩, by simp [intOf]; omega⟩
      · obtain rfl : k = L.length := by omega
        have HO := Lib.hid (HV.out wr _ hown)
        go_wp2
        go_ret2
        exact ⟨_, _, rfl, HO.out, hbel⟩

end Go.Proofs.Ytlocdadkhdcedaa
