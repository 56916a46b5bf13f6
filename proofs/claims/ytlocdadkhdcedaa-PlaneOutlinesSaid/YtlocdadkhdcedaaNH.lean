/- The abstract machine, part NH. -/
import Derived.Test.YtlocdadkhdcedaaNE
import Derived.Test.YtlocdadkhdcedaaMH
import Derived.Test.YtlocdadkhdcedaaXD
import Derived.Test.YtlocdadkhdcedaaNF
import Derived.Test.YtlocdadkhdcedaaNG
import Derived.Test.YtlocdadkhdcedaaAwake
/- Equal answers: Outline, Bends; Outline of nil. -/
namespace Go.Proofs.Ytlocdadkhdcedaa
open Go Go.RowKit Go.Proofs Go.Abs Go.Plain

theorem okO_nil : okO [] = false := rfl

set_option maxRecDepth 100000 in
set_option maxHeartbeats 2000000 in
theorem outline_nil (w : World) : Calls Try.prog 26 #[.slice none 0 0] w fun e w' => ∃ v E, e = .returned (.tuple #[v, .int .i64 E]) ∧ OutS [] w.heap.size w' v E ∧ Below w.heap.size w w' := by
  have HV : Hid (∀ W, OutS [] w.heap.size W (.slice none 0 0) 1) := Lib.hid (fun W => .inl ⟨okO_nil, rfl, rfl⟩)
  go_enter Try.func26, Try.ntmps26
  go_wp2
  go_ret2
  exact ⟨_, _, rfl, HV.out _, Below.refl _ _⟩

set_option maxRecDepth 100000 in
set_option maxHeartbeats 2000000 in
theorem refOutline_nil (w : World) : Calls Try.prog 27 #[.slice none 0 0] w fun e w' => ∃ v E, e = .returned (.tuple #[v, .int .i64 E]) ∧ OutS [] w.heap.size w' v E ∧ Below w.heap.size w w' := by
  have HV : Hid (∀ W, OutS [] w.heap.size W (.slice none 0 0) 1) := Lib.hid (fun W => .inl ⟨okO_nil, rfl, rfl⟩)
  go_enter Try.func27, Try.ntmps27
  go_wp2
  go_ret2
  exact ⟨_, _, rfl, HV.out _, Below.refl _ _⟩

theorem outline_sl {w : World} {v : Value} {L : Pl} (h : SlV w v L) : Calls Try.prog 26 #[v] w fun e w' => ∃ v E, e = .returned (.tuple #[v, .int .i64 E]) ∧ OutS L w.heap.size w' v E ∧ Below w.heap.size w w' := by
  obtain ⟨a, cap, rfl, hl, ⟨b, off, rfl, hp⟩ | ⟨rfl, rfl, rfl⟩⟩ := h
  · exact outline_any b off cap L hl w hp
  · exact outline_nil w

theorem refOutline_sl {w : World} {v : Value} {L : Pl} (h : SlV w v L) (hc : ∀ a n c, v = .slice a n c → n ≤ c) : Calls Try.prog 27 #[v] w fun e w' => ∃ v E, e = .returned (.tuple #[v, .int .i64 E]) ∧ OutS L w.heap.size w' v E ∧ Below w.heap.size w w' := by
  obtain ⟨a, cap, rfl, hl, ⟨b, off, rfl, hp⟩ | ⟨rfl, rfl, rfl⟩⟩ := h
  · exact refOutline_any b off cap L hl (hc _ _ _ rfl) w hp
  · exact refOutline_nil w

theorem outS_same {L : Pl} {b1 b2 : Nat} {W1 W2 : World} {v v' : Value} {E E' : Int} (h1 : OutS L b1 W1 v E) (h2 : OutS L b2 W2 v' E') :
    E = E' ∧ ∃ N : Pl, N.length ≤ 1000 ∧ SlV W1 v N ∧ SlV W2 v' N := by
  rcases h1 with ⟨g, rfl, rfl⟩ | ⟨g, f, rfl, rfl⟩ | ⟨g, f, s, rfl, rfl⟩ | ⟨g, f, s, l, rfl, rfl⟩ | ⟨g, f, s, l, o, rfl⟩ <;> rcases h2 with ⟨g', rfl, rfl⟩ | ⟨g', f', rfl, rfl⟩ | ⟨g', f', s', rfl, rfl⟩ | ⟨g', f', s', l', rfl, rfl⟩ | ⟨g', f', s', l', o', rfl⟩
  all_goals first
    | (rw [g] at g'; cases g'; done)
    | (rw [f] at f'; cases f'; done)
    | (rw [s] at s'; cases s'; done)
    | exact ⟨rfl, [], by simp, slv_nil _, slv_nil _⟩
    | (exfalso; omega)
    | skip
  refine ⟨rfl, normL (leftL L), by rw [normL_len]; omega, slv_own (by rw [normL_len]; exact o) (by rw [normL_len]; omega), slv_own (by rw [normL_len]; exact o') (by rw [normL_len]; omega)⟩

set_option maxRecDepth 100000 in
set_option maxHeartbeats 2000000 in
theorem sameInts_int (g1 g2 c1 c2 s : Nat) (f : Nat → Int) (w : World) (hs : s ≤ 1000000) (h1 : ∀ k, k < s → w.cell? ⟨g1, k, none⟩ = some (.int .i64 (f k))) (h2 : ∀ k, k < s → w.cell? ⟨g2, k, none⟩ = some (.int .i64 (f k))) :
    Calls Try.prog 35 #[.slice (some ⟨g1, 0, none⟩) s c1, .slice (some ⟨g2, 0, none⟩) s c2] w fun e w' => e = .returned (.bool true) ∧ Below w.heap.size w w' := by
  have H1 := Lib.hid h1
  have H2 := Lib.hid h2
  clear h1 h2
  go_enter Try.func35, Try.ntmps35
  go_wp2_with fail
  go_loopw [5] (fun i wr => ∃ k : Nat, k ≤ s ∧ i = .int .i64 k ∧ Below w.heap.size w wr) (fun i _ => s - (intOf i).toNat)
  case atStart => exact ⟨0, Nat.zero_le _, rfl, Below.refl _ _⟩
  case round =>
    obtain ⟨k, hk, rfl, hbel⟩ := hrel
    by_cases hlt : k < s
    · have j1 : (k : Int) < (s : Int) := by omega
      have e1 := keep_cell hbel (H1.out k hlt)
      have e2 := keep_cell hbel (H2.out k hlt)
      go_wp2_with fail
      go_quiet (fail)
      go_wp2
      exact ⟨⟨k + 1, by omega, by simp, below_dn hbel _⟩, by simp [intOf]; omega⟩
    · obtain rfl : s = k := by omega
      go_wp2
      go_ret
      exact ⟨rfl, hbel⟩

theorem bendS_rows {L : Pl} {W : World} {v : Value} {base : Nat} (h : W.ownsRow base 3 1 v L.length (bendL (px L) (py L) L.length (List.range L.length))) (hl : 0 < L.length) : ∃ g c, v = .slice (some ⟨g, 0, none⟩) L.length c ∧ ∀ k, k < L.length → W.cell? ⟨g, k, none⟩ = some (.int .i64 (bendS (px L) (py L) L.length k)) := by
  obtain ⟨g, c, rfl⟩ := own_slice h hl
  refine ⟨g, c, rfl, fun k hk => ?_⟩
  rw [h.cellAt k (by omega)]
  unfold bendL
  rw [List.getElem?_map, List.getElem?_range hk]
  rfl

/-- Two calls of Bends say the same, and SameInts finds it so. -/
theorem bendS_same {L : Pl} {b1 b2 : Nat} {W1 W2 : World} {v v' : Value} {E E' : Int} (h1 : BendS L b1 W1 v E) (h2 : BendS L b2 W2 v' E') :
    E = E' ∧ ∀ w, Below W1.heap.size W1 w → Below W2.heap.size W2 w → Calls Try.prog 35 #[v, v'] w fun e w' => e = .returned (.bool true) ∧ Below w.heap.size w w' := by
  rcases h1 with ⟨g, rfl, rfl⟩ | ⟨g, o, rfl⟩ <;> rcases h2 with ⟨g', rfl, rfl⟩ | ⟨g', o', rfl⟩
  · exact ⟨rfl, fun w _ _ => sameInts_nil w⟩
  · rw [g] at g'; cases g'
  · rw [g] at g'; cases g'
  · obtain ⟨h3, h24, -⟩ := vOut_n g
    obtain ⟨x, c, rfl, hx⟩ := bendS_rows o (by omega)
    obtain ⟨x', c', rfl, hx'⟩ := bendS_rows o' (by omega)
    exact ⟨rfl, fun w k1 k2 => sameInts_int x x' c c' L.length _ w (by omega) (fun k hk => keep_cell k1 (hx k hk)) (fun k hk => keep_cell k2 (hx' k hk))⟩

end Go.Proofs.Ytlocdadkhdcedaa

/- The law PlaneOutlines, walked. -/
namespace Go.Proofs.Ytlocdadkhdcedaa
open Go Go.RowKit Go.Proofs Go.Abs Go.Plain

set_option maxRecDepth 100000 in
set_option maxHeartbeats 8000000 in
theorem outlinesLaw_any (v1 : Value) (L : Pl) (w : World) (h1 : SlV w v1 L) (hc : ∀ a n c, v1 = .slice a n c → n ≤ c) :
    Calls Try.prog 4 #[v1] w fun e w' => e = .returned (.bool true) ∧ Below w.heap.size w w' := by
  have O1 := fun w' (hb : Below w.heap.size w w') => outline_sl (h1.keep hb)
  have O2 := fun w' (hb : Below w.heap.size w w') => refOutline_sl (h1.keep hb) hc
  have V1 := fun w' (hb : Below w.heap.size w w') => vOut_sl (h1.keep hb)
  have V2 := fun w' (hb : Below w.heap.size w w') => refOut_sl (h1.keep hb)
  have A1 := fun w' (hb : Below w.heap.size w w') => area_sl (h1.keep hb)
  have A2 := fun w' (hb : Below w.heap.size w w') => refArea_sl (h1.keep hb)
  have B1 := fun w' (hb : Below w.heap.size w w') => bends_sl (h1.keep hb)
  have B2 := fun w' (hb : Below w.heap.size w w') => refBends_sl (h1.keep hb)
  have G1 := fun w' (hb : Below w.heap.size w w') => grid_sl (h1.keep hb)
  have G2 := fun w' (hb : Below w.heap.size w w') => refGrid_sl (h1.keep hb)
  have X1 := fun w' (hb : Below w.heap.size w w') => box_sl (h1.keep hb)
  have X2 := fun w' (hb : Below w.heap.size w w') => refBox_sl (h1.keep hb)
  obtain ⟨vo, hvo⟩ : ∃ c, vOut L = c := ⟨_, rfl⟩
  obtain ⟨ar, ae, har⟩ : ∃ a e : Int, arV L = .tuple #[.int .i64 a, .int .i64 e] := by unfold arV; split <;> exact ⟨_, _, rfl⟩
  obtain ⟨ga, gb, ge, hgr⟩ : ∃ a b e : Int, grV L = .tuple #[.int .i64 a, .int .i64 b, .int .i64 e] := by unfold grV; split <;> exact ⟨_, _, _, rfl⟩
  obtain ⟨lx, ly, hx, hy, be, hbx⟩ : ∃ a b c d e : Int, bxV L = .tuple #[pt a b, pt c d, .int .i64 e] := by unfold bxV; split <;> exact ⟨_, _, _, _, _, rfl⟩
  rw [hvo] at V1 V2
  rw [har] at A1 A2
  rw [hgr] at G1 G2
  rw [hbx] at X1 X2
  clear hvo har hgr hbx hc
  obtain ⟨a1, cap1, rfl, hl1, -⟩ := h1
  go_enter Try.func4, Try.ntmps4
  go_wp2_with fail
  refine (awake_any _).mono ?_
  rintro e w1 ⟨rfl, bel⟩
  have hd : ((L.length : Int) > 60 ∧ (L.length : Int) ≤ 400) ∨ ((L.length : Int) > 60 ∧ ¬ (L.length : Int) ≤ 400 ∧ (L.length : Int) > 500) ∨ ((¬ (L.length : Int) > 60 ∧ ¬ (L.length : Int) > 500) ∨ ((L.length : Int) > 60 ∧ ¬ (L.length : Int) ≤ 400 ∧ ¬ (L.length : Int) > 500)) := by omega
  rcases hd with ⟨g1, g2⟩ | ⟨g1, g2, g3⟩ | hd
  · go_wp2
    go_ret
    exact ⟨rfl, bel⟩
  · go_wp2
    go_ret
    exact ⟨rfl, bel⟩
  · rcases hd with ⟨g1, g3⟩ | ⟨g1, g2, g3⟩ <;> (
      go_wp2_with fail
      refine (O1 _ bel).mono ?_
      rintro e w2 ⟨va, E, rfl, P1, hb⟩
      replace bel := keep_below bel hb
      have HP1 := Lib.hid P1
      clear P1 hb O1
      go_wp2_with fail
      refine (O2 _ bel).mono ?_
      rintro e w3 ⟨vb, E', rfl, P2, hb⟩
      obtain ⟨rfl, N, hN, o1, o2⟩ := outS_same HP1.out P2
      replace o1 := o1.keep hb
      replace bel := keep_below bel hb
      clear P2 HP1 hb O2
      have SS := samePts_any w3 o1 o2 hN
      clear o1 o2 hN
      go_wp2_with fail
      refine SS.mono ?_
      rintro e w4 ⟨rfl, hb⟩
      replace bel := keep_below bel hb
      clear hb SS
      go_wp2_with fail
      refine (V1 _ bel).mono ?_
      rintro e w5 ⟨rfl, hb⟩
      replace bel := keep_below bel hb
      clear hb V1
      go_wp2_with fail
      refine (V2 _ bel).mono ?_
      rintro e w6 ⟨rfl, hb⟩
      replace bel := keep_below bel hb
      clear hb V2
      go_wp2_with fail
      refine (A1 _ bel).mono ?_
      rintro e w7 ⟨rfl, hb⟩
      replace bel := keep_below bel hb
      clear hb A1
      go_wp2_with fail
      refine (A2 _ bel).mono ?_
      rintro e w8 ⟨rfl, hb⟩
      replace bel := keep_below bel hb
      clear hb A2
      go_wp2_with fail
      refine (B1 _ bel).mono ?_
      rintro e w9 ⟨vc, E2, rfl, P1, hb⟩
      replace bel := keep_below bel hb
      have HP1 := Lib.hid P1
      clear P1 hb B1
      go_wp2_with fail
      refine (B2 _ bel).mono ?_
      rintro e w10 ⟨vd, E2', rfl, P2, hb⟩
      obtain ⟨rfl, SI⟩ := bendS_same HP1.out P2
      replace SI := SI _ hb (Below.refl _ _)
      replace bel := keep_below bel hb
      clear P2 HP1 hb B2
      go_wp2_with fail
      refine SI.mono ?_
      rintro e w11 ⟨rfl, hb⟩
      replace bel := keep_below bel hb
      clear hb SI
      go_wp2_with fail
      refine (G1 _ bel).mono ?_
      rintro e w12 ⟨rfl, hb⟩
      replace bel := keep_below bel hb
      clear hb G1
      go_wp2_with fail
      refine (G2 _ bel).mono ?_
      rintro e w13 ⟨rfl, hb⟩
      replace bel := keep_below bel hb
      clear hb G2
      go_wp2_with fail
      refine (X1 _ bel).mono ?_
      rintro e w14 ⟨rfl, hb⟩
      replace bel := keep_below bel hb
      clear hb X1
      have s1 : ∀ (v : World) (o : Obj), (v.alloc o).heap.size = v.heap.size + 1 := fun v o => by simp
      have q1 := (Pb.new w14 lx ly).alloc (ptObj hx hy)
      have q2 := Pb.new (w14.alloc (ptObj lx ly)) hx hy
      rw [s1] at q2
      replace bel := (bel.alloc bel.size (ptObj lx ly)).alloc (by rw [s1]; have := bel.size; omega) (ptObj hx hy)
      clear s1
      go_wp2_with fail
      refine (X2 _ bel).mono ?_
      rintro e w15 ⟨rfl, hb⟩
      replace bel := keep_below bel hb
      replace q1 := ((q1.keep hb).alloc (ptObj lx ly)).alloc (ptObj hx hy)
      replace q2 := ((q2.keep hb).alloc (ptObj lx ly)).alloc (ptObj hx hy)
      clear hb X2
      have s1 : ∀ (v : World) (o : Obj), (v.alloc o).heap.size = v.heap.size + 1 := fun v o => by simp
      have q3 := (Pb.new w15 lx ly).alloc (ptObj hx hy)
      have q4 := Pb.new (w15.alloc (ptObj lx ly)) hx hy
      rw [s1] at q4
      replace bel := (bel.alloc bel.size (ptObj lx ly)).alloc (by rw [s1]; have := bel.size; omega) (ptObj hx hy)
      clear s1
      have k10 := q1.c0
      have k11 := q1.c1
      have k20 := q2.c0
      have k21 := q2.c1
      have k30 := q3.c0
      have k31 := q3.c1
      have k40 := q4.c0
      have k41 := q4.c1
      go_wp2
      go_ret
      exact ⟨by simp, bel⟩)

end Go.Proofs.Ytlocdadkhdcedaa
