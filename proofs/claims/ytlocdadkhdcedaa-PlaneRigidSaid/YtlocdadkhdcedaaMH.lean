/- The abstract machine, part MH. -/
import Derived.Test.YtlocdadkhdcedaaME
import Derived.Test.YtlocdadkhdcedaaMF
import Derived.Test.YtlocdadkhdcedaaSB
import Derived.Test.YtlocdadkhdcedaaAwake
/- The law of moves: its parts. -/
namespace Go.Proofs.Ytlocdadkhdcedaa
open Go Go.RowKit Go.Proofs Go.Abs Go.Plain

theorem SlV.at {w : World} {v : Value} {L : Pl} (h : SlV w v L) {k : Nat} (hk : k < L.length) : ∃ b off cap, v = .slice (some ⟨b, off, none⟩) L.length cap ∧ w.cell? ⟨b, off + k * 2, none⟩ = some (.int .i64 (px L k)) ∧ w.cell? ⟨b, off + k * 2 + 1, none⟩ = some (.int .i64 (py L k)) := by
  obtain ⟨a, cap, rfl, hl, ⟨b, off, rfl, hp⟩ | ⟨rfl, rfl, rfl⟩⟩ := h
  · exact ⟨b, off, cap, rfl, hp k hk⟩
  · simp at hk

theorem SlV.shape {w : World} {v : Value} {L : Pl} (h : SlV w v L) : ∃ a cap, v = .slice a L.length cap := by
  obtain ⟨a, cap, rfl, _⟩ := h
  exact ⟨a, cap, rfl⟩

theorem run_pt_neq_same (a b : Int) (w : World) : (binOp .neq 23 (pt a b) (pt a b)).run Try.prog w = .ok (.bool false) w := by
  rw [run_pt_neq]
  simp

set_option maxRecDepth 100000 in
set_option maxHeartbeats 2000000 in
theorem samePts_any {L : Pl} {v1 v2 : Value} (w : World) (h1 : SlV w v1 L) (h2 : SlV w v2 L) (hl : L.length ≤ 1000) :
    Calls Try.prog 28 #[v1, v2] w fun e w' => e = .returned (.bool true) ∧ Below w.heap.size w w' := by
  obtain ⟨a1, c1, rfl⟩ := h1.shape
  obtain ⟨a2, c2, rfl⟩ := h2.shape
  have H1 := Lib.hid h1
  have H2 := Lib.hid h2
  clear h1 h2
  go_enter Try.func28, Try.ntmps28
  go_wp2_with fail
  go_loopw [5] (fun i wr => ∃ k : Nat, k ≤ L.length ∧ i = .int .i64 k ∧ Below w.heap.size w wr) (fun i _ => L.length - (intOf i).toNat)
  case atStart => exact ⟨0, Nat.zero_le _, rfl, Below.refl _ _⟩
  case round =>
    obtain ⟨k, hk, rfl, hbel⟩ := hrel
    by_cases hlt : k < L.length
    · have j1 : (k : Int) < (L.length : Int) := by omega
      obtain ⟨b1, o1, d1, e1, x0, x1⟩ := (H1.out.keep hbel).at hlt
      obtain ⟨b2, o2, d2, e2, y0, y1⟩ := (H2.out.keep hbel).at hlt
      cases e1
      cases e2
      have hq := run_pt_neq_same
      generalize px L k = x at x0 y0
      generalize py L k = y at x1 y1
      go_wp2_with fail
      have G0 := grow_cell x0
      have G1 := grow_cell x1
      have G2 := grow_cell y0
      have G3 := grow_cell y1
      refine wp_region_grow (by kernel_rfl) (by kernel_rfl) ?_
      repeat (go_big_quiet_step (fail))
      refine wpQuiet_nil ?_
      rintro w4 ⟨z, hz⟩
      have hb : Below wr.heap.size wr w4 := by rw [hz]; exact z.b
      clear hz z G0 G1 G2 G3 x0 x1 y0 y1 hq
      have bel4 := keep_below hbel hb
      clear hb
      go_wp2
      exact ⟨⟨k + 1, by omega, by simp, bel4⟩, by simp [intOf]; omega⟩
    · obtain rfl : k = L.length := by omega
      go_wp2
      go_ret
      exact ⟨rfl, hbel⟩

theorem move_sl {w : World} {v : Value} {L : Pl} (h : SlV w v L) (t : Int) (b : Bool) (x y : Int) :
    Calls Try.prog 42 #[v, mo t b x y] w fun e w' => ∃ v s sb E, e = .returned (.tuple #[v, st s sb, .int .i64 E]) ∧ MoveS L t b x y w.heap.size w' v s sb E ∧ Below w.heap.size w w' := by
  cases hg : (vOut L && vMo t x y)
  · exact (move_bad v L t b x y w h hg).mono fun e w' ⟨he, hb⟩ => ⟨_, _, _, _, he, .inl ⟨hg, rfl, rfl, rfl, rfl⟩, hb⟩
  · simp only [Bool.and_eq_true] at hg
    obtain ⟨a, cap, rfl, hl, ⟨b0, off, rfl, hp⟩ | ⟨rfl, rfl, rfl⟩⟩ := h
    · exact move_good b0 off cap L t b x y w hp hg.1 hg.2
    · have := vOut_nil
      rw [hg.1] at this
      cases this

theorem refMove_sl {w : World} {v : Value} {L : Pl} (h : SlV w v L) (t : Int) (b : Bool) (x y : Int) :
    Calls Try.prog 43 #[v, mo t b x y] w fun e w' => ∃ v s sb E, e = .returned (.tuple #[v, st s sb, .int .i64 E]) ∧ MoveS L t b x y w.heap.size w' v s sb E ∧ Below w.heap.size w w' := by
  cases hg : (vOut L && vMo t x y)
  · exact (refMove_bad v L t b x y w h hg).mono fun e w' ⟨he, hb⟩ => ⟨_, _, _, _, he, .inl ⟨hg, rfl, rfl, rfl, rfl⟩, hb⟩
  · simp only [Bool.and_eq_true] at hg
    obtain ⟨a, cap, rfl, hl, ⟨b0, off, rfl, hp⟩ | ⟨rfl, rfl, rfl⟩⟩ := h
    · exact refMove_good b0 off cap L t b x y w hp hg.1 hg.2
    · have := vOut_nil
      rw [hg.1] at this
      cases this

theorem slv_nil (w : World) : SlV w (.slice none 0 0) [] := ⟨none, 0, rfl, by simp, .inr ⟨rfl, rfl, rfl⟩⟩

theorem moveS_same {L : Pl} {t : Int} {b : Bool} {x y : Int} {b1 b2 : Nat} {W1 W2 : World} {v v' : Value} {s s' : Int} {sb sb' : Bool} {E E' : Int} (h1 : MoveS L t b x y b1 W1 v s sb E) (h2 : MoveS L t b x y b2 W2 v' s' sb' E') :
    s = s' ∧ sb = sb' ∧ E = E' ∧ ∃ N : Pl, N.length ≤ 1000 ∧ SlV W1 v N ∧ SlV W2 v' N := by
  rcases h1 with ⟨g, rfl, rfl, rfl, rfl⟩ | ⟨g, p, rfl, rfl, rfl, rfl⟩ | ⟨g, p, o, rfl, rfl, rfl⟩ <;> rcases h2 with ⟨g', rfl, rfl, rfl, rfl⟩ | ⟨g', p', rfl, rfl, rfl, rfl⟩ | ⟨g', p', o', rfl, rfl, rfl⟩
  all_goals first
    | (rw [g] at g'; cases g'; done)
    | (rw [p] at p'; cases p'; done)
    | exact ⟨rfl, rfl, rfl, [], by simp, slv_nil _, slv_nil _⟩
    | skip
  simp only [Bool.and_eq_true] at g
  have hl := vOut_n g.1
  have hN : (placeL (turnL sb' (mvL sb' t.toNat x y L))).length = L.length := by rw [placeL_len, turnL_len, mvL_len]
  refine ⟨rfl, rfl, rfl, placeL (turnL sb' (mvL sb' t.toNat x y L)), by omega, slv_own (by rw [hN]; exact o) (by omega), slv_own (by rw [hN]; exact o') (by omega)⟩

theorem comV_shape (t1 : Int) (b1 : Bool) (x1 y1 t2 : Int) (b2 : Bool) (x2 y2 : Int) : ∃ T B X Y E, comV t1 b1 x1 y1 t2 b2 x2 y2 = .tuple #[mo T B X Y, .int .i64 E] := by
  unfold comV
  split
  · split
    · exact ⟨_, _, _, _, _, rfl⟩
    · exact ⟨_, _, _, _, _, rfl⟩
  · exact ⟨_, _, _, _, _, rfl⟩

theorem invV_shape (t : Int) (b : Bool) (x y : Int) : ∃ T B X Y E, invV t b x y = .tuple #[mo T B X Y, .int .i64 E] := by
  unfold invV
  split
  · exact ⟨_, _, _, _, _, rfl⟩
  · exact ⟨_, _, _, _, _, rfl⟩

theorem moCompose_all (t1 : Int) (b1 : Bool) (x1 y1 t2 : Int) (b2 : Bool) (x2 y2 : Int) : ∃ T B X Y E, (∀ w, Calls Try.prog 46 #[mo t1 b1 x1 y1, mo t2 b2 x2 y2] w fun e w' => e = .returned (.tuple #[mo T B X Y, .int .i64 E]) ∧ Below w.heap.size w w') ∧
    ∀ w, Calls Try.prog 47 #[mo t1 b1 x1 y1, mo t2 b2 x2 y2] w fun e w' => e = .returned (.tuple #[mo T B X Y, .int .i64 E]) ∧ Below w.heap.size w w' := by
  obtain ⟨T, B, X, Y, E, h⟩ := comV_shape t1 b1 x1 y1 t2 b2 x2 y2
  refine ⟨T, B, X, Y, E, ?_, ?_⟩ <;> intro w <;> rw [← h] <;> cases hg : (vMo t1 x1 y1 && vMo t2 x2 y2)
  · exact compose_bad t1 b1 x1 y1 t2 b2 x2 y2 w hg
  · simp only [Bool.and_eq_true] at hg
    exact compose_good t1 b1 x1 y1 t2 b2 x2 y2 w hg.1 hg.2
  · exact refCompose_bad t1 b1 x1 y1 t2 b2 x2 y2 w hg
  · simp only [Bool.and_eq_true] at hg
    exact refCompose_good t1 b1 x1 y1 t2 b2 x2 y2 w hg.1 hg.2

theorem moInvert_all (t : Int) (b : Bool) (x y : Int) : ∃ T B X Y E, (∀ w, Calls Try.prog 48 #[mo t b x y] w fun e w' => e = .returned (.tuple #[mo T B X Y, .int .i64 E]) ∧ Below w.heap.size w w') ∧
    ∀ w, Calls Try.prog 49 #[mo t b x y] w fun e w' => e = .returned (.tuple #[mo T B X Y, .int .i64 E]) ∧ Below w.heap.size w w' := by
  obtain ⟨T, B, X, Y, E, h⟩ := invV_shape t b x y
  refine ⟨T, B, X, Y, E, ?_, ?_⟩ <;> intro w <;> rw [← h]
  · exact invert_any t b x y w
  · exact refInvert_any t b x y w

end Go.Proofs.Ytlocdadkhdcedaa

/- The law PlaneMoves, walked. -/
namespace Go.Proofs.Ytlocdadkhdcedaa
open Go Go.RowKit Go.Proofs Go.Abs Go.Plain

theorem laStart (w : World) (t1 : Int) (b1 : Bool) (x1 y1 t2 : Int) (b2 : Bool) (x2 y2 : Int) : let W := (w.alloc (.cells #[.int .i64 t1, .bool b1, .int .i64 x1, .int .i64 y1] 49)).alloc (.cells #[.int .i64 t2, .bool b2, .int .i64 x2, .int .i64 y2] 49)
    Mb W w.heap.size t1 b1 x1 y1 49 ∧ Mb W (w.heap.size + 1) t2 b2 x2 y2 49 ∧ Below w.heap.size w W := by
  have s1 : ∀ (v : World) (o : Obj), (v.alloc o).heap.size = v.heap.size + 1 := fun v o => by simp
  refine ⟨(Mb.new w t1 b1 x1 y1 49).alloc _, ?_, ((Below.refl _ _).alloc (by simp) _).alloc (by simp) _⟩
  have := Mb.new (w.alloc (.cells #[.int .i64 t1, .bool b1, .int .i64 x1, .int .i64 y1] 49)) t2 b2 x2 y2 49
  rwa [s1] at this

set_option maxRecDepth 100000 in
set_option maxHeartbeats 8000000 in
theorem movesLaw_any (v1 : Value) (L : Pl) (t1 : Int) (b1 : Bool) (x1 y1 t2 : Int) (b2 : Bool) (x2 y2 : Int) (w : World) (h1 : SlV w v1 L) :
    Calls Try.prog 6 #[v1, mo t1 b1 x1 y1, mo t2 b2 x2 y2] w fun e w' => e = .returned (.bool true) ∧ Below w.heap.size w w' := by
  obtain ⟨T, B, X, Y, EC, CC1, CC2⟩ := moCompose_all t1 b1 x1 y1 t2 b2 x2 y2
  obtain ⟨T', B', X', Y', EI, CI1, CI2⟩ := moInvert_all t1 b1 x1 y1
  have S1 := fun w' (hb : Below w.heap.size w w') => move_sl (h1.keep hb) t1 b1 x1 y1
  have S2 := fun w' (hb : Below w.heap.size w w') => refMove_sl (h1.keep hb) t1 b1 x1 y1
  have V1 := fun w => validMotion_any t1 x1 y1 b1 w
  have V2 := fun w => refMotion_any t1 x1 y1 b1 w
  obtain ⟨vm, hvm⟩ : ∃ c, vMo t1 x1 y1 = c := ⟨_, rfl⟩
  rw [hvm] at V1 V2
  clear hvm
  obtain ⟨a1, cap1, rfl, hl1, -⟩ := h1
  obtain ⟨f0, f1, bel⟩ := laStart w t1 b1 x1 y1 t2 b2 x2 y2
  go_enter Try.func6, Try.ntmps6
  go_wp2_with fail
  refine (awake_any _).mono ?_
  rintro e w1 ⟨rfl, hb⟩
  replace f0 := f0.keep hb
  replace f1 := f1.keep hb
  replace bel := keep_below bel hb
  clear hb
  by_cases g1 : (L.length : Int) > 60
  · go_wp2
    go_ret
    exact ⟨rfl, bel⟩
  have c0 := f0.c0
  have c1 := f0.c1
  have c2 := f0.c2
  have c3 := f0.c3
  go_wp2_with fail
  refine (S1 _ bel).mono ?_
  rintro e w2 ⟨va, s, sb, E, rfl, M1, hb⟩
  replace f0 := (f0.keep hb).alloc (stObj s sb)
  replace f1 := (f1.keep hb).alloc (stObj s sb)
  replace bel := keep_below bel hb
  have q1 := Sb.new w2 s sb
  replace bel := bel.alloc bel.size (stObj s sb)
  clear hb c0 c1 c2 c3 S1
  have c0 := f0.c0
  have c1 := f0.c1
  have c2 := f0.c2
  have c3 := f0.c3
  have HM1 := Lib.hid M1
  clear M1
  go_wp2_with fail
  refine (S2 _ bel).mono ?_
  rintro e w3 ⟨vb, s', sb', E', rfl, M2, hb⟩
  obtain ⟨rfl, rfl, rfl, N, hN, o1, o2⟩ := moveS_same HM1.out M2
  have O1 := (o1.keep (((Below.refl _ _).alloc (Nat.le_refl _) (stObj s sb)))).keep hb
  clear M2 HM1 o1 S2
  replace f0 := (f0.keep hb).alloc (stObj s sb)
  replace f1 := (f1.keep hb).alloc (stObj s sb)
  replace q1 := (q1.keep hb).alloc (stObj s sb)
  replace bel := keep_below bel hb
  have q2 := Sb.new w3 s sb
  replace bel := bel.alloc bel.size (stObj s sb)
  have O1' := O1.keep ((Below.refl w3.heap.size w3).alloc (Nat.le_refl _) (stObj s sb))
  have O2' := o2.keep ((Below.refl w3.heap.size w3).alloc (Nat.le_refl _) (stObj s sb))
  clear hb c0 c1 c2 c3 O1 o2
  obtain ⟨w4, hw4⟩ : ∃ w4, w3.alloc (stObj s sb) = w4 := ⟨_, rfl⟩
  rw [hw4] at f0 f1 q1 q2 bel O1' O2'
  have SS := fun x : Grow w4 => samePts_any x.w (O1'.keep x.b) (O2'.keep x.b) hN
  have hq := run_st_neq
  go_wp2_with fail
  clear hw4
  have G0 := grow_cell f0.c0
  have G1 := grow_cell f0.c1
  have G2 := grow_cell f0.c2
  have G3 := grow_cell f0.c3
  have G4 := grow_cell q1.c0
  have G5 := grow_cell q1.c1
  have G6 := grow_cell q2.c0
  have G7 := grow_cell q2.c1
  refine wp_region_grow (by kernel_rfl) (by kernel_rfl) ?_
  repeat (go_big_quiet_step ((first | (go_at_call 28; with_reducible exact calls_grow (SS _)) | (go_at_call 44; with_reducible exact calls_grow (V1 _)) | (go_at_call 45; with_reducible exact calls_grow (V2 _)))))
  refine wpQuiet_nil ?_
  rintro w5 ⟨z, hz⟩
  have hb : Below w4.heap.size w4 w5 := by rw [hz]; exact z.b
  clear hz z G0 G1 G2 G3 G4 G5 G6 G7 V1 V2 SS O1' O2' hN hq q1 q2
  replace f0 := f0.keep hb
  replace f1 := f1.keep hb
  replace bel := keep_below bel hb
  clear hb
  have c0 := f0.c0
  have c1 := f0.c1
  have c2 := f0.c2
  have c3 := f0.c3
  have d0 := f1.c0
  have d1 := f1.c1
  have d2 := f1.c2
  have d3 := f1.c3
  go_wp2_with fail
  refine (CC1 _).mono ?_
  rintro e w6 ⟨rfl, hb⟩
  replace f0 := (f0.keep hb).alloc (.cells #[.int .i64 T, .bool B, .int .i64 X, .int .i64 Y] 49)
  replace f1 := (f1.keep hb).alloc (.cells #[.int .i64 T, .bool B, .int .i64 X, .int .i64 Y] 49)
  replace bel := keep_below bel hb
  replace bel := bel.alloc bel.size (.cells #[.int .i64 T, .bool B, .int .i64 X, .int .i64 Y] 49)
  have p0 := Mb.new w6 T B X Y 49
  clear hb c0 c1 c2 c3 d0 d1 d2 d3
  have c0 := f0.c0
  have c1 := f0.c1
  have c2 := f0.c2
  have c3 := f0.c3
  have d0 := f1.c0
  have d1 := f1.c1
  have d2 := f1.c2
  have d3 := f1.c3
  go_wp2_with fail
  refine (CC2 _).mono ?_
  rintro e w7 ⟨rfl, hb⟩
  replace f0 := (f0.keep hb).alloc (.cells #[.int .i64 T, .bool B, .int .i64 X, .int .i64 Y] 49)
  replace f1 := (f1.keep hb).alloc (.cells #[.int .i64 T, .bool B, .int .i64 X, .int .i64 Y] 49)
  replace bel := keep_below bel hb
  replace bel := bel.alloc bel.size (.cells #[.int .i64 T, .bool B, .int .i64 X, .int .i64 Y] 49)
  replace p0 := (p0.keep hb).alloc (.cells #[.int .i64 T, .bool B, .int .i64 X, .int .i64 Y] 49)
  have p1 := Mb.new w7 T B X Y 49
  clear hb c0 c1 c2 c3 d0 d1 d2 d3
  have c0 := f0.c0
  have c1 := f0.c1
  have c2 := f0.c2
  have c3 := f0.c3
  have d0 := f1.c0
  have d1 := f1.c1
  have d2 := f1.c2
  have d3 := f1.c3
  go_wp2_with fail
  refine (CI1 _).mono ?_
  rintro e w8 ⟨rfl, hb⟩
  replace f0 := (f0.keep hb).alloc (.cells #[.int .i64 T', .bool B', .int .i64 X', .int .i64 Y'] 49)
  replace f1 := (f1.keep hb).alloc (.cells #[.int .i64 T', .bool B', .int .i64 X', .int .i64 Y'] 49)
  replace bel := keep_below bel hb
  replace bel := bel.alloc bel.size (.cells #[.int .i64 T', .bool B', .int .i64 X', .int .i64 Y'] 49)
  replace p0 := (p0.keep hb).alloc (.cells #[.int .i64 T', .bool B', .int .i64 X', .int .i64 Y'] 49)
  replace p1 := (p1.keep hb).alloc (.cells #[.int .i64 T', .bool B', .int .i64 X', .int .i64 Y'] 49)
  have p2 := Mb.new w8 T' B' X' Y' 49
  clear hb c0 c1 c2 c3 d0 d1 d2 d3
  have c0 := f0.c0
  have c1 := f0.c1
  have c2 := f0.c2
  have c3 := f0.c3
  have d0 := f1.c0
  have d1 := f1.c1
  have d2 := f1.c2
  have d3 := f1.c3
  go_wp2_with fail
  refine (CI2 _).mono ?_
  rintro e w9 ⟨rfl, hb⟩
  replace f0 := (f0.keep hb).alloc (.cells #[.int .i64 T', .bool B', .int .i64 X', .int .i64 Y'] 49)
  replace f1 := (f1.keep hb).alloc (.cells #[.int .i64 T', .bool B', .int .i64 X', .int .i64 Y'] 49)
  replace bel := keep_below bel hb
  replace bel := bel.alloc bel.size (.cells #[.int .i64 T', .bool B', .int .i64 X', .int .i64 Y'] 49)
  replace p0 := (p0.keep hb).alloc (.cells #[.int .i64 T', .bool B', .int .i64 X', .int .i64 Y'] 49)
  replace p1 := (p1.keep hb).alloc (.cells #[.int .i64 T', .bool B', .int .i64 X', .int .i64 Y'] 49)
  replace p2 := (p2.keep hb).alloc (.cells #[.int .i64 T', .bool B', .int .i64 X', .int .i64 Y'] 49)
  have p3 := Mb.new w9 T' B' X' Y' 49
  clear hb c0 c1 c2 c3 d0 d1 d2 d3
  have k00 := p0.c0
  have k01 := p0.c1
  have k02 := p0.c2
  have k03 := p0.c3
  have k10 := p1.c0
  have k11 := p1.c1
  have k12 := p1.c2
  have k13 := p1.c3
  have k20 := p2.c0
  have k21 := p2.c1
  have k22 := p2.c2
  have k23 := p2.c3
  have k30 := p3.c0
  have k31 := p3.c1
  have k32 := p3.c2
  have k33 := p3.c3
  go_wp2
  go_ret
  exact ⟨by simp, bel⟩

end Go.Proofs.Ytlocdadkhdcedaa
