/- The abstract machine, part ME. -/
import Derived.Test.YtlocdadkhdcedaaMC
import Derived.Test.YtlocdadkhdcedaaRA
import Derived.Test.YtlocdadkhdcedaaMD
import Derived.Test.YtlocdadkhdcedaaS9
import Derived.Deep.AppendLies
import Derived.Deep.RegionLaw
/- Walks: the reference's placed. -/
namespace Go.Proofs.Ytlocdadkhdcedaa
open Go Go.RowKit Go.Proofs Go.Abs Go.Plain

set_option maxRecDepth 100000 in
set_option maxHeartbeats 4000000 in
theorem placed_any (b off cap : Nat) (L : Pl) (hs : 0 < L.length) (hs2 : L.length ≤ 1000) (hcap : L.length ≤ cap) (w : World) (hp : PtsAt w b off L) :
    Calls Try.prog 91 #[.slice (some ⟨b, off, none⟩) L.length cap] w fun e w' => ∃ v, e = .returned v ∧ w'.ownsRow w.heap.size 23 2 v L.length (ptCells (placeL L)) ∧ Below w.heap.size w w' := by
  obtain ⟨i0, hi, hz0, hz1, hz2⟩ := info_parts info23
  have HP := Lib.hid hp
  have HD := Lib.hid (fun k (x : Grow w) => And.intro (pts_cells (pts_drop (hp.keep x.b) k)) (pts_cells (pts_take (hp.keep x.b) k)))
  have hkl := leastL_lt hs
  have hR := leastR_eq (px L) (py L) L.length
  have HRL : Hid (∀ k, k < L.length → 0 < k → leastR (px L) (py L) k < L.length) := Lib.hid (fun k hk h0 => by
    rw [leastR_eq]
    have := leastK_lt (px L) (py L) k h0
    omega)
  have hpl : placeL L = L.drop (leastR (px L) (py L) L.length) ++ L.take (leastR (px L) (py L) L.length) := by
    rw [hR]
    rfl
  have HPL := Lib.hid hpl
  rw [← hR] at hkl
  clear hp hR hpl
  obtain ⟨n, hn⟩ : ∃ n, L.length = n := ⟨_, rfl⟩
  have HN := Lib.hid hn
  rw [hn] at hs hs2 hcap hkl HRL HPL ⊢
  clear hn
  have hn0 : ¬ (n = 0) := by omega
  go_enter Try.func91, Try.ntmps91
  go_wp2_with fail
  go_loopw [3, 4] (fun f i wr => ∃ k : Nat, k ≤ n ∧ i = .int .i64 k ∧ f = .int .i64 (leastR (px L) (py L) k : Nat) ∧ Below w.heap.size w wr) (fun _ i _ => n - (intOf i).toNat)
  case atStart => exact ⟨0, Nat.zero_le _, rfl, rfl, Below.refl _ _⟩
  case round =>
    obtain ⟨k, hk, rfl, rfl, hbel⟩ := hrel
    by_cases hlt : k < n
    · have hll : leastR (px L) (py L) k < n := by
        rcases Nat.eq_zero_or_pos k with rfl | h
        · exact hs
        · exact HRL.out k hlt h
      have HS : Hid (leastR (px L) (py L) (k + 1) = if lessS (px L k) (py L k) (px L (leastR (px L) (py L) k)) (py L (leastR (px L) (py L) k)) = true then k else leastR (px L) (py L) k) := Lib.hid rfl
      obtain ⟨f, hf⟩ : ∃ f, leastR (px L) (py L) k = f := ⟨_, rfl⟩
      rw [hf] at hll HS ⊢
      clear hf
      have j1 : (k : Int) < (n : Int) := by omega
      have j2 : (f : Int) < (n : Int) := by omega
      have a0 := keep_cell hbel (HP.out k (by rw [HN.out]; exact hlt)).1
      have a1 := keep_cell hbel (HP.out k (by rw [HN.out]; exact hlt)).2
      have a2 := keep_cell hbel (HP.out f (by rw [HN.out]; exact hll)).1
      have a3 := keep_cell hbel (HP.out f (by rw [HN.out]; exact hll)).2
      have CL := fun w => less_any (px L k) (py L k) (px L f) (py L f) w
      obtain ⟨lv, hlv⟩ : ∃ lv, lessS (px L k) (py L k) (px L f) (py L f) = lv := ⟨_, rfl⟩
      rw [hlv] at CL HS
      clear hlv
      generalize px L k = x0, py L k = y0, px L f = x1, py L f = y1 at a0 a1 a2 a3 CL
      have G0 := grow_cell a0
      have G1 := grow_cell a1
      have G2 := grow_cell a2
      have G3 := grow_cell a3
      go_wp2_with fail
      refine wp_region_grow (by kernel_rfl) (by kernel_rfl) ?_
      repeat (go_big_quiet_step ((first | (go_at_call 95; with_reducible exact calls_grow (CL _)))))
      refine wpQuiet_nil ?_
      rintro w2 ⟨x, hx⟩
      have hb : Below wr.heap.size wr w2 := by rw [hx]; exact x.b
      clear hx x G0 G1 G2 G3 a0 a1 a2 a3 CL
      have hbel2 := keep_below hbel hb
      clear hb hbel
      cases lv
      · go_wp2
        exact ⟨⟨k + 1, by omega, by simp, by rw [HS.out]; rfl, hbel2⟩, by simp [intOf]; omega⟩
      · go_wp2
        exact ⟨⟨k + 1, by omega, by simp, by rw [HS.out]; rfl, hbel2⟩, by simp [intOf]; omega⟩
    · obtain rfl : k = n := by omega
      obtain ⟨f, hf⟩ : ∃ f, leastR (px L) (py L) k = f := ⟨_, rfl⟩
      rw [hf] at hkl HPL ⊢
      clear hf HRL
      have lA : (L.drop f).length = k - f := by rw [List.length_drop, HN.out]
      have lB : (L.take f).length = f := by rw [List.length_take, HN.out]; omega
      have LA := Lib.hid (ptCells_len (L.drop f))
      have LB := Lib.hid (ptCells_len (L.take f))
      rw [lA] at LA
      rw [lB] at LB
      have j1 : (f : Int) < (k : Int) := by omega
      have j2 : (f : Int) ≤ (k : Int) := by omega
      have j3 : (f : Int) ≤ (cap : Int) := by omega
      have j4 : ¬ cap = f := by omega
      have HD1 := (HD.out f ⟨_, hbel⟩).1
      have hsz := hbel.size
      have HPL2 : Hid (ptCells (placeL L) = ptCells (L.drop f) ++ ptCells (L.take f)) := Lib.hid (by rw [HPL.out, ptCells_append])
      have HDw := Lib.hid (fun (x : Grow w) => (HD.out f x).2)
      have HO := Lib.hid (And.intro (ptCells_one (L.drop f)) (ptCells_one (L.take f)))
      obtain ⟨xa, hxa⟩ : ∃ xs, ptCells (L.drop f) = xs := ⟨_, rfl⟩
      obtain ⟨xb, hxb⟩ : ∃ xs, ptCells (L.take f) = xs := ⟨_, rfl⟩
      rw [hxa, hxb] at HO HPL2
      rw [hxa] at LA HD1
      rw [hxb] at LB HDw
      clear hxa hxb lA lB HD HPL
      have tok1 := trivial
      have tok2 := trivial
      go_wp2_with (first
        | (at_builtin; have _t := tok1; refine wpList_append_own _ rfl _ _ 32 rfl w.heap.size 23 i0 (pt 0 0) 2 16 Try.underlying32 hi hz0 hz1 hz2 rfl (by decide) _ _ _ rfl (World.ownsRow_nil wr w.heap.size 23 2) ⟨b, off + f * 2, none⟩ (k - f) _ xa rfl LA.out HD1 HO.out.1 (by unfold maxLen; omega) (by omega) hsz ?_; intro v6 w6 hown6 hg6 _; clear tok1; have hb6 : Below w.heap.size w w6 := hbel.grown hg6 hsz (fun j e => by cases e)
           have HB6 := HDw.out ⟨_, hb6⟩
           have hsz6 := hb6.size)
        | (at_builtin; have _t := tok2; refine wpList_append_own _ rfl _ _ 32 rfl w.heap.size 23 i0 (pt 0 0) 2 16 Try.underlying32 hi hz0 hz1 hz2 rfl (by decide) _ _ _ rfl hown6 ⟨b, off, none⟩ f _ xb rfl LB.out HB6 HO.out.2 (by unfold maxLen; omega) (by omega) hsz6 ?_; intro v7 w7 hown7 hg7 _; clear tok2))
      go_ret
      refine ⟨_, rfl, ?_, hb6.grown hg7 hsz6 (fun j e => (hown6.lt j e).1)⟩
      rw [HPL2.out]
      have := hown7
      rw [show 0 + (k - f) + f = k by omega] at this
      simpa using this

end Go.Proofs.Ytlocdadkhdcedaa

/- Walks: the reference's Move. -/
namespace Go.Proofs.Ytlocdadkhdcedaa
open Go Go.RowKit Go.Proofs Go.Abs Go.Plain

set_option maxRecDepth 100000 in
set_option maxHeartbeats 4000000 in
theorem refMove_bad (v1 : Value) (L : Pl) (t : Int) (b : Bool) (x y : Int) (w : World) (h1 : SlV w v1 L) (hbad : (vOut L && vMo t x y) = false) :
    Calls Try.prog 43 #[v1, mo t b x y] w fun e w' => e = .returned (.tuple #[.slice none 0 0, st 0 false, .int .i64 1]) ∧ Below w.heap.size w w' := by
  have C1 := fun w' (hb : Below w.heap.size w w') => refOut_sl (h1.keep hb)
  have C2 := fun w => refMotion_any t x y b w
  obtain ⟨c1, hc1⟩ : ∃ c, vOut L = c := ⟨_, rfl⟩
  obtain ⟨c2, hc2⟩ : ∃ c, vMo t x y = c := ⟨_, rfl⟩
  rw [hc1, hc2] at hbad
  rw [hc1] at C1
  rw [hc2] at C2
  clear hc1 hc2 h1
  obtain ⟨f0, f1, bel, hsz⟩ := mvStart w t b x y
  go_enter Try.func43, Try.ntmps43
  go_wp2_with fail
  refine (C1 _ bel).mono ?_
  rintro e w1 ⟨rfl, hb⟩
  replace f0 := f0.keep hb
  replace f1 := f1.keep hb
  replace bel := keep_below bel hb
  clear hb C1
  cases c1
  · have z0 := f1.f 0
    have z1 := f1.f 1
    have e0 := f1.c0
    have e1 := f1.c1
    go_wp2
    refine bodyPost_ret (v := .tuple #[.slice none 0 0, st 0 false, .int .i64 1]) ?_ rfl ⟨rfl, (bel.setCell (Nat.le_succ _) _).setCell (Nat.le_succ _) _⟩
    exact (res_tct (fn := Try.f43) rfl _ (by rfl) (f1.set _ _).load).trans (by rfl)
  · obtain rfl : c2 = false := by simpa using hbad
    have c0 := f0.c0
    have c1 := f0.c1
    have c3 := f0.c2
    have c4 := f0.c3
    go_wp2_with fail
    refine (C2 _).mono ?_
    rintro e w2 ⟨rfl, hb⟩
    replace f1 := f1.keep hb
    replace bel := keep_below bel hb
    have z0 := f1.f 0
    have z1 := f1.f 1
    have e0 := f1.c0
    have e1 := f1.c1
    clear hb
    go_wp2
    refine bodyPost_ret (v := .tuple #[.slice none 0 0, st 0 false, .int .i64 1]) ?_ rfl ⟨rfl, (bel.setCell (Nat.le_succ _) _).setCell (Nat.le_succ _) _⟩
    exact (res_tct (fn := Try.f43) rfl _ (by rfl) (f1.set _ _).load).trans (by rfl)

set_option maxRecDepth 100000 in
set_option maxHeartbeats 8000000 in
theorem refMove_good (b0 off cap : Nat) (L : Pl) (t : Int) (b : Bool) (x y : Int) (w : World) (hP : PtsAt w b0 off L) (ho : vOut L = true) (hm : vMo t x y = true) :
    Calls Try.prog 43 #[.slice (some ⟨b0, off, none⟩) L.length cap, mo t b x y] w fun e w' => ∃ v s sb E, e = .returned (.tuple #[v, st s sb, .int .i64 E]) ∧ MoveS L t b x y w.heap.size w' v s sb E ∧ Below w.heap.size w w' := by
  obtain ⟨h3, h24, hv⟩ := vOut_n ho
  have hsm := vPts_small hv
  have C1 := fun w' (hb : Below w.heap.size w w') => rOut_any (b := b0) (off := off) (cap := cap) (L := L) (by omega) w' (hP.keep hb)
  rw [ho] at C1
  have C2 := fun w => refMotion_any t x y b w
  rw [hm] at C2
  have CA := Lib.hid (fun k w => moved_any t x y (px L k) (py L k) b w hm (hsm k))
  have HT := Lib.hid (fun k => mvL_take (b := b) (t := t.toNat) (x := x) (y := y) (L := L) (k := k))
  have HAp := Lib.hid ((vOut_apart ho).mv b t.toNat x y)
  have hML := mvL_len b t.toNat x y L
  have HMS : Hid (∀ W v s sb E, MoveS L t b x y w.heap.size W v s sb E ↔ ((vPts (mvL b t.toNat x y L) = false ∧ v = .slice none 0 0 ∧ s = 0 ∧ sb = false ∧ E = 2) ∨
      (vPts (mvL b t.toNat x y L) = true ∧ W.ownsRow w.heap.size 23 2 v L.length (ptCells (placeL (turnL b (mvL b t.toNat x y L)))) ∧
    s = (shiftS b L.length (leastK (px (turnL b (mvL b t.toNat x y L))) (py (turnL b (mvL b t.toNat x y L))) L.length) : Nat) ∧ sb = b ∧ E = 0))) := Lib.hid (fun W v s sb E => by
    unfold MoveS
    rw [ho, hm]
    simp)
  obtain ⟨M, hM⟩ : ∃ M, mvL b t.toNat x y L = M := ⟨_, rfl⟩
  rw [hM] at HT HAp hML HMS
  obtain ⟨i0, hi, hz0, hz1, hz2⟩ := info_parts info23
  obtain ⟨n, hn⟩ : ∃ n, L.length = n := ⟨_, rfl⟩
  have HC := Lib.hid (fun k (hk : k < n) => hP k (by rw [hn]; exact hk))
  rw [hn] at C1 HT hML HMS h3 h24 ⊢
  clear hsm hv hP ho hm hM
  obtain ⟨f0, f1, bel, hsz⟩ := mvStart w t b x y
  go_enter Try.func43, Try.ntmps43
  go_wp2_with fail
  refine (C1 _ bel).mono ?_
  rintro e w1 ⟨rfl, hb⟩
  replace f0 := f0.keep hb
  replace f1 := f1.keep hb
  replace bel := keep_below bel hb
  have hz1' : w.heap.size + 2 ≤ w1.heap.size := by rw [← hsz]; exact hb.size
  clear hb C1 hsz
  have c0 := f0.c0
  have c1 := f0.c1
  have c3 := f0.c2
  have c4 := f0.c3
  go_wp2_with fail
  refine (C2 _).mono ?_
  rintro e w2 ⟨rfl, hb⟩
  replace f0 := f0.keep hb
  replace f1 := f1.keep hb
  replace bel := keep_below bel hb
  replace hz1' := Nat.le_trans hz1' hb.size
  clear hb c0 c1 c3 c4 C2
  go_wp2_with fail
  go_loopw [7, 8] (fun v i wr => ∃ k : Nat, k ≤ n ∧ i = .int .i64 k ∧ wr.ownsRow (w.heap.size + 2) 23 2 v k (ptCells (M.take k)) ∧ Mb wr w.heap.size t b x y 49 ∧ Sb wr (w.heap.size + 1) 0 false ∧ Below w.heap.size w wr ∧ w.heap.size + 2 ≤ wr.heap.size) (fun _ i _ => n - (intOf i).toNat)
  case atStart => exact ⟨0, Nat.zero_le _, rfl, World.ownsRow_nil _ _ _ _, f0, f1, bel, hz1'⟩
  case round =>
    clear f0 f1 bel hz1'
    obtain ⟨k, hk, rfl, hown, f0, f1, hbel, hz⟩ := hrel
    by_cases hlt : k < n
    · have j1 : (k : Int) < (n : Int) := by omega
      have a0 := keep_cell hbel (HC.out k hlt).1
      have a1 := keep_cell hbel (HC.out k hlt).2
      have A := CA.out k
      have HTk := Lib.hid (HT.out k (by omega))
      obtain ⟨x0, hx⟩ : ∃ x, px L k = x := ⟨_, rfl⟩
      obtain ⟨y0, hy⟩ : ∃ y, py L k = y := ⟨_, rfl⟩
      rw [hx] at a0 A HTk
      rw [hy] at a1 A HTk
      clear hx hy
      obtain ⟨q, hq⟩ : ∃ q, mvP b t.toNat x y (x0, y0) = q := ⟨_, rfl⟩
      rw [hq] at A HTk
      clear hq
      obtain ⟨xs, hxs⟩ : ∃ xs, ptCells (M.take k) = xs := ⟨_, rfl⟩
      obtain ⟨ys, hys⟩ : ∃ ys, ptCells (M.take (k + 1)) = ys := ⟨_, rfl⟩
      rw [hxs] at hown HTk
      rw [hys] at HTk
      have HYS := Lib.hid hys
      clear hxs hys
      have c0 := f0.c0
      have c1 := f0.c1
      have c3 := f0.c2
      have c4 := f0.c3
      have hownd := owns_drew 1 hown
      have g0 := f0
      have hbd := hbel.drew
      go_wp2_with fail
      go_region_law (first
        | (refine step_append_lies _ rfl _ _ 32 rfl (w.heap.size + 2) 23 i0 (pt 0 0) 2 16 Try.underlying32 hi hz0 hz1 hz2 rfl (by decide) _ _ _ rfl (go1.alloc _) _ 1 1 [.int .i64 q.1, .int .i64 q.2] rfl rfl (two_new _ _ _) (two_cells _ _) (by decide) (by unfold maxLen; omega) (by omega) (by simp; omega) _ rfl ?_; intro g4 cap4 w4 hown1 hgrow hat4 hlt4)
        | (go_simp; go_at_call 107; refine (A _).mono ?_; rintro e w3 ⟨rfl, hb⟩
           have go1 := own_keep hownd hb
           have hz3 : w.heap.size + 2 ≤ w3.heap.size := Nat.le_trans hz hb.size))
      all_goals
        have g0 := f0.keep (w' := w3) ⟨hb.os, hb.tape, hb.output, hb.size, hb.block⟩
        have g1 := f1.keep (w' := w3) ⟨hb.os, hb.tape, hb.output, hb.size, hb.block⟩
        have hb2 : Below w.heap.size w w3 := keep_below hbd hb
        have r0 : some w.heap.size ≠ _ := fun e => by have := (go1.lt _ e.symm).1; omega
        have r1 : some (w.heap.size + 1) ≠ _ := fun e => by have := (go1.lt _ e.symm).1; omega
        have g2 := (g0.alloc (ptObj q.1 q.2)).grown hgrow r0
        have g3 := (g1.alloc (ptObj q.1 q.2)).grown hgrow r1
        have hb3 : Below w.heap.size w w4 := (hb2.alloc hb2.size (ptObj q.1 q.2)).grown hgrow (by have := hb2.size; simp; omega) (fun j e => by have := (go1.lt j e).1; omega)
        have hz4 : w.heap.size + 2 ≤ w4.heap.size := Nat.le_trans (by simp; omega) hgrow.size
        have hown2 : w4.ownsRow (w.heap.size + 2) 23 2 (.slice (some ⟨g4, 0, none⟩) (k + 1) cap4) (k + 1) (ptCells (M.take (k + 1))) := by
          rw [HYS.out, HTk.out]
          exact hown1
        clear hown1 hgrow go1 hb hbd c0 c1 c3 c4 hat4 a0 a1 hownd
        go_wp2
        refine ⟨⟨k + 1, by omega, by simp, hown2, g2, g3, hb3, hz4⟩, by simp [intOf]; omega⟩
    · obtain rfl : k = n := by omega
      rw [show M.take k = M by rw [← hML]; exact List.take_length] at hown
      clear HT CA HC
      obtain ⟨g, cg, rfl⟩ := own_slice hown (by omega)
      have P1 : PtsAt wr g 0 M := own_at hML hown
      have CV := refPoints_any (px M) (py M) g 0 k cg wr (by omega) (fun j hj => P1 j (by omega))
      rw [← hML] at CV
      rw [show allValid (px M) (py M) M.length = vPts M from rfl, hML] at CV
      obtain ⟨vp, hvp⟩ : ∃ vp, vPts M = vp := ⟨_, rfl⟩
      rw [hvp] at CV HMS
      go_wp2_with fail
      refine CV.mono ?_
      rintro e w1 ⟨rfl, hb⟩
      replace f0 := f0.keep hb
      replace f1 := f1.keep hb
      replace hbel := keep_below hbel hb
      replace hown := own_keep hown hb
      replace hz := Nat.le_trans hz hb.size
      clear hb CV P1
      cases vp
      · have z0 := f1.f 0
        have z1 := f1.f 1
        have e0 := f1.c0
        have e1 := f1.c1
        go_wp2
        refine bodyPost_ret (v := .tuple #[.slice none 0 0, st 0 false, .int .i64 2]) ?_ rfl ⟨_, 0, false, 2, rfl, (HMS.out _ _ _ _ _).2 (.inl (by simp)), (hbel.setCell (Nat.le_succ _) _).setCell (Nat.le_succ _) _⟩
        exact (res_tct (fn := Try.f43) rfl _ (by rfl) (f1.set _ _).load).trans (by rfl)
      · have P1 : PtsAt w1 g 0 M := own_at hML hown
        have a0 := (P1 0 (by omega)).1
        have a1 := (P1 0 (by omega)).2
        have a2 := (P1 1 (by omega)).1
        have a3 := (P1 1 (by omega)).2
        simp only [Nat.zero_mul, Nat.add_zero, Nat.zero_add, Nat.one_mul, Nat.reduceAdd] at a0 a1 a2 a3
        have HP1 := Lib.hid P1
        clear P1
        have HMV := Lib.hid (And.intro (show M.getD 0 (0, 0) = (px M 0, py M 0) from rfl) (show M.getD 1 (0, 0) = (px M 1, py M 1) from rfl))
        obtain ⟨ax, hax⟩ : ∃ v, px M 0 = v := ⟨_, rfl⟩
        obtain ⟨ay, hay⟩ : ∃ v, py M 0 = v := ⟨_, rfl⟩
        obtain ⟨bx, hbx⟩ : ∃ v, px M 1 = v := ⟨_, rfl⟩
        obtain ⟨b_y, hby⟩ : ∃ v, py M 1 = v := ⟨_, rfl⟩
        rw [hax] at a0 HMV
        rw [hay] at a1 HMV
        rw [hbx] at a2 HMV
        rw [hby] at a3 HMV
        clear hax hay hbx hby
        have q0 := Pb.new w1 ax ay
        have q1 := Pb.new (w1.alloc (ptObj ax ay)) bx b_y
        have bb := (hbel.alloc hbel.size (ptObj ax ay))
        have bb2 := bb.alloc bb.size (ptObj bx b_y)
        have q0' := q0.alloc (ptObj bx b_y)
        have g0 := (f0.alloc (ptObj ax ay)).alloc (ptObj bx b_y)
        have g1 := (f1.alloc (ptObj ax ay)).alloc (ptObj bx b_y)
        have ho := (hown.alloc (ptObj ax ay)).alloc (ptObj bx b_y)
        have c1 := g0.c1
        have a2' := pt_old w1 (ptObj ax ay) a2
        have a3' := pt_old w1 (ptObj ax ay) a3
        have j0 : (0 : Int) < (k : Int) := by omega
        have j1 : (1 : Int) < (k : Int) := by omega
        have HK3 := Lib.hid h3
        have qa := q0'
        have qb : Pb ((w1.alloc (ptObj ax ay)).alloc (ptObj bx b_y)) (w1.heap.size + 1) bx b_y := by
          have s1 : ∀ (v : World) (o : Obj), (v.alloc o).heap.size = v.heap.size + 1 := fun v o => by simp
          rwa [s1] at q1
        clear q0 q1 q0' hown f0 f1 hbel bb
        have bb := bb2
        clear bb2
        cases b
        · go_wp2_with fail
          obtain ⟨wT, hwT⟩ : ∃ wT, (w1.alloc (ptObj ax ay)).alloc (ptObj bx b_y) = wT := ⟨_, rfl⟩
          obtain ⟨gT, hgT⟩ : ∃ gT, g = gT := ⟨_, rfl⟩
          obtain ⟨cT, hcT⟩ : ∃ cT, cg = cT := ⟨_, rfl⟩
          have oT : wT.ownsRow (w.heap.size + 2) 23 2 (.slice (some ⟨gT, 0, none⟩) k cT) k (ptCells (turnL false M)) := by rw [← hwT, ← hgT, ← hcT]; exact ho
          change Calls Try.prog 91 #[.slice (some ⟨g, 0, none⟩) k cg] ((w1.alloc (ptObj ax ay)).alloc (ptObj bx b_y)) _
          rw [hwT, hgT, hcT]
          rw [hwT] at qa qb g0 g1 bb
          clear hwT hgT hcT ho c1 a0 a1 a2 a3 a2' a3' HP1
          have hTl : (turnL false M).length = k := by rw [turnL_len, hML]
          have HL := leastL_lt (L := turnL false M) (by omega)
          rw [hTl] at HL
          obtain ⟨m, hm⟩ : ∃ m, leastK (px (turnL false M)) (py (turnL false M)) k = m := ⟨_, rfl⟩
          have hpl : placeL (turnL false M) = rotL m (turnL false M) := by unfold placeL; rw [hTl, hm]
          rw [hm] at HL HMS
          have HSh := Lib.hid (fun j (hj : j < k) => shift_only (b := false) (M := M) (m := m) (k := j) (by omega) (by omega) HAp.out (by omega))
          rw [hML, ← hpl] at HSh
          have hNl : (placeL (turnL false M)).length = k := by rw [placeL_len, hTl]
          have hSlt : shiftS false k m < k := by unfold shiftS; split <;> exact Nat.mod_lt _ (by omega)
          have HS : Hid (((shiftS false k m : Nat) : Int) = (shiftS false k m : Nat)) := Lib.hid rfl
          have CP := placed_any gT 0 cT (turnL false M) (by omega) (by omega) (by have := own_capP oT; omega) wT (own_at hTl oT)
          rw [hTl] at CP
          clear hpl hm HL
          have hsz3 : w.heap.size + 2 ≤ wT.heap.size := by have := qb.lt; omega
          refine CP.mono ?_
          rintro e w3 ⟨v7, rfl, oN, hb⟩
          obtain ⟨g7, c7, rfl⟩ := own_slice oN (by omega)
          replace qa := qa.keep hb
          replace qb := qb.keep hb
          replace g0 := g0.keep hb
          replace g1 := g1.keep hb
          have hlow : w.heap.size ≤ wT.heap.size := bb.size
          have hg7 := (own_capP oN).2.2
          replace bb := keep_below bb hb
          have PN : PtsAt w3 g7 0 (placeL (turnL false M)) := own_at hNl oN
          clear CP hb oT
          obtain ⟨S, hS⟩ : ∃ S, shiftS false k m = S := ⟨_, rfl⟩
          rw [hS] at HSh HMS hSlt HS
          clear hS
          obtain ⟨N, hN⟩ : ∃ N, placeL (turnL false M) = N := ⟨_, rfl⟩
          rw [hN] at HSh hNl PN
          have HC0 : Hid (∀ i, i < k → w3.cell? ⟨g7, 0 + i * 2, none⟩ = some (.int .i64 (px N i)) ∧ w3.cell? ⟨g7, 0 + i * 2 + 1, none⟩ = some (.int .i64 (py N i))) := Lib.hid (fun i hi => PN i (by omega))
          go_wp2_with fail
          go_loopw [13] (fun i wr => ∃ j : Nat, j ≤ S ∧ i = .int .i64 j ∧ Below w3.heap.size w3 wr) (fun i _ => k - (intOf i).toNat)
          case atStart => exact ⟨0, Nat.zero_le _, rfl, Below.refl _ _⟩
          case round =>
            obtain ⟨j, hjS, rfl, hb3⟩ := hrel
            have jj : (j : Int) < (k : Int) := by omega
            have hjk : j < k := by omega
            have hj1k : (j + 1) % k < k := Nat.mod_lt _ (by omega)
            have A1' := at_from (cap := c7) (by omega) HC0 ((j : Int) + 1) ((j + 1) % k) (px N ((j + 1) % k)) (py N ((j + 1) % k)) (Lib.hid ⟨by omega, atN_succ hjk, rfl, rfl⟩)
            have A1 := fun x : Grow wr => A1' x.w (keep_below hb3 x.b)
            clear A1'
            have G0 := grow_cell (keep_cell hb3 (HC0.out j hjk).1)
            have G1 := grow_cell (keep_cell hb3 (HC0.out j hjk).2)
            rw [Nat.zero_add] at G0 G1
            have G4 := grow_cell (keep_cell hb3 qa.c0)
            have G5 := grow_cell (keep_cell hb3 qa.c1)
            have G6 := grow_cell (keep_cell hb3 qb.c0)
            have G7 := grow_cell (keep_cell hb3 qb.c1)
            have G2 := trivial
            have G3 := trivial
            have HH := HSh.out j hjk
            rw [HMV.out.1, HMV.out.2, show N.getD j (0, 0) = (px N j, py N j) from rfl, show N.getD ((j + 1) % k) (0, 0) = (px N ((j + 1) % k), py N ((j + 1) % k)) from rfl] at HH
            generalize px N j = x0, py N j = y0, px N ((j + 1) % k) = x1, py N ((j + 1) % k) = y1 at A1 G0 G1 HH
            have E1 := fun w => run_pt_eql x0 y0 ax ay w
            have E2 := fun w => run_pt_eql x1 y1 bx b_y w
            have E3 := fun w => run_pt_eql x0 y0 bx b_y w
            have E4 := fun w => run_pt_eql x1 y1 ax ay w
            have HE : ((((x0 == ax && y0 == ay) && (x1 == bx && y1 == b_y)) || ((x0 == bx && y0 == b_y) && (x1 == ax && y1 == ay))) = decide (j = S)) := by
              rw [Bool.eq_iff_iff, decide_eq_true_eq, ← HH]
              simp only [Bool.or_eq_true, Bool.and_eq_true, beq_iff_eq, Prod.mk.injEq]
            clear HH
            obtain ⟨e1, he1⟩ : ∃ b, (x0 == ax && y0 == ay) = b := ⟨_, rfl⟩
            obtain ⟨e2, he2⟩ : ∃ b, (x1 == bx && y1 == b_y) = b := ⟨_, rfl⟩
            obtain ⟨e3, he3⟩ : ∃ b, (x0 == bx && y0 == b_y) = b := ⟨_, rfl⟩
            obtain ⟨e4, he4⟩ : ∃ b, (x1 == ax && y1 == ay) = b := ⟨_, rfl⟩
            rw [he1, he2, he3, he4] at HE
            rw [he1] at E1
            rw [he2] at E2
            rw [he3] at E3
            rw [he4] at E4
            clear he1 he2 he3 he4
            replace HE := Lib.hid HE
            cases e1
            · cases e3
              · go_wp2_with fail
                refine wp_region_grow (by kernel_rfl) (by kernel_rfl) ?_
                repeat (go_big_quiet_step ((first | (go_at_call 96; with_reducible exact calls_grow (A1 _)))))
                refine wpQuiet_nil ?_
                rintro w9 ⟨x, hx⟩
                have hb : Below wr.heap.size wr w9 := by rw [hx]; exact x.b
                clear hx x G0 G1 G2 G3 G4 G5 G6 G7 A1 E1 E2 E3 E4
                have hb9 := keep_below hb3 hb
                clear hb
                have hne : ¬ j = S := of_decide_eq_false (by rw [← HE.out]; rfl)
                go_wp2
                exact ⟨⟨j + 1, by omega, by simp, hb9⟩, by simp [intOf]; omega⟩
              · cases e4
                · go_wp2_with fail
                  refine wp_region_grow (by kernel_rfl) (by kernel_rfl) ?_
                  repeat (go_big_quiet_step ((first | (go_at_call 96; with_reducible exact calls_grow (A1 _)))))
                  refine wpQuiet_nil ?_
                  rintro w9 ⟨x, hx⟩
                  have hb : Below wr.heap.size wr w9 := by rw [hx]; exact x.b
                  clear hx x G0 G1 G2 G3 G4 G5 G6 G7 A1 E1 E2 E3 E4
                  have hb9 := keep_below hb3 hb
                  clear hb
                  have hne : ¬ j = S := of_decide_eq_false (by rw [← HE.out]; rfl)
                  go_wp2
                  exact ⟨⟨j + 1, by omega, by simp, hb9⟩, by simp [intOf]; omega⟩
                · go_wp2_with fail
                  refine wp_region_grow (by kernel_rfl) (by kernel_rfl) ?_
                  repeat (go_big_quiet_step ((first | (go_at_call 96; with_reducible exact calls_grow (A1 _)))))
                  refine wpQuiet_nil ?_
                  rintro w9 ⟨x, hx⟩
                  have hb : Below wr.heap.size wr w9 := by rw [hx]; exact x.b
                  clear hx x G0 G1 G2 G3 G4 G5 G6 G7 A1 E1 E2 E3 E4
                  have hb9 := keep_below hb3 hb
                  clear hb
                  have hj : j = S := of_decide_eq_true (by rw [← HE.out]; rfl)
                  subst hj
                  have u0 := g0.keep hb9
                  have u1 := g1.keep hb9
                  have u2 := own_low (own_keep oN hb9) hlow
                  have u3 := keep_below bb hb9
                  have c1 := u0.c1
                  have z0 := u1.f 0
                  have z1 := u1.f 1
                  have e0 := u1.c0
                  have e1 := u1.c1
                  go_wp2_with fail
                  go_region
                  all_goals
                    clear c1 z0 z1 e0 e1
                    have o6 : ((w9.setCell ⟨w.heap.size + 1, 0, none⟩ (.int .i64 (j : Nat))).setCell ⟨w.heap.size + 1, 1, none⟩ (.bool false)).ownsRow w.heap.size 23 2 (.slice (some ⟨g7, 0, none⟩) k c7) k (ptCells (placeL (turnL false M))) :=
                      u2.kept ((grownBy_set _ _ _ _).trans (grownBy_set _ _ _ _)) (.inr (by simp [Value.ownBlock]; omega))
                    have o7 := owns_drew 1 o6
                    have b6 := below_drewN (below_two (v0 := .int .i64 (j : Nat)) (v1 := .bool false) u3 (Nat.le_succ w.heap.size)) 1
                    have q6 := (u1.set (j : Nat) false).drew
                    go_wp2
                    refine bodyPost_ret (v := .tuple #[.slice (some ⟨g7, 0, none⟩) k c7, st (j : Nat) false, .int .i64 0]) ?_ rfl ⟨_, _, false, 0, rfl, (HMS.out _ _ _ _ _).2 (.inr ⟨by simp, o7, rfl, rfl, rfl⟩), b6⟩
                    exact (res_tct (fn := Try.f43) rfl _ (by rfl) q6.load).trans (by rfl)
            · cases e2
              · cases e3
                · go_wp2_with fail
                  refine wp_region_grow (by kernel_rfl) (by kernel_rfl) ?_
                  repeat (go_big_quiet_step ((first | (go_at_call 96; with_reducible exact calls_grow (A1 _)))))
                  refine wpQuiet_nil ?_
                  rintro w9 ⟨x, hx⟩
                  have hb : Below wr.heap.size wr w9 := by rw [hx]; exact x.b
                  clear hx x G0 G1 G2 G3 G4 G5 G6 G7 A1 E1 E2 E3 E4
                  have hb9 := keep_below hb3 hb
                  clear hb
                  have hne : ¬ j = S := of_decide_eq_false (by rw [← HE.out]; rfl)
                  go_wp2
                  exact ⟨⟨j + 1, by omega, by simp, hb9⟩, by simp [intOf]; omega⟩
                · cases e4
                  · go_wp2_with fail
                    refine wp_region_grow (by kernel_rfl) (by kernel_rfl) ?_
                    repeat (go_big_quiet_step ((first | (go_at_call 96; with_reducible exact calls_grow (A1 _)))))
                    refine wpQuiet_nil ?_
                    rintro w9 ⟨x, hx⟩
                    have hb : Below wr.heap.size wr w9 := by rw [hx]; exact x.b
                    clear hx x G0 G1 G2 G3 G4 G5 G6 G7 A1 E1 E2 E3 E4
                    have hb9 := keep_below hb3 hb
                    clear hb
                    have hne : ¬ j = S := of_decide_eq_false (by rw [← HE.out]; rfl)
                    go_wp2
                    exact ⟨⟨j + 1, by omega, by simp, hb9⟩, by simp [intOf]; omega⟩
                  · go_wp2_with fail
                    refine wp_region_grow (by kernel_rfl) (by kernel_rfl) ?_
                    repeat (go_big_quiet_step ((first | (go_at_call 96; with_reducible exact calls_grow (A1 _)))))
                    refine wpQuiet_nil ?_
                    rintro w9 ⟨x, hx⟩
                    have hb : Below wr.heap.size wr w9 := by rw [hx]; exact x.b
                    clear hx x G0 G1 G2 G3 G4 G5 G6 G7 A1 E1 E2 E3 E4
                    have hb9 := keep_below hb3 hb
                    clear hb
                    have hj : j = S := of_decide_eq_true (by rw [← HE.out]; rfl)
                    subst hj
                    have u0 := g0.keep hb9
                    have u1 := g1.keep hb9
                    have u2 := own_low (own_keep oN hb9) hlow
                    have u3 := keep_below bb hb9
                    have c1 := u0.c1
                    have z0 := u1.f 0
                    have z1 := u1.f 1
                    have e0 := u1.c0
                    have e1 := u1.c1
                    go_wp2_with fail
                    go_region
                    all_goals
                      clear c1 z0 z1 e0 e1
                      have o6 : ((w9.setCell ⟨w.heap.size + 1, 0, none⟩ (.int .i64 (j : Nat))).setCell ⟨w.heap.size + 1, 1, none⟩ (.bool false)).ownsRow w.heap.size 23 2 (.slice (some ⟨g7, 0, none⟩) k c7) k (ptCells (placeL (turnL false M))) :=
                        u2.kept ((grownBy_set _ _ _ _).trans (grownBy_set _ _ _ _)) (.inr (by simp [Value.ownBlock]; omega))
                      have o7 := owns_drew 1 o6
                      have b6 := below_drewN (below_two (v0 := .int .i64 (j : Nat)) (v1 := .bool false) u3 (Nat.le_succ w.heap.size)) 1
                      have q6 := (u1.set (j : Nat) false).drew
                      go_wp2
                      refine bodyPost_ret (v := .tuple #[.slice (some ⟨g7, 0, none⟩) k c7, st (j : Nat) false, .int .i64 0]) ?_ rfl ⟨_, _, false, 0, rfl, (HMS.out _ _ _ _ _).2 (.inr ⟨by simp, o7, rfl, rfl, rfl⟩), b6⟩
                      exact (res_tct (fn := Try.f43) rfl _ (by rfl) q6.load).trans (by rfl)
              · go_wp2_with fail
                refine wp_region_grow (by kernel_rfl) (by kernel_rfl) ?_
                repeat (go_big_quiet_step ((first | (go_at_call 96; with_reducible exact calls_grow (A1 _)))))
                refine wpQuiet_nil ?_
                rintro w9 ⟨x, hx⟩
                have hb : Below wr.heap.size wr w9 := by rw [hx]; exact x.b
                clear hx x G0 G1 G2 G3 G4 G5 G6 G7 A1 E1 E2 E3 E4
                have hb9 := keep_below hb3 hb
                clear hb
                have hj : j = S := of_decide_eq_true (by rw [← HE.out]; rfl)
                subst hj
                have u0 := g0.keep hb9
                have u1 := g1.keep hb9
                have u2 := own_low (own_keep oN hb9) hlow
                have u3 := keep_below bb hb9
                have c1 := u0.c1
                have z0 := u1.f 0
                have z1 := u1.f 1
                have e0 := u1.c0
                have e1 := u1.c1
                go_wp2_with fail
                go_region
                all_goals
                  clear c1 z0 z1 e0 e1
                  have o6 : ((w9.setCell ⟨w.heap.size + 1, 0, none⟩ (.int .i64 (j : Nat))).setCell ⟨w.heap.size + 1, 1, none⟩ (.bool false)).ownsRow w.heap.size 23 2 (.slice (some ⟨g7, 0, none⟩) k c7) k (ptCells (placeL (turnL false M))) :=
                    u2.kept ((grownBy_set _ _ _ _).trans (grownBy_set _ _ _ _)) (.inr (by simp [Value.ownBlock]; omega))
                  have o7 := owns_drew 1 o6
                  have b6 := below_drewN (below_two (v0 := .int .i64 (j : Nat)) (v1 := .bool false) u3 (Nat.le_succ w.heap.size)) 1
                  have q6 := (u1.set (j : Nat) false).drew
                  go_wp2
                  refine bodyPost_ret (v := .tuple #[.slice (some ⟨g7, 0, none⟩) k c7, st (j : Nat) false, .int .i64 0]) ?_ rfl ⟨_, _, false, 0, rfl, (HMS.out _ _ _ _ _).2 (.inr ⟨by simp, o7, rfl, rfl, rfl⟩), b6⟩
                  exact (res_tct (fn := Try.f43) rfl _ (by rfl) q6.load).trans (by rfl)
        · have hRl : M.reverse.length = k := by rw [List.length_reverse, hML]
          have HTk : Hid (∀ j, j < k → ptCells (M.reverse.take (j + 1)) = ptCells (M.reverse.take j) ++ [.int .i64 (px M (k - 1 - j)), .int .i64 (py M (k - 1 - j))]) := Lib.hid (fun j hj => by
            rw [List.take_add_one, getD_some (by omega), rev_getD (by omega), hML]
            exact ptCells_snoc _ _ _)
          have hbw : Below w1.heap.size w1 ((w1.alloc (ptObj ax ay)).alloc (ptObj bx b_y)) := ((Below.refl _ _).alloc (Nat.le_refl _) _).alloc (by simp) _
          have HP2 := Lib.hid (HP1.out.keep hbw)
          obtain ⟨w5, hw5⟩ : ∃ w5, (w1.alloc (ptObj ax ay)).alloc (ptObj bx b_y) = w5 := ⟨_, rfl⟩
          rw [hw5] at qa qb g0 g1 bb HP2 ho
          have z5 : w1.heap.size + 1 + 1 = w5.heap.size := by rw [← hw5]; simp
          have c1' := g0.c1
          have hz5 : w.heap.size + 2 ≤ w5.heap.size := by have := qb.lt; omega
          go_wp2_with fail
          clear hw5 hbw HP1 c1 a0 a1 a2 a3 a2' a3' c1' ho
          go_loopw [11, 12] (fun v i wr => ∃ (j : Nat) (i' : Int), j ≤ k ∧ i = .int .i64 i' ∧ i' + j + 1 = k ∧ wr.ownsRow w5.heap.size 23 2 v j (ptCells (M.reverse.take j)) ∧ Below w5.heap.size w5 wr) (fun v i _ => (intOf i + 1).toNat)
          case atStart => exact ⟨0, _, Nat.zero_le _, rfl, by omega, World.ownsRow_nil _ _ _ _, Below.refl _ _⟩
          case round =>
            obtain ⟨j, i', hjk, rfl, hij, hown, hb3⟩ := hrel
            by_cases hlt : 0 ≤ i'
            · obtain ⟨i, rfl⟩ : ∃ i : Nat, i' = (i : Int) := ⟨i'.toNat, by omega⟩
              have HTj := Lib.hid (HTk.out j (by omega))
              have hi0 : i < k := by omega
              have d0 := keep_cell hb3 (HP2.out i (by omega)).1
              have d1 := keep_cell hb3 (HP2.out i (by omega)).2
              rw [Nat.zero_add] at d0 d1
              rw [show k - 1 - j = i by omega] at HTj
              have j5 : (i : Int) < (k : Int) := by omega
              obtain ⟨x0, hx⟩ : ∃ x, px M i = x := ⟨_, rfl⟩
              obtain ⟨y0, hy⟩ : ∃ y, py M i = y := ⟨_, rfl⟩
              rw [hx] at d0 HTj
              rw [hy] at d1 HTj
              clear hx hy
              obtain ⟨xs, hxs⟩ : ∃ xs, ptCells (M.reverse.take j) = xs := ⟨_, rfl⟩
              rw [hxs] at hown HTj
              clear hxs
              have hs3 := hb3.size
              go_wp2_with (at_builtin; refine wpList_append_own _ rfl _ _ 32 rfl w5.heap.size 23 i0 (pt 0 0) 2 16 Try.underlying32 hi hz0 hz1 hz2 rfl (by decide) _ _ _ rfl (hown.alloc _) _ 1 1 [.int .i64 x0, .int .i64 y0] rfl rfl (two_new _ _ _) (two_cells _ _) (by unfold maxLen; omega) (by omega) (by simp; omega) ?_; intro v1 w4 hown1 hgrow _)
              refine ⟨⟨j + 1, (i : Int) - 1, by omega, rfl, by omega, ?_, (hb3.alloc hs3 _).grown hgrow (by simp; omega) (fun l e => (hown.lt l e).1)⟩, by simp [intOf]⟩
              rw [HTj.out]
              exact hown1
            · obtain rfl : j = k := by omega
              rw [show M.reverse.take j = M.reverse by rw [← hRl]; exact List.take_length] at hown
              clear HTk HP2
              obtain ⟨gT, cT, rfl⟩ := own_slice hown (by omega)
              have oT : wr.ownsRow (w.heap.size + 2) 23 2 (.slice (some ⟨gT, 0, none⟩) j cT) j (ptCells (turnL true M)) := own_low hown hz5
              clear hown
              replace qa := qa.keep hb3
              replace qb := qb.keep hb3
              replace g0 := g0.keep hb3
              replace g1 := g1.keep hb3
              replace bb := keep_below bb hb3
              clear hb3 z5 hz5
              obtain ⟨k, hk⟩ : ∃ k, j = k := ⟨_, rfl⟩
              obtain ⟨wT, hwT⟩ : ∃ wT, wr = wT := ⟨_, rfl⟩
              rw [hk] at hML HMS h24 h3 hRl oT
              rw [hwT] at qa qb g0 g1 bb oT
              go_wp2_with fail
              have hTl : (turnL true M).length = k := by rw [turnL_len, hML]
              have HL := leastL_lt (L := turnL true M) (by omega)
              rw [hTl] at HL
              obtain ⟨m, hm⟩ : ∃ m, leastK (px (turnL true M)) (py (turnL true M)) k = m := ⟨_, rfl⟩
              have hpl : placeL (turnL true M) = rotL m (turnL true M) := by unfold placeL; rw [hTl, hm]
              rw [hm] at HL HMS
              have HSh := Lib.hid (fun j (hj : j < k) => shift_only (b := true) (M := M) (m := m) (k := j) (by omega) (by omega) HAp.out (by omega))
              rw [hML, ← hpl] at HSh
              have hNl : (placeL (turnL true M)).length = k := by rw [placeL_len, hTl]
              have hSlt : shiftS true k m < k := by unfold shiftS; split <;> exact Nat.mod_lt _ (by omega)
              have HS : Hid (((shiftS true k m : Nat) : Int) = (shiftS true k m : Nat)) := Lib.hid rfl
              have CP := placed_any gT 0 cT (turnL true M) (by omega) (by omega) (by have := own_capP oT; omega) wT (own_at hTl oT)
              rw [hTl] at CP
              clear hpl hm HL
              have hsz3 : w.heap.size + 2 ≤ wT.heap.size := by have := qb.lt; omega
              refine CP.mono ?_
              rintro e w3 ⟨v7, rfl, oN, hb⟩
              obtain ⟨g7, c7, rfl⟩ := own_slice oN (by omega)
              replace qa := qa.keep hb
              replace qb := qb.keep hb
              replace g0 := g0.keep hb
              replace g1 := g1.keep hb
              have hlow : w.heap.size ≤ wT.heap.size := bb.size
              have hg7 := (own_capP oN).2.2
              replace bb := keep_below bb hb
              have PN : PtsAt w3 g7 0 (placeL (turnL true M)) := own_at hNl oN
              clear CP hb oT
              obtain ⟨S, hS⟩ : ∃ S, shiftS true k m = S := ⟨_, rfl⟩
              rw [hS] at HSh HMS hSlt HS
              clear hS
              obtain ⟨N, hN⟩ : ∃ N, placeL (turnL true M) = N := ⟨_, rfl⟩
              rw [hN] at HSh hNl PN
              have HC0 : Hid (∀ i, i < k → w3.cell? ⟨g7, 0 + i * 2, none⟩ = some (.int .i64 (px N i)) ∧ w3.cell? ⟨g7, 0 + i * 2 + 1, none⟩ = some (.int .i64 (py N i))) := Lib.hid (fun i hi => PN i (by omega))
              go_wp2_with fail
              go_loopw [13] (fun i wr => ∃ j : Nat, j ≤ S ∧ i = .int .i64 j ∧ Below w3.heap.size w3 wr) (fun i _ => k - (intOf i).toNat)
              case atStart => exact ⟨0, Nat.zero_le _, rfl, Below.refl _ _⟩
              case round =>
                obtain ⟨j, hjS, rfl, hb3⟩ := hrel
                have jj : (j : Int) < (k : Int) := by omega
                have hjk : j < k := by omega
                have hj1k : (j + 1) % k < k := Nat.mod_lt _ (by omega)
                have A1' := at_from (cap := c7) (by omega) HC0 ((j : Int) + 1) ((j + 1) % k) (px N ((j + 1) % k)) (py N ((j + 1) % k)) (Lib.hid ⟨by omega, atN_succ hjk, rfl, rfl⟩)
                have A1 := fun x : Grow wr => A1' x.w (keep_below hb3 x.b)
                clear A1'
                have G0 := grow_cell (keep_cell hb3 (HC0.out j hjk).1)
                have G1 := grow_cell (keep_cell hb3 (HC0.out j hjk).2)
                rw [Nat.zero_add] at G0 G1
                have G4 := grow_cell (keep_cell hb3 qa.c0)
                have G5 := grow_cell (keep_cell hb3 qa.c1)
                have G6 := grow_cell (keep_cell hb3 qb.c0)
                have G7 := grow_cell (keep_cell hb3 qb.c1)
                have G2 := trivial
                have G3 := trivial
                have HH := HSh.out j hjk
                rw [HMV.out.1, HMV.out.2, show N.getD j (0, 0) = (px N j, py N j) from rfl, show N.getD ((j + 1) % k) (0, 0) = (px N ((j + 1) % k), py N ((j + 1) % k)) from rfl] at HH
                generalize px N j = x0, py N j = y0, px N ((j + 1) % k) = x1, py N ((j + 1) % k) = y1 at A1 G0 G1 HH
                have E1 := fun w => run_pt_eql x0 y0 ax ay w
                have E2 := fun w => run_pt_eql x1 y1 bx b_y w
                have E3 := fun w => run_pt_eql x0 y0 bx b_y w
                have E4 := fun w => run_pt_eql x1 y1 ax ay w
                have HE : ((((x0 == ax && y0 == ay) && (x1 == bx && y1 == b_y)) || ((x0 == bx && y0 == b_y) && (x1 == ax && y1 == ay))) = decide (j = S)) := by
                  rw [Bool.eq_iff_iff, decide_eq_true_eq, ← HH]
                  simp only [Bool.or_eq_true, Bool.and_eq_true, beq_iff_eq, Prod.mk.injEq]
                clear HH
                obtain ⟨e1, he1⟩ : ∃ b, (x0 == ax && y0 == ay) = b := ⟨_, rfl⟩
                obtain ⟨e2, he2⟩ : ∃ b, (x1 == bx && y1 == b_y) = b := ⟨_, rfl⟩
                obtain ⟨e3, he3⟩ : ∃ b, (x0 == bx && y0 == b_y) = b := ⟨_, rfl⟩
                obtain ⟨e4, he4⟩ : ∃ b, (x1 == ax && y1 == ay) = b := ⟨_, rfl⟩
                rw [he1, he2, he3, he4] at HE
                rw [he1] at E1
                rw [he2] at E2
                rw [he3] at E3
                rw [he4] at E4
                clear he1 he2 he3 he4
                replace HE := Lib.hid HE
                cases e1
                · cases e3
                  · go_wp2_with fail
                    refine wp_region_grow (by kernel_rfl) (by kernel_rfl) ?_
                    repeat (go_big_quiet_step ((first | (go_at_call 96; with_reducible exact calls_grow (A1 _)))))
                    refine wpQuiet_nil ?_
                    rintro w9 ⟨x, hx⟩
                    have hb : Below wr.heap.size wr w9 := by rw [hx]; exact x.b
                    clear hx x G0 G1 G2 G3 G4 G5 G6 G7 A1 E1 E2 E3 E4
                    have hb9 := keep_below hb3 hb
                    clear hb
                    have hne : ¬ j = S := of_decide_eq_false (by rw [← HE.out]; rfl)
                    go_wp2
                    exact ⟨⟨j + 1, by omega, by simp, hb9⟩, by simp [intOf]; omega⟩
                  · cases e4
                    · go_wp2_with fail
                      refine wp_region_grow (by kernel_rfl) (by kernel_rfl) ?_
                      repeat (go_big_quiet_step ((first | (go_at_call 96; with_reducible exact calls_grow (A1 _)))))
                      refine wpQuiet_nil ?_
                      rintro w9 ⟨x, hx⟩
                      have hb : Below wr.heap.size wr w9 := by rw [hx]; exact x.b
                      clear hx x G0 G1 G2 G3 G4 G5 G6 G7 A1 E1 E2 E3 E4
                      have hb9 := keep_below hb3 hb
                      clear hb
                      have hne : ¬ j = S := of_decide_eq_false (by rw [← HE.out]; rfl)
                      go_wp2
                      exact ⟨⟨j + 1, by omega, by simp, hb9⟩, by simp [intOf]; omega⟩
                    · go_wp2_with fail
                      refine wp_region_grow (by kernel_rfl) (by kernel_rfl) ?_
                      repeat (go_big_quiet_step ((first | (go_at_call 96; with_reducible exact calls_grow (A1 _)))))
                      refine wpQuiet_nil ?_
                      rintro w9 ⟨x, hx⟩
                      have hb : Below wr.heap.size wr w9 := by rw [hx]; exact x.b
                      clear hx x G0 G1 G2 G3 G4 G5 G6 G7 A1 E1 E2 E3 E4
                      have hb9 := keep_below hb3 hb
                      clear hb
                      have hj : j = S := of_decide_eq_true (by rw [← HE.out]; rfl)
                      subst hj
                      have u0 := g0.keep hb9
                      have u1 := g1.keep hb9
                      have u2 := own_low (own_keep oN hb9) hlow
                      have u3 := keep_below bb hb9
                      have c1 := u0.c1
                      have z0 := u1.f 0
                      have z1 := u1.f 1
                      have e0 := u1.c0
                      have e1 := u1.c1
                      go_wp2_with fail
                      go_region
                      all_goals
                        clear c1 z0 z1 e0 e1
                        have o6 : ((w9.setCell ⟨w.heap.size + 1, 0, none⟩ (.int .i64 (j : Nat))).setCell ⟨w.heap.size + 1, 1, none⟩ (.bool true)).ownsRow w.heap.size 23 2 (.slice (some ⟨g7, 0, none⟩) k c7) k (ptCells (placeL (turnL true M))) :=
                          u2.kept ((grownBy_set _ _ _ _).trans (grownBy_set _ _ _ _)) (.inr (by simp [Value.ownBlock]; omega))
                        have o7 := owns_drew 1 o6
                        have b6 := below_drewN (below_two (v0 := .int .i64 (j : Nat)) (v1 := .bool true) u3 (Nat.le_succ w.heap.size)) 1
                        have q6 := (u1.set (j : Nat) true).drew
                        go_wp2
                        refine bodyPost_ret (v := .tuple #[.slice (some ⟨g7, 0, none⟩) k c7, st (j : Nat) true, .int .i64 0]) ?_ rfl ⟨_, _, true, 0, rfl, (HMS.out _ _ _ _ _).2 (.inr ⟨by simp, o7, rfl, rfl, rfl⟩), b6⟩
                        exact (res_tct (fn := Try.f43) rfl _ (by rfl) q6.load).trans (by rfl)
                · cases e2
                  · cases e3
                    · go_wp2_with fail
                      refine wp_region_grow (by kernel_rfl) (by kernel_rfl) ?_
                      repeat (go_big_quiet_step ((first | (go_at_call 96; with_reducible exact calls_grow (A1 _)))))
                      refine wpQuiet_nil ?_
                      rintro w9 ⟨x, hx⟩
                      have hb : Below wr.heap.size wr w9 := by rw [hx]; exact x.b
                      clear hx x G0 G1 G2 G3 G4 G5 G6 G7 A1 E1 E2 E3 E4
                      have hb9 := keep_below hb3 hb
                      clear hb
                      have hne : ¬ j = S := of_decide_eq_false (by rw [← HE.out]; rfl)
                      go_wp2
                      exact ⟨⟨j + 1, by omega, by simp, hb9⟩, by simp [intOf]; omega⟩
                    · cases e4
                      · go_wp2_with fail
                        refine wp_region_grow (by kernel_rfl) (by kernel_rfl) ?_
                        repeat (go_big_quiet_step ((first | (go_at_call 96; with_reducible exact calls_grow (A1 _)))))
                        refine wpQuiet_nil ?_
                        rintro w9 ⟨x, hx⟩
                        have hb : Below wr.heap.size wr w9 := by rw [hx]; exact x.b
                        clear hx x G0 G1 G2 G3 G4 G5 G6 G7 A1 E1 E2 E3 E4
                        have hb9 := keep_below hb3 hb
                        clear hb
                        have hne : ¬ j = S := of_decide_eq_false (by rw [← HE.out]; rfl)
                        go_wp2
                        exact ⟨⟨j + 1, by omega, by simp, hb9⟩, by simp [intOf]; omega⟩
                      · go_wp2_with fail
                        refine wp_region_grow (by kernel_rfl) (by kernel_rfl) ?_
                        repeat (go_big_quiet_step ((first | (go_at_call 96; with_reducible exact calls_grow (A1 _)))))
                        refine wpQuiet_nil ?_
                        rintro w9 ⟨x, hx⟩
                        have hb : Below wr.heap.size wr w9 := by rw [hx]; exact x.b
                        clear hx x G0 G1 G2 G3 G4 G5 G6 G7 A1 E1 E2 E3 E4
                        have hb9 := keep_below hb3 hb
                        clear hb
                        have hj : j = S := of_decide_eq_true (by rw [← HE.out]; rfl)
                        subst hj
                        have u0 := g0.keep hb9
                        have u1 := g1.keep hb9
                        have u2 := own_low (own_keep oN hb9) hlow
                        have u3 := keep_below bb hb9
                        have c1 := u0.c1
                        have z0 := u1.f 0
                        have z1 := u1.f 1
                        have e0 := u1.c0
                        have e1 := u1.c1
                        go_wp2_with fail
                        go_region
                        all_goals
                          clear c1 z0 z1 e0 e1
                          have o6 : ((w9.setCell ⟨w.heap.size + 1, 0, none⟩ (.int .i64 (j : Nat))).setCell ⟨w.heap.size + 1, 1, none⟩ (.bool true)).ownsRow w.heap.size 23 2 (.slice (some ⟨g7, 0, none⟩) k c7) k (ptCells (placeL (turnL true M))) :=
                            u2.kept ((grownBy_set _ _ _ _).trans (grownBy_set _ _ _ _)) (.inr (by simp [Value.ownBlock]; omega))
                          have o7 := owns_drew 1 o6
                          have b6 := below_drewN (below_two (v0 := .int .i64 (j : Nat)) (v1 := .bool true) u3 (Nat.le_succ w.heap.size)) 1
                          have q6 := (u1.set (j : Nat) true).drew
                          go_wp2
                          refine bodyPost_ret (v := .tuple #[.slice (some ⟨g7, 0, none⟩) k c7, st (j : Nat) true, .int .i64 0]) ?_ rfl ⟨_, _, true, 0, rfl, (HMS.out _ _ _ _ _).2 (.inr ⟨by simp, o7, rfl, rfl, rfl⟩), b6⟩
                          exact (res_tct (fn := Try.f43) rfl _ (by rfl) q6.load).trans (by rfl)
                  · go_wp2_with fail
                    refine wp_region_grow (by kernel_rfl) (by kernel_rfl) ?_
                    repeat (go_big_quiet_step ((first | (go_at_call 96; with_reducible exact calls_grow (A1 _)))))
                    refine wpQuiet_nil ?_
                    rintro w9 ⟨x, hx⟩
                    have hb : Below wr.heap.size wr w9 := by rw [hx]; exact x.b
                    clear hx x G0 G1 G2 G3 G4 G5 G6 G7 A1 E1 E2 E3 E4
                    have hb9 := keep_below hb3 hb
                    clear hb
                    have hj : j = S := of_decide_eq_true (by rw [← HE.out]; rfl)
                    subst hj
                    have u0 := g0.keep hb9
                    have u1 := g1.keep hb9
                    have u2 := own_low (own_keep oN hb9) hlow
                    have u3 := keep_below bb hb9
                    have c1 := u0.c1
                    have z0 := u1.f 0
                    have z1 := u1.f 1
                    have e0 := u1.c0
                    have e1 := u1.c1
                    go_wp2_with fail
                    go_region
                    all_goals
                      clear c1 z0 z1 e0 e1
                      have o6 : ((w9.setCell ⟨w.heap.size + 1, 0, none⟩ (.int .i64 (j : Nat))).setCell ⟨w.heap.size + 1, 1, none⟩ (.bool true)).ownsRow w.heap.size 23 2 (.slice (some ⟨g7, 0, none⟩) k c7) k (ptCells (placeL (turnL true M))) :=
                        u2.kept ((grownBy_set _ _ _ _).trans (grownBy_set _ _ _ _)) (.inr (by simp [Value.ownBlock]; omega))
                      have o7 := owns_drew 1 o6
                      have b6 := below_drewN (below_two (v0 := .int .i64 (j : Nat)) (v1 := .bool true) u3 (Nat.le_succ w.heap.size)) 1
                      have q6 := (u1.set (j : Nat) true).drew
                      go_wp2
                      refine bodyPost_ret (v := .tuple #[.slice (some ⟨g7, 0, none⟩) k c7, st (j : Nat) true, .int .i64 0]) ?_ rfl ⟨_, _, true, 0, rfl, (HMS.out _ _ _ _ _).2 (.inr ⟨by simp, o7, rfl, rfl, rfl⟩), b6⟩
                      exact (res_tct (fn := Try.f43) rfl _ (by rfl) q6.load).trans (by rfl)

end Go.Proofs.Ytlocdadkhdcedaa
