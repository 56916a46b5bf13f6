/- The abstract machine, part LX. -/
import Derived.Test.YtdohlggbeagedaaGreatLW
/- Walks: Move. -/
namespace Go.Proofs.YtdohlggbeagedaaGreat
open Go Go.RowKit Go.Proofs Go.Abs Go.Plain Go.Maps

theorem Mb.grown {w w' : World} {b : Nat} {t x y : Int} {m : Bool} {ty : TypeId} {row : Option Nat} (h : Mb w b t m x y ty) (hg : w.grownBy w' row) (hr : some b ≠ row) : Mb w' b t m x y ty := (hg.block b h.lt hr).trans h
theorem Mb.load49 {w : World} {b : Nat} {t x y : Int} {m : Bool} (h : Mb w b t m x y 68) : (loadVar 68 ⟨b, 0, none⟩).run Tryz.prog w = .ok (mo t m x y) w :=
  run_loadVar_mid (P := Tryz.prog) w b 0 68 [.int .i64 t, .bool m, .int .i64 x, .int .i64 y] _ (range_at h) Tryz.underlying68 rfl (by kernel_rfl)

/-- A setting in a block of its own. -/
def Sb (w : World) (b : Nat) (s : Int) (m : Bool) : Prop := w.heap[b]? = some (.cells #[.int .i64 s, .bool m] 28 (0, 0))
theorem Sb.lt {w : World} {b : Nat} {s : Int} {m : Bool} (h : Sb w b s m) : b < w.heap.size := (Array.getElem?_eq_some_iff.1 h).1
theorem Sb.c0 {w : World} {b : Nat} {s : Int} {m : Bool} (h : Sb w b s m) : w.cell? ⟨b, 0, none⟩ = some (.int .i64 s) := cell_at h rfl
theorem Sb.c1 {w : World} {b : Nat} {s : Int} {m : Bool} (h : Sb w b s m) : w.cell? ⟨b, 1, none⟩ = some (.bool m) := cell_at h rfl
theorem Sb.f {w : World} {b : Nat} {s : Int} {m : Bool} (h : Sb w b s m) (k : Nat) : w.frozen? ⟨b, k, none⟩ = false := thaw_at h
theorem Sb.keep {w w' : World} {b : Nat} {s : Int} {m : Bool} (h : Sb w b s m) (hb : Below w.heap.size w w') : Sb w' b s m := (hb.block b h.lt).trans h
theorem Sb.alloc {w : World} {b : Nat} {s : Int} {m : Bool} (h : Sb w b s m) (o : Obj) : Sb (w.alloc o) b s m := (heap_old w o h.lt).trans h
theorem Sb.new (w : World) (s : Int) (m : Bool) : Sb (w.alloc (.cells #[.int .i64 s, .bool m] 28)) w.heap.size s m := World.alloc_heap_new _ _
theorem Sb.set {w : World} {b : Nat} {s : Int} {m : Bool} (h : Sb w b s m) (s' : Int) (m' : Bool) : Sb ((w.setCell ⟨b, 0, none⟩ (.int .i64 s')).setCell ⟨b, 1, none⟩ (.bool m')) b s' m' := put_heap _ (put_heap _ h)
theorem Sb.drew {w : World} {b : Nat} {s : Int} {m : Bool} (h : Sb w b s m) : Sb (w.drewN 1) b s m := h
theorem below_two {B g : Nat} {a w : World} {v0 v1 : Value} (h : Below B a w) (hg : B ≤ g) : Below B a ((w.setCell ⟨g, 0, none⟩ v0).setCell ⟨g, 1, none⟩ v1) := (h.setCell hg _).setCell hg _
theorem Sb.grown {w w' : World} {b : Nat} {s : Int} {m : Bool} {row : Option Nat} (h : Sb w b s m) (hg : w.grownBy w' row) (hr : some b ≠ row) : Sb w' b s m := (hg.block b h.lt hr).trans h
theorem Sb.load {w : World} {b : Nat} {s : Int} {m : Bool} (h : Sb w b s m) : (loadVar 28 ⟨b, 0, none⟩).run Tryz.prog w = .ok (st s m) w :=
  run_loadVar_mid (P := Tryz.prog) w b 0 28 [.int .i64 s, .bool m] _ (range_at h) Tryz.underlying28 rfl (by kernel_rfl)

theorem mvStart (w : World) (t : Int) (b : Bool) (x y : Int) : let W := (w.alloc (.cells #[.int .i64 t, .bool b, .int .i64 x, .int .i64 y] 68)).alloc (.cells #[.int .i64 0, .bool false] 28)
    Mb W w.heap.size t b x y 68 ∧ Sb W (w.heap.size + 1) 0 false ∧ Below w.heap.size w W ∧ W.heap.size = w.heap.size + 2 := by
  have s1 : ∀ (v : World) (o : Obj), (v.alloc o).heap.size = v.heap.size + 1 := fun v o => by simp
  refine ⟨(Mb.new w t b x y 68).alloc _, ?_, ((Below.refl _ _).alloc (by simp) _).alloc (by simp) _, by simp⟩
  have := Sb.new (w.alloc (.cells #[.int .i64 t, .bool b, .int .i64 x, .int .i64 y] 68)) 0 false
  rwa [s1] at this

theorem mvL_take {b : Bool} {t : Nat} {x y : Int} {L : Pl} {k : Nat} (hk : k < L.length) : ptCells ((mvL b t x y L).take (k + 1)) = ptCells ((mvL b t x y L).take k) ++ [.int .i64 (mvP b t x y (px L k, py L k)).1, .int .i64 (mvP b t x y (px L k, py L k)).2] := by
  have hk' : k < (mvL b t x y L).length := by rw [mvL_len]; exact hk
  rw [List.take_add_one, getD_some hk', getD_map hk]
  exact ptCells_snoc _ _ _

theorem res_tct {P : Program} {fn : Func} {a u s : Tmp} {t : TypeId} {w : World} {v : Value} {p : Addr} (h : fn.results = #[.tmp u, .cell a t, .tmp s]) (tmps : Array Value) (hp : tmps.getD a undef = .pointer (some p))
    (hl : (loadVar t p).run P w = .ok v w) : (results fn tmps).run P w = .ok (.tuple #[tmps.getD u undef, v, tmps.getD s undef]) w := by
  have hp' : tmps[a]?.getD undef = .pointer (some p) := by simpa using hp
  simp only [results, h]
  simp [hp', asAddr, hl]

/-- What Move answers. -/
def MoveS (L : Pl) (t : Int) (b : Bool) (x y : Int) (base : Nat) (W : World) (v : Value) (s : Int) (sb : Bool) (E : Int) : Prop :=
  ((vOut L && vMo t x y) = false ∧ v = .slice none 0 0 ∧ s = 0 ∧ sb = false ∧ E = 1) ∨
  ((vOut L && vMo t x y) = true ∧ vPts (mvL b t.toNat x y L) = false ∧ v = .slice none 0 0 ∧ s = 0 ∧ sb = false ∧ E = 2) ∨
  ((vOut L && vMo t x y) = true ∧ vPts (mvL b t.toNat x y L) = true ∧ W.ownsRow base 66 2 v L.length (ptCells (placeL (turnL b (mvL b t.toNat x y L)))) ∧
    s = (shiftS b L.length (leastK (px (turnL b (mvL b t.toNat x y L))) (py (turnL b (mvL b t.toNat x y L))) L.length) : Nat) ∧ sb = b ∧ E = 0)

set_option maxRecDepth 100000 in
set_option maxHeartbeats 4000000 in
theorem move_bad (v1 : Value) (L : Pl) (t : Int) (b : Bool) (x y : Int) (w : World) (h1 : SlV w v1 L) (hbad : (vOut L && vMo t x y) = false) :
    Calls Tryz.prog 41 #[v1, mo t b x y] w fun e w' => e = .returned (.tuple #[.slice none 0 0, st 0 false, .int .i64 1]) ∧ Below w.heap.size w w' := by
  have C1 := fun w' (hb : Below w.heap.size w w') => vOut_sl (h1.keep hb)
  have C2 := fun w => validMotion_any t x y b w
  obtain ⟨c1, hc1⟩ : ∃ c, vOut L = c := ⟨_, rfl⟩
  obtain ⟨c2, hc2⟩ : ∃ c, vMo t x y = c := ⟨_, rfl⟩
  rw [hc1, hc2] at hbad
  rw [hc1] at C1
  rw [hc2] at C2
  clear hc1 hc2 h1
  obtain ⟨f0, f1, bel, hsz⟩ := mvStart w t b x y
  go_enter Tryz.func41, Tryz.ntmps41
  go_wp2_with fail
  refine (C1 _ bel).mono ?_
  rintro e w1 ⟨rfl, hb⟩
  replace f0 := f0.keep hb
  replace f1 := f1.keep hb
  replace bel := keep_below bel hb
  clear hb C1
  cases c1
  · have z0 := f1.f 0
    have z1 := f1.f 1
    have e0 := f1.c0
    have e1 := f1.c1
    go_wp2
    refine bodyPost_ret (v := .tuple #[.slice none 0 0, st 0 false, .int .i64 1]) ?_ rfl ⟨rfl, (bel.setCell (Nat.le_succ _) _).setCell (Nat.le_succ _) _⟩
    exact (res_tct (fn := Tryz.f41) rfl _ (by rfl) (f1.set _ _).load).trans (by rfl)
  · obtain rfl : c2 = false := by simpa using hbad
    have c0 := f0.c0
    have c1 := f0.c1
    have c3 := f0.c2
    have c4 := f0.c3
    go_wp2_with fail
    refine (C2 _).mono ?_
    rintro e w2 ⟨rfl, hb⟩
    replace f1 := f1.keep hb
    replace bel := keep_below bel hb
    have z0 := f1.f 0
    have z1 := f1.f 1
    have e0 := f1.c0
    have e1 := f1.c1
    clear hb
    go_wp2
    refine bodyPost_ret (v := .tuple #[.slice none 0 0, st 0 false, .int .i64 1]) ?_ rfl ⟨rfl, (bel.setCell (Nat.le_succ _) _).setCell (Nat.le_succ _) _⟩
    exact (res_tct (fn := Tryz.f41) rfl _ (by rfl) (f1.set _ _).load).trans (by rfl)

end Go.Proofs.YtdohlggbeagedaaGreat

/- Walks: Move of an outline by a valid motion. -/
namespace Go.Proofs.YtdohlggbeagedaaGreat
open Go Go.RowKit Go.Proofs Go.Abs Go.Plain Go.Maps

theorem vOut_sum {L : Pl} (h : vOut L = true) : 0 < sumL L := by
  unfold vOut at h
  simp only [Bool.and_eq_true, decide_eq_true_eq] at h
  exact h.2.2.2.2.1

theorem normL_mv {L : Pl} (h : vOut L = true) (b : Bool) (t : Nat) (x y : Int) : normL (mvL b t x y L) = placeL (turnL b (mvL b t x y L)) := by
  have hs := vOut_sum h
  unfold normL
  rw [sumL_mv]
  cases b
  · rw [if_neg (by simp; omega)]
    rfl
  · rw [if_pos (by simp; omega)]
    rfl

set_option maxRecDepth 100000 in
theorem lookup_at {N : Pl} {w : World} {B n i : Nat} (h : w.ownsMap Tryz.prog 66 (plainElem Tryz.prog 3) B n (numD N N.length)) (hA : Apart N) (hs : ∀ k, Small (px N k) ∧ Small (py N k)) (hi : i < N.length) {q : Int × Int} (hq : N.getD i (0, 0) = q) :
    (Instr.lookup 118 (.map (some B)) (pt q.1 q.2) false).run Tryz.prog w = .ok (.int .i64 (i : Nat)) w := by
  subst hq
  obtain ⟨c, hrun, hat, _⟩ := h.lookup_int ptLaw Tryz.underlying118 Tryz.underlying3 (t_zero3 _) (key_pt (hs i).1 (hs i).2)
  rw [show klP (px N i, py N i) = klP (N.getD i (0, 0)) from rfl, numD_at hA hs _ _ (Nat.le_refl _) hi] at hat
  injection hat with h1
  injection h1 with _ h2
  rw [h2]
  exact hrun

/-- All coordinates are small. -/
def AllSm (L : Pl) : Prop := ∀ j, Small (px L j) ∧ Small (py L j)

theorem small_out {L : Pl} {j : Nat} (h : ¬ j < L.length) : Small (px L j) ∧ Small (py L j) := by
  have : L.getD j (0, 0) = (0, 0) := by rw [List.getD_eq_getElem?_getD, List.getElem?_eq_none (by omega)]; rfl
  unfold px py
  rw [this]
  unfold Small
  simp

theorem AllSm.rot {L : Pl} (h : AllSm L) {m : Nat} (hm : m < L.length) : AllSm (rotL m L) := fun j => by
  by_cases hj : j < L.length
  · unfold px py
    rw [rotL_getD hm hj]
    exact h _
  · exact small_out (by rw [rotL_len]; exact hj)

theorem AllSm.rev {L : Pl} (h : AllSm L) : AllSm L.reverse := fun j => by
  by_cases hj : j < L.length
  · unfold px py
    rw [rev_getD hj]
    exact h _
  · exact small_out (by rw [List.length_reverse]; exact hj)

theorem AllSm.turn {L : Pl} (h : AllSm L) (b : Bool) : AllSm (turnL b L) := by
  cases b
  · exact h
  · exact h.rev

theorem Apart.turn {L : Pl} (h : Apart L) (b : Bool) : Apart (turnL b L) := by
  cases b
  · exact h
  · exact h.rev

set_option maxRecDepth 100000 in
set_option maxHeartbeats 8000000 in
theorem move_good (b0 off cap : Nat) (L : Pl) (t : Int) (b : Bool) (x y : Int) (w : World) (hP : PtsAt w b0 off L) (ho : vOut L = true) (hm : vMo t x y = true) :
    Calls Tryz.prog 41 #[.slice (some ⟨b0, off, none⟩) L.length cap, mo t b x y] w fun e w' => ∃ v s sb E, e = .returned (.tuple #[v, st s sb, .int .i64 E]) ∧ MoveS L t b x y w.heap.size w' v s sb E ∧ Below w.heap.size w w' := by
  obtain ⟨h3, h24, hv⟩ := vOut_n ho
  have hsm := vPts_small hv
  have C1 := fun w' (hb : Below w.heap.size w w') => validOutline_any b0 off cap L (by omega) w' (hP.keep hb)
  rw [ho] at C1
  have C2 := fun w => validMotion_any t x y b w
  rw [hm] at C2
  have CA := Lib.hid (fun k w => apply_any t x y (px L k) (py L k) b w hm (hsm k))
  have HT := Lib.hid (fun k => mvL_take (b := b) (t := t.toNat) (x := x) (y := y) (L := L) (k := k))
  have HN := Lib.hid (normL_mv ho b t.toNat x y)
  have HAp := Lib.hid ((vOut_apart ho).mv b t.toNat x y)
  have hML := mvL_len b t.toNat x y L
  have HMS : Hid (∀ W v s sb E, MoveS L t b x y w.heap.size W v s sb E ↔ ((vPts (mvL b t.toNat x y L) = false ∧ v = .slice none 0 0 ∧ s = 0 ∧ sb = false ∧ E = 2) ∨
      (vPts (mvL b t.toNat x y L) = true ∧ W.ownsRow w.heap.size 66 2 v L.length (ptCells (placeL (turnL b (mvL b t.toNat x y L)))) ∧
    s = (shiftS b L.length (leastK (px (turnL b (mvL b t.toNat x y L))) (py (turnL b (mvL b t.toNat x y L))) L.length) : Nat) ∧ sb = b ∧ E = 0))) := Lib.hid (fun W v s sb E => by
    unfold MoveS
    rw [ho, hm]
    simp)
  obtain ⟨M, hM⟩ : ∃ M, mvL b t.toNat x y L = M := ⟨_, rfl⟩
  rw [hM] at HT HN HAp hML HMS
  obtain ⟨i0, hi, hz0, hz1, hz2⟩ := info_parts info66
  obtain ⟨n, hn⟩ : ∃ n, L.length = n := ⟨_, rfl⟩
  have HC := Lib.hid (fun k (hk : k < n) => hP k (by rw [hn]; exact hk))
  rw [hn] at C1 HT hML HMS h3 h24 ⊢
  clear hsm hv hP ho hm hM
  obtain ⟨f0, f1, bel, hsz⟩ := mvStart w t b x y
  go_enter Tryz.func41, Tryz.ntmps41
  go_wp2_with fail
  refine (C1 _ bel).mono ?_
  rintro e w1 ⟨rfl, hb⟩
  replace f0 := f0.keep hb
  replace f1 := f1.keep hb
  replace bel := keep_below bel hb
  have hz1' : w.heap.size + 2 ≤ w1.heap.size := by rw [← hsz]; exact hb.size
  clear hb C1 hsz
  have c0 := f0.c0
  have c1 := f0.c1
  have c3 := f0.c2
  have c4 := f0.c3
  go_wp2_with fail
  refine (C2 _).mono ?_
  rintro e w2 ⟨rfl, hb⟩
  replace f0 := f0.keep hb
  replace f1 := f1.keep hb
  replace bel := keep_below bel hb
  replace hz1' := Nat.le_trans hz1' hb.size
  clear hb c0 c1 c3 c4 C2
  go_wp2_with fail
  go_loopw [7, 23] (fun v i wr => ∃ k : Nat, k ≤ n ∧ i = .int .i64 k ∧ wr.ownsRow (w.heap.size + 2) 66 2 v k (ptCells (M.take k)) ∧ Mb wr w.heap.size t b x y 68 ∧ Sb wr (w.heap.size + 1) 0 false ∧ Below w.heap.size w wr ∧ w.heap.size + 2 ≤ wr.heap.size) (fun _ i _ => n - (intOf i).toNat)
  case atStart => exact ⟨0, Nat.zero_le _, rfl, World.ownsRow_nil _ _ _ _, f0, f1, bel, hz1'⟩
  case round =>
    clear f0 f1 bel hz1'
    obtain ⟨k, hk, rfl, hown, f0, f1, hbel, hz⟩ := hrel
    by_cases hlt : k < n
    · have j1 : (k : Int) < (n : Int) := by omega
      have a0 := keep_cell hbel (HC.out k hlt).1
      have a1 := keep_cell hbel (HC.out k hlt).2
      have A := CA.out k
      have HTk := Lib.hid (HT.out k (by omega))
      obtain ⟨x0, hx⟩ : ∃ x, px L k = x := ⟨_, rfl⟩
      obtain ⟨y0, hy⟩ : ∃ y, py L k = y := ⟨_, rfl⟩
      rw [hx] at a0 A HTk
      rw [hy] at a1 A HTk
      clear hx hy
      obtain ⟨q, hq⟩ : ∃ q, mvP b t.toNat x y (x0, y0) = q := ⟨_, rfl⟩
      rw [hq] at A HTk
      clear hq
      obtain ⟨xs, hxs⟩ : ∃ xs, ptCells (M.take k) = xs := ⟨_, rfl⟩
      obtain ⟨ys, hys⟩ : ∃ ys, ptCells (M.take (k + 1)) = ys := ⟨_, rfl⟩
      rw [hxs] at hown HTk
      rw [hys] at HTk
      have HYS := Lib.hid hys
      clear hxs hys
      have g0 := f0.alloc (ptObj x0 y0)
      have g1 := f1.alloc (ptObj x0 y0)
      have go1 := hown.alloc (ptObj x0 y0)
      have gp := Pb.new wr x0 y0
      have hb2 := hbel.alloc hbel.size (ptObj x0 y0)
      have c0 := g0.c0
      have c1 := g0.c1
      have c3 := g0.c2
      have c4 := g0.c3
      have d0 := gp.c0
      have d1 := gp.c1
      have hz2 : w.heap.size + 2 ≤ (wr.alloc (ptObj x0 y0)).heap.size := by simp; omega
      go_wp2_with fail
      refine (A _).mono ?_
      rintro e w3 ⟨rfl, hb⟩
      replace g0 := g0.keep hb
      replace g1 := g1.keep hb
      replace go1 := own_keep go1 hb
      replace hb2 := keep_below hb2 hb
      replace hz2 := Nat.le_trans hz2 hb.size
      clear hb c0 c1 c3 c4 d0 d1 gp a0 a1 A f0 f1 hown hbel
      go_wp2_with (at_builtin; refine wpList_append_own _ rfl _ _ 26 rfl (w.heap.size + 2) 66 i0 (pt 0 0) 2 16 Tryz.underlying26 hi hz0 hz1 ‹_› rfl (by decide) _ _ _ rfl (go1.alloc _) _ 1 1 [.int .i64 q.1, .int .i64 q.2] rfl rfl (two_new _ _ _) (two_cells _ _) (by unfold maxLen; omega) (by omega) (by simp; omega) ?_; intro v1 w4 hown1 hgrow _)
      have r0 : some w.heap.size ≠ _ := fun e => by have := (go1.lt _ e.symm).1; omega
      have r1 : some (w.heap.size + 1) ≠ _ := fun e => by have := (go1.lt _ e.symm).1; omega
      refine ⟨⟨k + 1, by omega, by simp, ?_, (g0.alloc _).grown hgrow r0, (g1.alloc _).grown hgrow r1, (hb2.alloc hb2.size _).grown hgrow (by have := hb2.size; simp; omega) (fun j e => by have := (go1.lt j e).1; omega), Nat.le_trans (by simp; omega) hgrow.size⟩, by simp [intOf]; omega⟩
      rw [HYS.out, HTk.out]
      exact hown1
    · obtain rfl : k = n := by omega
      rw [show M.take k = M by rw [← hML]; exact List.take_length] at hown
      obtain ⟨g, cg, rfl⟩ := own_slice hown (by omega)
      have P1 : PtsAt wr g 0 M := own_at hML hown
      have CV := validPoints_any (px M) (py M) g 0 k cg wr (by omega) (fun j hj => P1 j (by omega))
      rw [← hML] at CV
      rw [show allValid (px M) (py M) M.length = vPts M from rfl, hML] at CV
      obtain ⟨vp, hvp⟩ : ∃ vp, vPts M = vp := ⟨_, rfl⟩
      rw [hvp] at CV HMS
      go_wp2_with fail
      refine CV.mono ?_
      rintro e w1 ⟨rfl, hb⟩
      replace f0 := f0.keep hb
      replace f1 := f1.keep hb
      replace hbel := keep_below hbel hb
      replace hown := own_keep hown hb
      replace hz := Nat.le_trans hz hb.size
      clear hb CV P1
      cases vp
      · have z0 := f1.f 0
        have z1 := f1.f 1
        have e0 := f1.c0
        have e1 := f1.c1
        go_wp2
        refine bodyPost_ret (v := .tuple #[.slice none 0 0, st 0 false, .int .i64 2]) ?_ rfl ⟨_, 0, false, 2, rfl, (HMS.out _ _ _ _ _).2 (.inl (by simp)), (hbel.setCell (Nat.le_succ _) _).setCell (Nat.le_succ _) _⟩
        exact (res_tct (fn := Tryz.f41) rfl _ (by rfl) (f1.set _ _).load).trans (by rfl)
      · have hsM := vPts_small hvp
        have CN := normal_any g 0 cg M (by omega) (by omega) hsM w1 (own_at hML hown)
        have HL := leastL_lt (L := turnL b M) (by rw [turnL_len]; omega)
        have HL2 := HL
        rw [turnL_len, hML] at HL
        obtain ⟨m, hm⟩ : ∃ m, leastK (px (turnL b M)) (py (turnL b M)) k = m := ⟨_, rfl⟩
        have hpl : placeL (turnL b M) = rotL m (turnL b M) := by unfold placeL; rw [turnL_len, hML, hm]
        rw [hm] at HL HMS
        have hPos := pos_get (b := b) (M := M) (m := m) (by omega)
        have HNL : Hid ((placeL (turnL b M)).length = k ∧ Apart (placeL (turnL b M)) ∧ AllSm (placeL (turnL b M))) := Lib.hid (by
          rw [hpl]
          exact ⟨by rw [rotL_len, turnL_len, hML], (HAp.out.turn b).rot (by rw [turnL_len, hML]; exact HL), (AllSm.turn hsM b).rot (by rw [turnL_len, hML]; exact HL)⟩)
        have HPS := pos_shift (b := b) (n := k) (m := m) HL (by omega)
        rw [← hpl, hML] at hPos
        clear hpl hm HL2
        rw [hML, HN.out] at CN
        go_wp2_with fail
        refine CN.mono ?_
        rintro e w2 ⟨v2, rfl, o2, hb⟩
        replace f0 := f0.keep hb
        replace f1 := f1.keep hb
        have P1 : PtsAt w2 g 0 M := (own_at hML hown).keep hb
        obtain ⟨g2, cg2, rfl⟩ := own_slice o2 (by omega)
        have PN : PtsAt w2 g2 0 (placeL (turnL b M)) := own_at HNL.out.1 o2
        have CM := fun w' (hb : Below w2.heap.size w2 w') => numbers_any g2 0 cg2 (placeL (turnL b M)) (by have := HNL.out.1; omega) HNL.out.2.2 w' (PN.keep hb)
        rw [HNL.out.1] at CM
        have a0 := (P1 0 (by omega)).1
        have a1 := (P1 0 (by omega)).2
        simp only [Nat.zero_mul, Nat.add_zero] at a0 a1
        have hbr := Below.refl w2.heap.size w2
        have hbd := hbr.drew
        have j0 : (0 : Int) < (k : Int) := by omega
        have LK := fun (w : World) (B : Nat) (h : w.ownsMap Tryz.prog 66 (plainElem Tryz.prog 3) B k (numD (placeL (turnL b M)) k)) => show (Instr.lookup 118 (.map (some B)) (pt (px M 0) (py M 0)) false).run Tryz.prog w = .ok (.int .i64 (posS b k m : Nat)) w from lookup_at (N := placeL (turnL b M)) (n := k) (by rw [HNL.out.1]; exact h) HNL.out.2.1 HNL.out.2.2 (by rw [HNL.out.1]; exact hPos.2) hPos.1
        go_wp2_with fail
        go_region_with ((go_at_call 82; refine (CM _ (by first | exact hbr | exact hbd)).mono ?_; rintro e w4 ⟨rfl, hm4, hb4⟩; have c4 := keep_cell hb4 a0; have c5 := keep_cell hb4 a1; have R4 := LK w4 w2.heap.size hm4; have R5 := LK w4.drew w2.heap.size hm4.drew))
        all_goals
          change Below w2.heap.size _ w4 at hb4
          have hb5 : Below w2.heap.size w2 w4 := ⟨hb4.os, hb4.tape, hb4.output, hb4.size, hb4.block⟩
          clear hb4 hm4 c4 c5 R4 R5
          have g0 := f0.keep hb5
          have g1 := f1.keep hb5
          have b5 := keep_below (keep_below hbel hb) hb5
          have o5 := own_low (own_keep o2 hb5) (Nat.le_trans hbel.size (Nat.le_refl _))
          have c1 := g0.c1
          have z0 := g1.f 0
          have z1 := g1.f 1
          have e0 := g1.c0
          have e1 := g1.c1
          have hg2 := (own_capP o2).2.2
          have R0 := trivial
          cases b
          · have hS : (posS false k m : Int) = (shiftS false k m : Nat) := by rw [← HPS]; rfl
            go_wp2_with fail
            go_region
            all_goals
              clear R0 c1 z0 z1 e0 e1
              have o6 : ((w4.setCell ⟨w.heap.size + 1, 0, none⟩ (.int .i64 ((posS false k m : Int)))).setCell ⟨w.heap.size + 1, 1, none⟩ (.bool false)).ownsRow w.heap.size 66 2 (.slice (some ⟨g2, 0, none⟩) k cg2) k (ptCells (placeL (turnL false M))) :=
                o5.kept ((grownBy_set _ _ _ _).trans (grownBy_set _ _ _ _)) (.inr (by simp [Value.ownBlock]; omega))
              have o7 := owns_drew 1 o6
              have b6 := below_drewN (below_two (v0 := .int .i64 ((posS false k m : Int))) (v1 := .bool false) b5 (Nat.le_succ w.heap.size)) 1
              have q6 := (g1.set ((posS false k m : Int)) false).drew
              go_wp2
              refine bodyPost_ret (v := .tuple #[.slice (some ⟨g2, 0, none⟩) k cg2, st ((posS false k m : Int)) false, .int .i64 0]) ?_ rfl ⟨_, _, false, 0, rfl, (HMS.out _ _ _ _ _).2 (.inr ⟨by simp, o7, hS, rfl, rfl⟩), b6⟩
              exact (res_tct (fn := Tryz.f41) rfl _ (by rfl) q6.load).trans (by rfl)
          · have hS : ((posS true k m : Int) + k - 1) % k = (shiftS true k m : Nat) := by rw [← HPS]; simp only [if_true]; rw [Int.natCast_emod]; congr 1; omega
            go_wp2_with fail
            go_region
            all_goals
              clear R0 c1 z0 z1 e0 e1
              have o6 : ((w4.setCell ⟨w.heap.size + 1, 0, none⟩ (.int .i64 (((shiftS true k m : Nat) : Int)))).setCell ⟨w.heap.size + 1, 1, none⟩ (.bool true)).ownsRow w.heap.size 66 2 (.slice (some ⟨g2, 0, none⟩) k cg2) k (ptCells (placeL (turnL true M))) :=
                o5.kept ((grownBy_set _ _ _ _).trans (grownBy_set _ _ _ _)) (.inr (by simp [Value.ownBlock]; omega))
              have o7 := owns_drew 1 o6
              have b6 := below_drewN (below_two (v0 := .int .i64 (((shiftS true k m : Nat) : Int))) (v1 := .bool true) b5 (Nat.le_succ w.heap.size)) 1
              have q6 := (g1.set (((shiftS true k m : Nat) : Int)) true).drew
              go_wp2
              refine bodyPost_ret (v := .tuple #[.slice (some ⟨g2, 0, none⟩) k cg2, st (((shiftS true k m : Nat) : Int)) true, .int .i64 0]) ?_ rfl ⟨_, _, true, 0, rfl, (HMS.out _ _ _ _ _).2 (.inr ⟨by simp, o7, rfl, rfl, rfl⟩), b6⟩
              exact (res_tct (fn := Tryz.f41) rfl _ (by rfl) q6.load).trans (by rfl)

end Go.Proofs.YtdohlggbeagedaaGreat
