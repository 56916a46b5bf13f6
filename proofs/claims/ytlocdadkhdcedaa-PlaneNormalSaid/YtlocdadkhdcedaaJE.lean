/- The abstract machine, part JE. -/
import Derived.Test.YtlocdadkhdcedaaJD
import Derived.Test.YtlocdadkhdcedaaZO
import Derived.Test.YtlocdadkhdcedaaKD
import Derived.Test.YtlocdadkhdcedaaAwake
/- The law PlaneNormal: its facts. -/
namespace Go.Proofs.Ytlocdadkhdcedaa
open Go Go.RowKit Go.Proofs Go.Abs Go.Plain

theorem okO_nilN : okO [] = false := rfl

set_option maxRecDepth 100000 in
set_option maxHeartbeats 2000000 in
theorem outline_nilN (w : World) : Calls Try.prog 26 #[.slice none 0 0] w fun e w' => ∃ v E, e = .returned (.tuple #[v, .int .i64 E]) ∧ OutS [] w.heap.size w' v E ∧ Below w.heap.size w w' := by
  have HV : Hid (∀ W, OutS [] w.heap.size W (.slice none 0 0) 1) := Lib.hid (fun W => .inl ⟨okO_nilN, rfl, rfl⟩)
  go_enter Try.func26, Try.ntmps26
  go_wp2
  go_ret2
  exact ⟨_, _, rfl, HV.out _, Below.refl _ _⟩

theorem outline_slN {w : World} {v : Value} {L : Pl} (h : SlV w v L) : Calls Try.prog 26 #[v] w fun e w' => ∃ v E, e = .returned (.tuple #[v, .int .i64 E]) ∧ OutS L w.heap.size w' v E ∧ Below w.heap.size w w' := by
  obtain ⟨a, cap, rfl, hl, ⟨b, off, rfl, hp⟩ | ⟨rfl, rfl, rfl⟩⟩ := h
  · exact outline_any b off cap L hl w hp
  · exact outline_nilN w

theorem SlV.atN {w : World} {v : Value} {L : Pl} (h : SlV w v L) {k : Nat} (hk : k < L.length) : ∃ b off cap, v = .slice (some ⟨b, off, none⟩) L.length cap ∧ w.cell? ⟨b, off + k * 2, none⟩ = some (.int .i64 (px L k)) ∧ w.cell? ⟨b, off + k * 2 + 1, none⟩ = some (.int .i64 (py L k)) := by
  obtain ⟨a, cap, rfl, hl, ⟨b, off, rfl, hp⟩ | ⟨rfl, rfl, rfl⟩⟩ := h
  · exact ⟨b, off, cap, rfl, hp k hk⟩
  · simp at hk

theorem SlV.shapeN {w : World} {v : Value} {L : Pl} (h : SlV w v L) : ∃ a cap, v = .slice a L.length cap := by
  obtain ⟨a, cap, rfl, _⟩ := h
  exact ⟨a, cap, rfl⟩

theorem run_pt_neq_sameN (a b : Int) (w : World) : (binOp .neq 23 (pt a b) (pt a b)).run Try.prog w = .ok (.bool false) w := by
  rw [run_pt_neq]
  simp

set_option maxRecDepth 100000 in
set_option maxHeartbeats 2000000 in
theorem samePts_anyN {L : Pl} {v1 v2 : Value} (w : World) (h1 : SlV w v1 L) (h2 : SlV w v2 L) (hl : L.length ≤ 1000) :
    Calls Try.prog 28 #[v1, v2] w fun e w' => e = .returned (.bool true) ∧ Below w.heap.size w w' := by
  obtain ⟨a1, c1, rfl⟩ := h1.shapeN
  obtain ⟨a2, c2, rfl⟩ := h2.shapeN
  have H1 := Lib.hid h1
  have H2 := Lib.hid h2
  clear h1 h2
  go_enter Try.func28, Try.ntmps28
  go_wp2_with fail
  go_loopw [5] (fun i wr => ∃ k : Nat, k ≤ L.length ∧ i = .int .i64 k ∧ Below w.heap.size w wr) (fun i _ => L.length - (intOf i).toNat)
  case atStart => exact ⟨0, Nat.zero_le _, rfl, Below.refl _ _⟩
  case round =>
    obtain ⟨k, hk, rfl, hbel⟩ := hrel
    by_cases hlt : k < L.length
    · have j1 : (k : Int) < (L.length : Int) := by omega
      obtain ⟨b1, o1, d1, e1, x0, x1⟩ := (H1.out.keep hbel).atN hlt
      obtain ⟨b2, o2, d2, e2, y0, y1⟩ := (H2.out.keep hbel).atN hlt
      cases e1
      cases e2
      have hq := run_pt_neq_sameN
      generalize px L k = x at x0 y0
      generalize py L k = y at x1 y1
      go_wp2_with fail
      have G0 := grow_cell x0
      have G1 := grow_cell x1
      have G2 := grow_cell y0
      have G3 := grow_cell y1
      refine wp_region_grow (by kernel_rfl) (by kernel_rfl) ?_
      repeat (go_big_quiet_step (fail))
      refine wpQuiet_nil ?_
      rintro w4 ⟨z, hz⟩
      have hb : Below wr.heap.size wr w4 := by rw [hz]; exact z.b
      clear hz z G0 G1 G2 G3 x0 x1 y0 y1 hq
      have bel4 := keep_below hbel hb
      clear hb
      go_wp2
      exact ⟨⟨k + 1, by omega, by simp, bel4⟩, by simp [intOf]; omega⟩
    · obtain rfl : k = L.length := by omega
      go_wp2
      go_ret
      exact ⟨rfl, hbel⟩

theorem wf64N {a : Int} (h : (Lit.int .i64 a).wf = true) : -9223372036854775808 ≤ a ∧ a ≤ 9223372036854775807 := by
  have e1 : IntKind.i64.min = -9223372036854775808 := by decide
  have e2 : IntKind.i64.max = 9223372036854775807 := by decide
  simp [Lit.wf, e1, e2] at h
  omega

theorem okO_iff {L : Pl} : okO L = true ↔ 3 ≤ L.length ∧ L.length ≤ 400 ∧ vPts L = true := by
  unfold okO
  simp only [Bool.and_eq_true, decide_eq_true_eq]

/-- What Outline answers, where it answers. -/
theorem outS_cases {L : Pl} {base : Nat} {W : World} {v : Value} {E : Int} (h : OutS L base W v E) :
    E ≠ 0 ∨ (E = 0 ∧ Okm (leftL L) ∧ (leftL L).length ≤ 24 ∧ W.ownsRow base 23 2 v (normL (leftL L)).length (ptCells (normL (leftL L)))) := by
  rcases h with ⟨-, -, rfl⟩ | ⟨-, -, -, rfl⟩ | ⟨-, -, -, -, rfl⟩ | ⟨-, -, -, -, -, rfl⟩ | ⟨g, -, s, l, o, rfl⟩
  · exact .inl (by omega)
  · exact .inl (by omega)
  · exact .inl (by omega)
  · exact .inl (by omega)
  · rw [Bool.and_eq_true, decide_eq_true_eq] at s
    refine .inr ⟨rfl, ⟨s.1, s.2, left_nrm L, ?_⟩, l, by rw [normL_len]; exact o⟩
    rw [vPts_mem]
    exact fun x hx => vPts_mem.1 (okO_iff.1 g).2.2 x ((left_red L).mem x hx)

theorem outS_of {L : Pl} {base : Nat} {W : World} {v : Value} {E : Int} (h : OutS L base W v E) (g : okO L = true) (f : flatS L = false) (k : Okm (leftL L)) (l : (leftL L).length ≤ 24) :
    E = 0 ∧ W.ownsRow base 23 2 v (normL (leftL L)).length (ptCells (normL (leftL L))) := by
  have s : (decide (3 ≤ (leftL L).length) && simpleS (px (leftL L)) (py (leftL L)) (leftL L).length) = true := by
    rw [Bool.and_eq_true, decide_eq_true_eq]
    exact ⟨k.three, k.sim⟩
  rcases h with ⟨g', -⟩ | ⟨-, f', -⟩ | ⟨-, -, s', -⟩ | ⟨-, -, -, l', -⟩ | ⟨-, -, -, -, o, e⟩
  · rw [g] at g'
    cases g'
  · rw [f] at f'
    cases f'
  · rw [s] at s'
    cases s'
  · omega
  · exact ⟨e, by rw [normL_len]; exact o⟩

theorem left_out {A : Pl} (h : vOut A = true) : leftL A = A := by
  have ok := out_okm h
  unfold leftL
  have e : leaveL repK A = A := leaveL_none fun j hj => by
    cases c : repK A j
    · rfl
    · exact absurd (rep_sx c) (ok.nrm j hj)
  rw [e]
  exact leaveL_none fun j hj => str_sx.2 (ok.nrm j hj)

theorem outS_out {A : Pl} (h : vOut A = true) {base : Nat} {W : World} {v : Value} {E : Int} (hS : OutS A base W v E) : E = 0 ∧ W.ownsRow base 23 2 v A.length (ptCells A) := by
  have ok := out_okm h
  have hn := vOut_n h
  have := outS_of hS (okO_iff.2 ⟨hn.1, by omega, hn.2.2⟩) (out_flat ok) (by rw [left_out h]; exact ok) (by rw [left_out h]; exact hn.2.1)
  rw [left_out h, out_norm h] at this
  exact this

theorem outS_put {A : Pl} (h : vOut A = true) {i : Nat} (hi : i < A.length) {m : Int × Int} (hm : valid m.1 m.2 = true) (hc : crs (A.getD i (0, 0)) (A.getD ((i + 1) % A.length) (0, 0)) m = 0) {base : Nat} {W : World} {v : Value} {E : Int} (hS : OutS (putL A i m) base W v E) :
    E = 0 ∧ W.ownsRow base 23 2 v A.length (ptCells A) := by
  have hn := vOut_n h
  obtain ⟨k, kl, kn, kf⟩ := put_left h hi m hc
  have hl := putL_len hi m
  have hv : vPts (putL A i m) = true := by
    rw [vPts_mem]
    intro x hx
    unfold putL at hx
    rcases List.mem_append.1 hx with q | q
    · exact vPts_mem.1 hn.2.2 x (List.mem_of_mem_take q)
    · rcases List.mem_cons.1 q with rfl | q
      · exact hm
      · exact vPts_mem.1 hn.2.2 x (List.mem_of_mem_drop q)
  have := outS_of hS (okO_iff.2 ⟨by omega, by omega, hv⟩) kf k (by omega)
  rw [kn] at this
  exact this

theorem own_put {W : World} {base n i : Nat} {v : Value} {A : Pl} {x y : Int} (hn : A.length = n) (hi : i < n) (h : W.ownsRow base 23 2 v (0 + (i + 1) + 1 + (n - (i + 1))) ([] ++ ptCells (A.take (i + 1)) ++ [.int .i64 x, .int .i64 y] ++ ptCells (A.drop (i + 1)))) :
    W.ownsRow base 23 2 v (putL A i (x, y)).length (ptCells (putL A i (x, y))) := by
  have e1 : (putL A i (x, y)).length = 0 + (i + 1) + 1 + (n - (i + 1)) := by rw [putL_len (by omega)]; omega
  have e2 : putL A i (x, y) = A.take (i + 1) ++ [(x, y)] ++ A.drop (i + 1) := by unfold putL; simp
  rw [e1, e2, ptCells_append, ptCells_snoc]
  simpa using h

theorem own_put_last {W : World} {base i : Nat} {v : Value} {A : Pl} {x y : Int} (hn : A.length = i + 1) (h : W.ownsRow base 23 2 v (0 + (i + 1) + 1 + 0) ([] ++ ptCells (A.take (i + 1)) ++ [.int .i64 x, .int .i64 y] ++ [])) :
    W.ownsRow base 23 2 v (putL A i (x, y)).length (ptCells (putL A i (x, y))) := by
  refine own_put (n := i + 1) hn (by omega) ?_
  rw [List.drop_eq_nil_of_le (by omega), Nat.sub_self]
  exact h

theorem own_parts {W : World} {base : Nat} {v : Value} {A : Pl} (h : W.ownsRow base 23 2 v A.length (ptCells A)) (h0 : 0 < A.length) : ∃ g cap, v = .slice (some ⟨g, 0, none⟩) A.length cap ∧ A.length ≤ cap ∧ PtsAt W g 0 A := by
  have h2 := h.2
  rcases h2 with ⟨rfl, hz⟩ | ⟨g, cap, cur, rfl, hg, hcur, hncap, -⟩
  · omega
  · exact ⟨g, cap, rfl, hncap, own_at rfl h⟩

/-- The middle of an edge is a valid point. -/
theorem mid_valid {a b : Int × Int} (ha : valid a.1 a.2 = true) (hb : valid b.1 b.2 = true) : valid ((a.1 + b.1).tdiv 2) ((a.2 + b.2).tdiv 2) = true := by
  unfold valid at *
  simp only [Bool.and_eq_true, decide_eq_true_eq] at *
  rw [Int.tdiv_eq_ediv_of_nonneg (by omega), Int.tdiv_eq_ediv_of_nonneg (by omega)]
  omega

theorem valid_sm {x y : Int} (h : valid x y = true) : Small x ∧ Small y := by
  unfold valid at h
  unfold Small
  simp only [Bool.and_eq_true, decide_eq_true_eq] at h
  omega

/-- What the law's two first calls give, if both answer. -/
theorem turn_same {L : Pl} {back : Bool} {k : Nat} (hk : k < L.length) (h : Okm (leftL L)) : normL (leftL (trnL back L k)) = normL (leftL L) :=
  norm_turn h back (left_turn back (trn_rot back hk))

end Go.Proofs.Ytlocdadkhdcedaa

/- The law PlaneNormal, walked. -/
namespace Go.Proofs.Ytlocdadkhdcedaa
open Go Go.RowKit Go.Proofs Go.Abs Go.Plain

theorem sl_of {W : World} {g cap : Nat} {A : Pl} (h : PtsAt W g 0 A) (hl : A.length ≤ 9223372036854775807) : SlV W (.slice (some ⟨g, 0, none⟩) A.length cap) A := ⟨_, cap, rfl, hl, .inl ⟨g, 0, rfl, h⟩⟩

theorem sl_m {W : World} {g cap m : Nat} {A : Pl} (hm : A.length = m) (h : PtsAt W g 0 A) (hl : A.length ≤ 9223372036854775807) : SlV W (.slice (some ⟨g, 0, none⟩) m cap) A := by
  subst hm
  exact sl_of h hl

theorem pts_of_sl {W : World} {g cap : Nat} {A : Pl} {m : Nat} (h : SlV W (.slice (some ⟨g, 0, none⟩) m cap) A) (_h0 : 0 < m) : PtsAt W g 0 A := by
  obtain ⟨a, c, e, -, ⟨b, off, rfl, hp⟩ | ⟨rfl, -, -⟩⟩ := h
  · injection e with e1 e2 e3
    injection e1 with e1
    injection e1 with e4 e5
    rw [e4, e5]
    exact hp
  · injection e with e1
    cases e1

theorem pts_alloc {W : World} {b off : Nat} {A : Pl} (h : PtsAt W b off A) (o : Obj) : PtsAt (W.alloc o) b off A := fun k hk => ⟨pt_old W o (h k hk).1, pt_old W o (h k hk).2⟩

theorem outline_sl' {W : World} {g cap m : Nat} {A : Pl} (_hm : A.length = m) (h : SlV W (.slice (some ⟨g, 0, none⟩) m cap) A) : Calls Try.prog 26 #[.slice (some ⟨g, 0, none⟩) m cap] W fun e w' => ∃ v E, e = .returned (.tuple #[v, .int .i64 E]) ∧ OutS A W.heap.size w' v E ∧ Below W.heap.size W w' := outline_slN h

theorem vOut_sl' {W : World} {g cap m : Nat} {A : Pl} (_hm : A.length = m) (hv : vOut A = true) (h : SlV W (.slice (some ⟨g, 0, none⟩) m cap) A) : Calls Try.prog 29 #[.slice (some ⟨g, 0, none⟩) m cap] W fun e w' => e = .returned (.bool true) ∧ Below W.heap.size W w' := by
  have := vOut_sl h
  rw [hv] at this
  exact this

theorem own_grow' {W W' : World} {base : Nat} {v : Value} {A : Pl} (h : W.ownsRow base 23 2 v A.length (ptCells A)) (hb : Below W.heap.size W W') : W'.ownsRow base 23 2 v A.length (ptCells A) := own_keep h hb

theorem samePts' {W : World} {g cap m base : Nat} {v : Value} {A : Pl} (_hm : A.length = m) (h : W.ownsRow base 23 2 v A.length (ptCells A)) (h2 : SlV W (.slice (some ⟨g, 0, none⟩) m cap) A) (hl : A.length ≤ 1000) :
    Calls Try.prog 28 #[v, .slice (some ⟨g, 0, none⟩) m cap] W fun e w' => e = .returned (.bool true) ∧ Below W.heap.size W w' := samePts_anyN W (slv_own h (by omega)) h2 hl

theorem samePts2' {W : World} {g cap m base : Nat} {v : Value} {A : Pl} (_hm : A.length = m) (h2 : SlV W (.slice (some ⟨g, 0, none⟩) m cap) A) (h : W.ownsRow base 23 2 v A.length (ptCells A)) (hl : A.length ≤ 1000) :
    Calls Try.prog 28 #[.slice (some ⟨g, 0, none⟩) m cap, v] W fun e w' => e = .returned (.bool true) ∧ Below W.heap.size W w' := samePts_anyN W h2 (slv_own h (by omega)) hl

set_option maxRecDepth 100000 in
set_option maxHeartbeats 8000000 in
theorem normalLaw_any (v1 : Value) (L : Pl) (k : Int) (back : Bool) (w : World) (h1 : SlV w v1 L) (wk : -9223372036854775808 ≤ k ∧ k ≤ 9223372036854775807) :
    Calls Try.prog 10 #[v1, .int .i64 k, .bool back] w fun e w' => e = .returned (.bool true) ∧ Below w.heap.size w w' := by
  have O1 := fun w' (hb : Below w.heap.size w w') => outline_slN (h1.keep hb)
  obtain ⟨a1, cap1, rfl, hl1, hmem⟩ := h1
  have HMEM := Lib.hid hmem
  clear hmem
  obtain ⟨n, hn⟩ : ∃ n, L.length = n := ⟨_, rfl⟩
  simp only [hn] at O1
  rw [hn] at hl1 ⊢
  have HN := Lib.hid hn
  clear hn
  go_enter Try.func10, Try.ntmps10
  go_wp2_with fail
  refine (awake_any _).mono ?_
  rintro e w1 ⟨rfl, b1⟩
  by_cases g40 : (n : Int) > 40
  · go_wp2
    go_ret
    exact ⟨rfl, b1⟩
  by_cases g0 : n = 0
  · subst g0
    go_wp2
    go_ret
    exact ⟨rfl, b1⟩
  have nn0 : ((n : Int) == 0) = false := by simp; omega
  go_wp2_with fail
  refine (O1 w1 b1).mono ?_
  rintro e w2 ⟨va, E, rfl, P1, hb2⟩
  have b2 := keep_below b1 hb2
  have HP1 := Lib.hid P1
  clear P1 O1 b1 hb2
  obtain ⟨i, hi, IX⟩ := index_any k n wk.1 wk.2 (by omega) (by omega)
  rcases HMEM.out with ⟨b, off, rfl, hp⟩ | ⟨_, _, hnil⟩
  rotate_left
  · exfalso
    have := HN.out
    rw [hnil] at this
    exact g0 this.symm
  have TL := turnedList_any b off n cap1 i back (px L) (py L) w2 (by omega) hi (fun j hj => (hp.keep b2) j (by rw [HN.out]; exact hj))
  clear HMEM hp g0
  go_wp2_with fail
  refine (IX _).mono ?_
  rintro e w2 ⟨rfl, rfl⟩
  clear IX
  go_wp2_with fail
  refine TL.mono ?_
  rintro e w3 ⟨vt, rfl, ot, hb3⟩
  have b3 := keep_below b2 hb3
  have st : SlV w3 vt (trnL back L i) := slv_own (base := w2.heap.size) (by unfold trnL; rw [selL_len, HN.out]; exact ot) (by rw [trn_len, HN.out]; omega)
  have OT := outline_slN st
  clear TL ot st b2
  go_wp2_with fail
  refine OT.mono ?_
  rintro e w4 ⟨vb, E2, rfl, P2, hb4⟩
  have b4 := keep_below b3 hb4
  clear OT b3
  rcases outS_cases HP1.out with hE | ⟨rfl, ok, l24, o⟩
  · clear HP1 P2 hb3 hb4
    go_wp2
    go_ret
    exact ⟨rfl, b4⟩
  · have HT := Lib.hid (turn_same (back := back) (by rw [HN.out]; exact hi) ok)
    have HVO := Lib.hid (norm_out ok l24)
    replace o := own_keep (own_keep o hb3) hb4
    obtain ⟨A, hA⟩ : ∃ A, normL (leftL L) = A := ⟨_, rfl⟩
    rw [hA] at HT HVO o
    clear HP1 hA ok l24 hb3 hb4
    obtain ⟨m3, m24, -⟩ := vOut_n HVO.out
    obtain ⟨g, cap, rfl, hcap, pA⟩ := own_parts o (by omega)
    have sA := sl_of (cap := cap) pA (by omega)
    obtain ⟨m, hm⟩ : ∃ m, A.length = m := ⟨_, rfl⟩
    rw [hm] at m3 m24 hcap sA ⊢
    have hm0 : 0 < m := by omega
    have HM := Lib.hid hm
    clear hm pA o
    rcases outS_cases P2 with hE2 | ⟨rfl, -, -, o2⟩
    · clear P2 HT
      have sA6 := sA
      go_wp2_with fail
      refine (outline_sl' HM.out sA).mono ?_
      rintro e w6 ⟨vc, E3, rfl, P3, hb6⟩
      obtain ⟨rfl, o3⟩ := outS_out HVO.out P3
      have b6 := keep_below b4 hb6
      replace sA := sA.keep hb6
      clear P3 hb6 b4 sA6
      go_wp2_with fail
      refine (vOut_sl' HM.out HVO.out sA).mono ?_
      rintro e w7 ⟨rfl, hb7⟩
      have b7 := keep_below b6 hb7
      replace sA := sA.keep hb7
      have SS := samePts' HM.out (own_grow' o3 hb7) sA (by have := HM.out; omega)
      clear hb7 b6 o3
      go_wp2_with fail
      refine SS.mono ?_
      rintro e w8 ⟨rfl, hb8⟩
      have b8 := keep_below b7 hb8
      replace sA := sA.keep hb8
      clear hb8 b7 SS
      obtain ⟨j, hj, JX⟩ := index_any k m wk.1 wk.2 (by omega) (by omega)
      have mm0 : ((m : Int) == 0) = false := by simp; omega
      go_wp2_with fail
      refine (JX _).mono ?_
      rintro e w8 ⟨rfl, rfl⟩
      clear JX
      obtain ⟨q, hq⟩ : ∃ q, (j + 1) % m = q := ⟨_, rfl⟩
      have hqm : q < m := by rw [← hq]; exact Nat.mod_lt _ (by omega)
      have T1 : ((j : Int) + 1).tmod m = (q : Int) := by rw [Int.tmod_eq_emod_of_nonneg (by omega), ← hq, Int.natCast_emod]; congr 1
      have hp8 := Lib.hid (pts_of_sl sA hm0)
      have e0 := (hp8.out j (by rw [HM.out]; exact hj)).1
      have e1 := (hp8.out j (by rw [HM.out]; exact hj)).2
      have e2 := (hp8.out q (by rw [HM.out]; exact hqm)).1
      have e3 := (hp8.out q (by rw [HM.out]; exact hqm)).2
      rw [Nat.zero_add] at e0 e1 e2 e3
      unfold px at e0 e2
      unfold py at e1 e3
      have va := vPts_iff.1 (vOut_n HVO.out).2.2 j (by rw [HM.out]; exact hj)
      have vb := vPts_iff.1 (vOut_n HVO.out).2.2 q (by rw [HM.out]; exact hqm)
      have HPUT : Hid (crs (A.getD j (0, 0)) (A.getD q (0, 0)) ((((A.getD j (0, 0)).1 + (A.getD q (0, 0)).1).tdiv 2), (((A.getD j (0, 0)).2 + (A.getD q (0, 0)).2).tdiv 2)) = 0 → ∀ (base : Nat) (W : World) (v : Value) (E : Int), OutS (putL A j ((((A.getD j (0, 0)).1 + (A.getD q (0, 0)).1).tdiv 2), (((A.getD j (0, 0)).2 + (A.getD q (0, 0)).2).tdiv 2))) base W v E → E = 0 ∧ W.ownsRow base 23 2 v A.length (ptCells A)) := Lib.hid (fun h0 base W v E hS =>
        outS_put HVO.out (i := j) (by rw [HM.out]; exact hj) (mid_valid va vb) (by rw [HM.out, hq]; exact h0) hS)
      clear hq sA
      obtain ⟨x0, y0, hxy0⟩ : ∃ x y, A.getD j (0, 0) = (x, y) := ⟨_, _, rfl⟩
      obtain ⟨x1, y1, hxy1⟩ : ∃ x y, A.getD q (0, 0) = (x, y) := ⟨_, _, rfl⟩
      rw [hxy0] at e0 e1 va HPUT
      rw [hxy1] at e2 e3 vb HPUT
      simp only at e0 e1 e2 e3 HPUT
      have vm := mid_valid va vb
      obtain ⟨sx0, sy0⟩ := valid_sm va
      obtain ⟨sx1, sy1⟩ := valid_sm vb
      obtain ⟨smx, smy⟩ := valid_sm vm
      simp only at sx0 sy0 sx1 sy1 smx smy
      have U1 : wrap64 (x0 + x1) = x0 + x1 := w64 _ (by unfold Small at *; omega)
      have U2 : wrap64 (y0 + y1) = y0 + y1 := w64 _ (by unfold Small at *; omega)
      have U3 : wrap64 ((x0 + x1).tdiv 2) = (x0 + x1).tdiv 2 := w64 _ (by unfold Small at *; omega)
      have U4 : wrap64 ((y0 + y1).tdiv 2) = (y0 + y1).tdiv 2 := w64 _ (by unfold Small at *; omega)
      obtain ⟨mx, hmx⟩ : ∃ z, (x0 + x1).tdiv 2 = z := ⟨_, rfl⟩
      obtain ⟨my, hmy⟩ : ∃ z, (y0 + y1).tdiv 2 = z := ⟨_, rfl⟩
      rw [hmx] at U3 HPUT smx
      rw [hmy] at U4 HPUT smy
      have CR := fun w => refCross_any x0 y0 x1 y1 mx my w sx0 sy0 sx1 sy1 smx smy
      rw [show crs (x0, y0) (x1, y1) (mx, my) = cross x0 y0 x1 y1 mx my from rfl] at HPUT
      obtain ⟨z, hz⟩ : ∃ z, cross x0 y0 x1 y1 mx my = z := ⟨_, rfl⟩
      rw [hz] at CR HPUT
      clear hz va vb vm hxy0 hxy1 sx0 sy0 sx1 sy1 smx smy
      have s1 : ∀ (v : World) (o : Obj), (v.alloc o).heap.size = v.heap.size + 1 := fun v o => by simp
      have A0 := pt_old w8 (ptObj x0 y0) e2
      have A1 := pt_old w8 (ptObj x0 y0) e3
      have q1 := ((Pb.new w8 x0 y0).alloc (ptObj x1 y1))
      have q1' := q1.alloc (ptObj mx my)
      have q2 := Pb.new (w8.alloc (ptObj x0 y0)) x1 y1
      have q2' := q2.alloc (ptObj mx my)
      have q3 := Pb.new ((w8.alloc (ptObj x0 y0)).alloc (ptObj x1 y1)) mx my
      rw [s1] at q2 q2' q3
      rw [s1] at q3
      have b8b := ((b8.alloc b8.size (ptObj x0 y0)).alloc (by rw [s1]; have := b8.size; omega) (ptObj x1 y1)).alloc (by rw [s1, s1]; have := b8.size; omega) (ptObj mx my)
      have hp8b := Lib.hid (((pts_alloc (pts_alloc (pts_alloc hp8.out (ptObj x0 y0)) (ptObj x1 y1)) (ptObj mx my))))
      clear s1 b8 hp8
      have k10 := q1.c0
      have k11 := q1.c1
      have k20 := q2.c0
      have k21 := q2.c1
      have k10' := q1'.c0
      have k11' := q1'.c1
      have k20' := q2'.c0
      have k21' := q2'.c1
      have k30 := q3.c0
      have k31 := q3.c1
      have j1 : (j : Int) < (m : Int) := by omega
      have j2 : (q : Int) < (m : Int) := by omega
      have j3 : ¬ m = 0 := by omega
      clear q1 q2
      go_wp2_with fail
      refine (CR _).mono ?_
      rintro e w9 ⟨rfl, hb9⟩
      have b9 := keep_below b8b hb9
      have m9 := q3.keep hb9
      have hp9 := Lib.hid (hp8b.out.keep hb9)
      clear hb9 b8b q3 hp8b CR q1' q2' k10 k11 k20 k21 k10' k11' k20' k21' k30 k31 A0 A1 e0 e1 e2 e3 T1 U1 U2 U3 U4
      by_cases hz : z = 0
      · subst hz
        have HPUZ := Lib.hid (HPUT.out rfl)
        clear HPUT
        have htl := Lib.hid (show (ptCells (A.take (j + 1))).length = (j + 1) * 2 by rw [ptCells_len, List.length_take, HM.out]; omega)
        have hdl := Lib.hid (show (ptCells (A.drop (j + 1))).length = (m - (j + 1)) * 2 by rw [ptCells_len, List.length_drop, HM.out])
        obtain ⟨i0', hi0, hz0, hz1, hz2⟩ := info_parts info23
        have j4 : (j : Int) + 1 ≤ (cap : Int) := by omega
        by_cases hlast : j + 1 < m
        · have j5 : (j : Int) + 1 < (m : Int) := by omega
          have j6 : ¬ j + 1 = cap := by omega
          have tok1 : True := trivial
          go_wp2_with (first
            | (at_builtin; have _t := tok1; refine wpList_append_own _ rfl _ _ 32 rfl w9.heap.size 23 i0' (pt 0 0) 2 16 Try.underlying32 hi0 hz0 hz1 hz2 rfl (by decide) _ _ _ rfl (World.ownsRow_nil w9 w9.heap.size 23 2) ⟨g, 0, none⟩ (j + 1) _ (ptCells (A.take (j + 1))) rfl htl.out (pts_cells (pts_take hp9.out (j + 1))) (ptCells_one _) (by unfold maxLen; omega) (by omega) (Nat.le_refl _) ?_; intro v10 w10 hown10 hg10 _; clear tok1
               have tok2 : True := trivial
               have hb10 : Below w9.heap.size w9 w10 := (Below.refl _ w9).grown hg10 (Nat.le_refl _) (fun k e => ((World.ownsRow_nil w9 w9.heap.size 23 2).lt k e).1)
               have hp10 := Lib.hid (hp9.out.keep hb10)
               have m0 := (m9.keep hb10).c0
               have m1 := (m9.keep hb10).c1)
            | (at_builtin; have _t := tok2; refine wpList_append_own _ rfl _ _ 32 rfl w9.heap.size 23 i0' (pt 0 0) 2 16 Try.underlying32 hi0 hz0 hz1 hz2 rfl (by decide) _ _ _ rfl (hown10.alloc _) _ 1 1 [.int .i64 mx, .int .i64 my] rfl rfl (two_new _ _ _) (two_cells _ _) (by unfold maxLen; omega) (by omega) (by have := hb10.size; simp; omega) ?_; intro v11 w11 hown11 hg11 _; clear tok2
               have tok3 : True := trivial
               have hb11 : Below w9.heap.size w9 w11 := (hb10.alloc hb10.size _).grown hg11 (by have := hb10.size; simp; omega) (fun k e => (hown10.lt k e).1)
               have hp11 := Lib.hid (hp9.out.keep hb11)
               have hpd : PtsAt w11 g ((j + 1) * 2) (A.drop (j + 1)) := by have := pts_drop hp11.out (j + 1); rw [Nat.zero_add] at this; exact this)
            | (at_builtin; have _t := tok3; refine wpList_append_own _ rfl _ _ 32 rfl w9.heap.size 23 i0' (pt 0 0) 2 16 Try.underlying32 hi0 hz0 hz1 hz2 rfl (by decide) _ _ _ rfl hown11 _ (m - (j + 1)) _ (ptCells (A.drop (j + 1))) rfl hdl.out (pts_cells hpd) (ptCells_one _) (by unfold maxLen; omega) (by omega) hb11.size ?_; intro v12 w12 hown12 hg12 _; clear tok3
               have hb12 := Lib.hid (hb11.grown hg12 hb11.size (fun k e => (hown11.lt k e).1))
               have hown13 : Hid (w12.ownsRow w9.heap.size 23 2 v12 (putL A j (mx, my)).length (ptCells (putL A j (mx, my)))) := Lib.hid (own_put HM.out hj hown12)))
          clear hown12 hg12 hown11 hg11 hown10 hg10
          refine (outline_slN (slv_own hown13.out (by rw [putL_len (by have := HM.out; omega)]; have := HM.out; omega))).mono ?_
          rintro e w13 ⟨vd, E4, rfl, P4, hb13⟩
          obtain ⟨rfl, o4⟩ := HPUZ.out _ _ _ _ P4
          have b12 := b9.trans (hb12.out.mono b9.size)
          have b13 := keep_below b12 hb13
          have pA13 := (SlV.keep (sl_m (cap := cap) HM.out hp9.out (by have := HM.out; omega)) hb12.out).keep hb13
          have SS2 := samePts' HM.out o4 pA13 (by have := HM.out; omega)
          clear P4 o4 pA13 hown13 hb12
          go_wp2_with fail
          refine SS2.mono ?_
          rintro e w14 ⟨rfl, hb14⟩
          have b14 := keep_below b13 hb14
          go_wp2
          go_ret
          exact ⟨rfl, b14⟩
        · have hnil : ptCells (A.drop (j + 1)) = [] := by rw [List.drop_eq_nil_of_le (by have := HM.out; omega)]; rfl
          obtain rfl : m = j + 1 := by omega
          by_cases hcp : j + 1 = cap
          · subst hcp
            have tok1 : True := trivial
            go_wp2_with (first
              | (at_builtin; have _t := tok1; refine wpList_append_own _ rfl _ _ 32 rfl w9.heap.size 23 i0' (pt 0 0) 2 16 Try.underlying32 hi0 hz0 hz1 hz2 rfl (by decide) _ _ _ rfl (World.ownsRow_nil w9 w9.heap.size 23 2) ⟨g, 0, none⟩ (j + 1) _ (ptCells (A.take (j + 1))) rfl htl.out (pts_cells (pts_take hp9.out (j + 1))) (ptCells_one _) (by unfold maxLen; omega) (by omega) (Nat.le_refl _) ?_; intro v10 w10 hown10 hg10 _; clear tok1
                 have tok2 : True := trivial
                 have hb10 : Below w9.heap.size w9 w10 := (Below.refl _ w9).grown hg10 (Nat.le_refl _) (fun k e => ((World.ownsRow_nil w9 w9.heap.size 23 2).lt k e).1)
                 have hp10 := Lib.hid (hp9.out.keep hb10)
                 have m0 := (m9.keep hb10).c0
                 have m1 := (m9.keep hb10).c1)
              | (at_builtin; have _t := tok2; refine wpList_append_own _ rfl _ _ 32 rfl w9.heap.size 23 i0' (pt 0 0) 2 16 Try.underlying32 hi0 hz0 hz1 hz2 rfl (by decide) _ _ _ rfl (hown10.alloc _) _ 1 1 [.int .i64 mx, .int .i64 my] rfl rfl (two_new _ _ _) (two_cells _ _) (by unfold maxLen; omega) (by omega) (by have := hb10.size; simp; omega) ?_; intro v11 w11 hown11 hg11 _; clear tok2
                 have tok3 : True := trivial
                 have hb11 : Below w9.heap.size w9 w11 := (hb10.alloc hb10.size _).grown hg11 (by have := hb10.size; simp; omega) (fun k e => (hown10.lt k e).1)
                 have hp11 := Lib.hid (hp9.out.keep hb11)
                 have hpd : PtsAt w11 g ((j + 1) * 2) (A.drop (j + 1)) := by have := pts_drop hp11.out (j + 1); rw [Nat.zero_add] at this; exact this)
              | (at_builtin; have _t := tok3; refine wpList_append_own _ rfl _ _ 32 rfl w9.heap.size 23 i0' (pt 0 0) 2 16 Try.underlying32 hi0 hz0 hz1 hz2 rfl (by decide) _ _ _ rfl hown11 _ 0 _ [] rfl rfl (fun j u hj => by cases hj) (fun u hu => by cases hu) (by unfold maxLen; omega) (by omega) hb11.size ?_; intro v12 w12 hown12 hg12 _; clear tok3
                 have hb12 := Lib.hid (hb11.grown hg12 hb11.size (fun k e => (hown11.lt k e).1))
                 have hown13 : Hid (w12.ownsRow w9.heap.size 23 2 v12 (putL A j (mx, my)).length (ptCells (putL A j (mx, my)))) := Lib.hid (own_put_last HM.out hown12)))
            clear hown12 hg12 hown11 hg11 hown10 hg10
            refine (outline_slN (slv_own hown13.out (by rw [putL_len (by have := HM.out; omega)]; have := HM.out; omega))).mono ?_
            rintro e w13 ⟨vd, E4, rfl, P4, hb13⟩
            obtain ⟨rfl, o4⟩ := HPUZ.out _ _ _ _ P4
            have b12 := b9.trans (hb12.out.mono b9.size)
            have b13 := keep_below b12 hb13
            have pA13 := (SlV.keep (sl_m (cap := (j + 1)) HM.out hp9.out (by have := HM.out; omega)) hb12.out).keep hb13
            have SS2 := samePts' HM.out o4 pA13 (by have := HM.out; omega)
            clear P4 o4 pA13 hown13 hb12
            go_wp2_with fail
            refine SS2.mono ?_
            rintro e w14 ⟨rfl, hb14⟩
            have b14 := keep_below b13 hb14
            go_wp2
            go_ret
            exact ⟨rfl, b14⟩
          · have j6 : ¬ j + 1 = cap := hcp
            have tok1 : True := trivial
            go_wp2_with (first
              | (at_builtin; have _t := tok1; refine wpList_append_own _ rfl _ _ 32 rfl w9.heap.size 23 i0' (pt 0 0) 2 16 Try.underlying32 hi0 hz0 hz1 hz2 rfl (by decide) _ _ _ rfl (World.ownsRow_nil w9 w9.heap.size 23 2) ⟨g, 0, none⟩ (j + 1) _ (ptCells (A.take (j + 1))) rfl htl.out (pts_cells (pts_take hp9.out (j + 1))) (ptCells_one _) (by unfold maxLen; omega) (by omega) (Nat.le_refl _) ?_; intro v10 w10 hown10 hg10 _; clear tok1
                 have tok2 : True := trivial
                 have hb10 : Below w9.heap.size w9 w10 := (Below.refl _ w9).grown hg10 (Nat.le_refl _) (fun k e => ((World.ownsRow_nil w9 w9.heap.size 23 2).lt k e).1)
                 have hp10 := Lib.hid (hp9.out.keep hb10)
                 have m0 := (m9.keep hb10).c0
                 have m1 := (m9.keep hb10).c1)
              | (at_builtin; have _t := tok2; refine wpList_append_own _ rfl _ _ 32 rfl w9.heap.size 23 i0' (pt 0 0) 2 16 Try.underlying32 hi0 hz0 hz1 hz2 rfl (by decide) _ _ _ rfl (hown10.alloc _) _ 1 1 [.int .i64 mx, .int .i64 my] rfl rfl (two_new _ _ _) (two_cells _ _) (by unfold maxLen; omega) (by omega) (by have := hb10.size; simp; omega) ?_; intro v11 w11 hown11 hg11 _; clear tok2
                 have tok3 : True := trivial
                 have hb11 : Below w9.heap.size w9 w11 := (hb10.alloc hb10.size _).grown hg11 (by have := hb10.size; simp; omega) (fun k e => (hown10.lt k e).1)
                 have hp11 := Lib.hid (hp9.out.keep hb11)
                 have hpd : PtsAt w11 g ((j + 1) * 2) (A.drop (j + 1)) := by have := pts_drop hp11.out (j + 1); rw [Nat.zero_add] at this; exact this)
              | (at_builtin; have _t := tok3; refine wpList_append_own _ rfl _ _ 32 rfl w9.heap.size 23 i0' (pt 0 0) 2 16 Try.underlying32 hi0 hz0 hz1 hz2 rfl (by decide) _ _ _ rfl hown11 _ 0 _ [] rfl rfl (fun j u hj => by cases hj) (fun u hu => by cases hu) (by unfold maxLen; omega) (by omega) hb11.size ?_; intro v12 w12 hown12 hg12 _; clear tok3
                 have hb12 := Lib.hid (hb11.grown hg12 hb11.size (fun k e => (hown11.lt k e).1))
                 have hown13 : Hid (w12.ownsRow w9.heap.size 23 2 v12 (putL A j (mx, my)).length (ptCells (putL A j (mx, my)))) := Lib.hid (own_put_last HM.out hown12)))
            clear hown12 hg12 hown11 hg11 hown10 hg10
            refine (outline_slN (slv_own hown13.out (by rw [putL_len (by have := HM.out; omega)]; have := HM.out; omega))).mono ?_
            rintro e w13 ⟨vd, E4, rfl, P4, hb13⟩
            obtain ⟨rfl, o4⟩ := HPUZ.out _ _ _ _ P4
            have b12 := b9.trans (hb12.out.mono b9.size)
            have b13 := keep_below b12 hb13
            have pA13 := (SlV.keep (sl_m (cap := cap) HM.out hp9.out (by have := HM.out; omega)) hb12.out).keep hb13
            have SS2 := samePts' HM.out o4 pA13 (by have := HM.out; omega)
            clear P4 o4 pA13 hown13 hb12
            go_wp2_with fail
            refine SS2.mono ?_
            rintro e w14 ⟨rfl, hb14⟩
            have b14 := keep_below b13 hb14
            go_wp2
            go_ret
            exact ⟨rfl, b14⟩
      · go_wp2
        go_ret
        exact ⟨rfl, b9⟩
    · rw [HT.out] at o2
      have SS0 := samePts2' HM.out sA o2 (by have := HM.out; omega)
      clear P2 HT o2
      go_wp2_with fail
      refine SS0.mono ?_
      rintro e w5 ⟨rfl, hb5⟩
      have b5 := keep_below b4 hb5
      replace sA := sA.keep hb5
      clear SS0 hb5 b4
      have sA6 := sA
      go_wp2_with fail
      refine (outline_sl' HM.out sA).mono ?_
      rintro e w6 ⟨vc, E3, rfl, P3, hb6⟩
      obtain ⟨rfl, o3⟩ := outS_out HVO.out P3
      have b6 := keep_below b5 hb6
      replace sA := sA.keep hb6
      clear P3 hb6 b5 sA6
      go_wp2_with fail
      refine (vOut_sl' HM.out HVO.out sA).mono ?_
      rintro e w7 ⟨rfl, hb7⟩
      have b7 := keep_below b6 hb7
      replace sA := sA.keep hb7
      have SS := samePts' HM.out (own_grow' o3 hb7) sA (by have := HM.out; omega)
      clear hb7 b6 o3
      go_wp2_with fail
      refine SS.mono ?_
      rintro e w8 ⟨rfl, hb8⟩
      have b8 := keep_below b7 hb8
      replace sA := sA.keep hb8
      clear hb8 b7 SS
      obtain ⟨j, hj, JX⟩ := index_any k m wk.1 wk.2 (by omega) (by omega)
      have mm0 : ((m : Int) == 0) = false := by simp; omega
      go_wp2_with fail
      refine (JX _).mono ?_
      rintro e w8 ⟨rfl, rfl⟩
      clear JX
      obtain ⟨q, hq⟩ : ∃ q, (j + 1) % m = q := ⟨_, rfl⟩
      have hqm : q < m := by rw [← hq]; exact Nat.mod_lt _ (by omega)
      have T1 : ((j : Int) + 1).tmod m = (q : Int) := by rw [Int.tmod_eq_emod_of_nonneg (by omega), ← hq, Int.natCast_emod]; congr 1
      have hp8 := Lib.hid (pts_of_sl sA hm0)
      have e0 := (hp8.out j (by rw [HM.out]; exact hj)).1
      have e1 := (hp8.out j (by rw [HM.out]; exact hj)).2
      have e2 := (hp8.out q (by rw [HM.out]; exact hqm)).1
      have e3 := (hp8.out q (by rw [HM.out]; exact hqm)).2
      rw [Nat.zero_add] at e0 e1 e2 e3
      unfold px at e0 e2
      unfold py at e1 e3
      have va := vPts_iff.1 (vOut_n HVO.out).2.2 j (by rw [HM.out]; exact hj)
      have vb := vPts_iff.1 (vOut_n HVO.out).2.2 q (by rw [HM.out]; exact hqm)
      have HPUT : Hid (crs (A.getD j (0, 0)) (A.getD q (0, 0)) ((((A.getD j (0, 0)).1 + (A.getD q (0, 0)).1).tdiv 2), (((A.getD j (0, 0)).2 + (A.getD q (0, 0)).2).tdiv 2)) = 0 → ∀ (base : Nat) (W : World) (v : Value) (E : Int), OutS (putL A j ((((A.getD j (0, 0)).1 + (A.getD q (0, 0)).1).tdiv 2), (((A.getD j (0, 0)).2 + (A.getD q (0, 0)).2).tdiv 2))) base W v E → E = 0 ∧ W.ownsRow base 23 2 v A.length (ptCells A)) := Lib.hid (fun h0 base W v E hS =>
        outS_put HVO.out (i := j) (by rw [HM.out]; exact hj) (mid_valid va vb) (by rw [HM.out, hq]; exact h0) hS)
      clear hq sA
      obtain ⟨x0, y0, hxy0⟩ : ∃ x y, A.getD j (0, 0) = (x, y) := ⟨_, _, rfl⟩
      obtain ⟨x1, y1, hxy1⟩ : ∃ x y, A.getD q (0, 0) = (x, y) := ⟨_, _, rfl⟩
      rw [hxy0] at e0 e1 va HPUT
      rw [hxy1] at e2 e3 vb HPUT
      simp only at e0 e1 e2 e3 HPUT
      have vm := mid_valid va vb
      obtain ⟨sx0, sy0⟩ := valid_sm va
      obtain ⟨sx1, sy1⟩ := valid_sm vb
      obtain ⟨smx, smy⟩ := valid_sm vm
      simp only at sx0 sy0 sx1 sy1 smx smy
      have U1 : wrap64 (x0 + x1) = x0 + x1 := w64 _ (by unfold Small at *; omega)
      have U2 : wrap64 (y0 + y1) = y0 + y1 := w64 _ (by unfold Small at *; omega)
      have U3 : wrap64 ((x0 + x1).tdiv 2) = (x0 + x1).tdiv 2 := w64 _ (by unfold Small at *; omega)
      have U4 : wrap64 ((y0 + y1).tdiv 2) = (y0 + y1).tdiv 2 := w64 _ (by unfold Small at *; omega)
      obtain ⟨mx, hmx⟩ : ∃ z, (x0 + x1).tdiv 2 = z := ⟨_, rfl⟩
      obtain ⟨my, hmy⟩ : ∃ z, (y0 + y1).tdiv 2 = z := ⟨_, rfl⟩
      rw [hmx] at U3 HPUT smx
      rw [hmy] at U4 HPUT smy
      have CR := fun w => refCross_any x0 y0 x1 y1 mx my w sx0 sy0 sx1 sy1 smx smy
      rw [show crs (x0, y0) (x1, y1) (mx, my) = cross x0 y0 x1 y1 mx my from rfl] at HPUT
      obtain ⟨z, hz⟩ : ∃ z, cross x0 y0 x1 y1 mx my = z := ⟨_, rfl⟩
      rw [hz] at CR HPUT
      clear hz va vb vm hxy0 hxy1 sx0 sy0 sx1 sy1 smx smy
      have s1 : ∀ (v : World) (o : Obj), (v.alloc o).heap.size = v.heap.size + 1 := fun v o => by simp
      have A0 := pt_old w8 (ptObj x0 y0) e2
      have A1 := pt_old w8 (ptObj x0 y0) e3
      have q1 := ((Pb.new w8 x0 y0).alloc (ptObj x1 y1))
      have q1' := q1.alloc (ptObj mx my)
      have q2 := Pb.new (w8.alloc (ptObj x0 y0)) x1 y1
      have q2' := q2.alloc (ptObj mx my)
      have q3 := Pb.new ((w8.alloc (ptObj x0 y0)).alloc (ptObj x1 y1)) mx my
      rw [s1] at q2 q2' q3
      rw [s1] at q3
      have b8b := ((b8.alloc b8.size (ptObj x0 y0)).alloc (by rw [s1]; have := b8.size; omega) (ptObj x1 y1)).alloc (by rw [s1, s1]; have := b8.size; omega) (ptObj mx my)
      have hp8b := Lib.hid (((pts_alloc (pts_alloc (pts_alloc hp8.out (ptObj x0 y0)) (ptObj x1 y1)) (ptObj mx my))))
      clear s1 b8 hp8
      have k10 := q1.c0
      have k11 := q1.c1
      have k20 := q2.c0
      have k21 := q2.c1
      have k10' := q1'.c0
      have k11' := q1'.c1
      have k20' := q2'.c0
      have k21' := q2'.c1
      have k30 := q3.c0
      have k31 := q3.c1
      have j1 : (j : Int) < (m : Int) := by omega
      have j2 : (q : Int) < (m : Int) := by omega
      have j3 : ¬ m = 0 := by omega
      clear q1 q2
      go_wp2_with fail
      refine (CR _).mono ?_
      rintro e w9 ⟨rfl, hb9⟩
      have b9 := keep_below b8b hb9
      have m9 := q3.keep hb9
      have hp9 := Lib.hid (hp8b.out.keep hb9)
      clear hb9 b8b q3 hp8b CR q1' q2' k10 k11 k20 k21 k10' k11' k20' k21' k30 k31 A0 A1 e0 e1 e2 e3 T1 U1 U2 U3 U4
      by_cases hz : z = 0
      · subst hz
        have HPUZ := Lib.hid (HPUT.out rfl)
        clear HPUT
        have htl := Lib.hid (show (ptCells (A.take (j + 1))).length = (j + 1) * 2 by rw [ptCells_len, List.length_take, HM.out]; omega)
        have hdl := Lib.hid (show (ptCells (A.drop (j + 1))).length = (m - (j + 1)) * 2 by rw [ptCells_len, List.length_drop, HM.out])
        obtain ⟨i0', hi0, hz0, hz1, hz2⟩ := info_parts info23
        have j4 : (j : Int) + 1 ≤ (cap : Int) := by omega
        by_cases hlast : j + 1 < m
        · have j5 : (j : Int) + 1 < (m : Int) := by omega
          have j6 : ¬ j + 1 = cap := by omega
          have tok1 : True := trivial
          go_wp2_with (first
            | (at_builtin; have _t := tok1; refine wpList_append_own _ rfl _ _ 32 rfl w9.heap.size 23 i0' (pt 0 0) 2 16 Try.underlying32 hi0 hz0 hz1 hz2 rfl (by decide) _ _ _ rfl (World.ownsRow_nil w9 w9.heap.size 23 2) ⟨g, 0, none⟩ (j + 1) _ (ptCells (A.take (j + 1))) rfl htl.out (pts_cells (pts_take hp9.out (j + 1))) (ptCells_one _) (by unfold maxLen; omega) (by omega) (Nat.le_refl _) ?_; intro v10 w10 hown10 hg10 _; clear tok1
               have tok2 : True := trivial
               have hb10 : Below w9.heap.size w9 w10 := (Below.refl _ w9).grown hg10 (Nat.le_refl _) (fun k e => ((World.ownsRow_nil w9 w9.heap.size 23 2).lt k e).1)
               have hp10 := Lib.hid (hp9.out.keep hb10)
               have m0 := (m9.keep hb10).c0
               have m1 := (m9.keep hb10).c1)
            | (at_builtin; have _t := tok2; refine wpList_append_own _ rfl _ _ 32 rfl w9.heap.size 23 i0' (pt 0 0) 2 16 Try.underlying32 hi0 hz0 hz1 hz2 rfl (by decide) _ _ _ rfl (hown10.alloc _) _ 1 1 [.int .i64 mx, .int .i64 my] rfl rfl (two_new _ _ _) (two_cells _ _) (by unfold maxLen; omega) (by omega) (by have := hb10.size; simp; omega) ?_; intro v11 w11 hown11 hg11 _; clear tok2
               have tok3 : True := trivial
               have hb11 : Below w9.heap.size w9 w11 := (hb10.alloc hb10.size _).grown hg11 (by have := hb10.size; simp; omega) (fun k e => (hown10.lt k e).1)
               have hp11 := Lib.hid (hp9.out.keep hb11)
               have hpd : PtsAt w11 g ((j + 1) * 2) (A.drop (j + 1)) := by have := pts_drop hp11.out (j + 1); rw [Nat.zero_add] at this; exact this)
            | (at_builtin; have _t := tok3; refine wpList_append_own _ rfl _ _ 32 rfl w9.heap.size 23 i0' (pt 0 0) 2 16 Try.underlying32 hi0 hz0 hz1 hz2 rfl (by decide) _ _ _ rfl hown11 _ (m - (j + 1)) _ (ptCells (A.drop (j + 1))) rfl hdl.out (pts_cells hpd) (ptCells_one _) (by unfold maxLen; omega) (by omega) hb11.size ?_; intro v12 w12 hown12 hg12 _; clear tok3
               have hb12 := Lib.hid (hb11.grown hg12 hb11.size (fun k e => (hown11.lt k e).1))
               have hown13 : Hid (w12.ownsRow w9.heap.size 23 2 v12 (putL A j (mx, my)).length (ptCells (putL A j (mx, my)))) := Lib.hid (own_put HM.out hj hown12)))
          clear hown12 hg12 hown11 hg11 hown10 hg10
          refine (outline_slN (slv_own hown13.out (by rw [putL_len (by have := HM.out; omega)]; have := HM.out; omega))).mono ?_
          rintro e w13 ⟨vd, E4, rfl, P4, hb13⟩
          obtain ⟨rfl, o4⟩ := HPUZ.out _ _ _ _ P4
          have b12 := b9.trans (hb12.out.mono b9.size)
          have b13 := keep_below b12 hb13
          have pA13 := (SlV.keep (sl_m (cap := cap) HM.out hp9.out (by have := HM.out; omega)) hb12.out).keep hb13
          have SS2 := samePts' HM.out o4 pA13 (by have := HM.out; omega)
          clear P4 o4 pA13 hown13 hb12
          go_wp2_with fail
          refine SS2.mono ?_
          rintro e w14 ⟨rfl, hb14⟩
          have b14 := keep_below b13 hb14
          go_wp2
          go_ret
          exact ⟨rfl, b14⟩
        · have hnil : ptCells (A.drop (j + 1)) = [] := by rw [List.drop_eq_nil_of_le (by have := HM.out; omega)]; rfl
          obtain rfl : m = j + 1 := by omega
          by_cases hcp : j + 1 = cap
          · subst hcp
            have tok1 : True := trivial
            go_wp2_with (first
              | (at_builtin; have _t := tok1; refine wpList_append_own _ rfl _ _ 32 rfl w9.heap.size 23 i0' (pt 0 0) 2 16 Try.underlying32 hi0 hz0 hz1 hz2 rfl (by decide) _ _ _ rfl (World.ownsRow_nil w9 w9.heap.size 23 2) ⟨g, 0, none⟩ (j + 1) _ (ptCells (A.take (j + 1))) rfl htl.out (pts_cells (pts_take hp9.out (j + 1))) (ptCells_one _) (by unfold maxLen; omega) (by omega) (Nat.le_refl _) ?_; intro v10 w10 hown10 hg10 _; clear tok1
                 have tok2 : True := trivial
                 have hb10 : Below w9.heap.size w9 w10 := (Below.refl _ w9).grown hg10 (Nat.le_refl _) (fun k e => ((World.ownsRow_nil w9 w9.heap.size 23 2).lt k e).1)
                 have hp10 := Lib.hid (hp9.out.keep hb10)
                 have m0 := (m9.keep hb10).c0
                 have m1 := (m9.keep hb10).c1)
              | (at_builtin; have _t := tok2; refine wpList_append_own _ rfl _ _ 32 rfl w9.heap.size 23 i0' (pt 0 0) 2 16 Try.underlying32 hi0 hz0 hz1 hz2 rfl (by decide) _ _ _ rfl (hown10.alloc _) _ 1 1 [.int .i64 mx, .int .i64 my] rfl rfl (two_new _ _ _) (two_cells _ _) (by unfold maxLen; omega) (by omega) (by have := hb10.size; simp; omega) ?_; intro v11 w11 hown11 hg11 _; clear tok2
                 have tok3 : True := trivial
                 have hb11 : Below w9.heap.size w9 w11 := (hb10.alloc hb10.size _).grown hg11 (by have := hb10.size; simp; omega) (fun k e => (hown10.lt k e).1)
                 have hp11 := Lib.hid (hp9.out.keep hb11)
                 have hpd : PtsAt w11 g ((j + 1) * 2) (A.drop (j + 1)) := by have := pts_drop hp11.out (j + 1); rw [Nat.zero_add] at this; exact this)
              | (at_builtin; have _t := tok3; refine wpList_append_own _ rfl _ _ 32 rfl w9.heap.size 23 i0' (pt 0 0) 2 16 Try.underlying32 hi0 hz0 hz1 hz2 rfl (by decide) _ _ _ rfl hown11 _ 0 _ [] rfl rfl (fun j u hj => by cases hj) (fun u hu => by cases hu) (by unfold maxLen; omega) (by omega) hb11.size ?_; intro v12 w12 hown12 hg12 _; clear tok3
                 have hb12 := Lib.hid (hb11.grown hg12 hb11.size (fun k e => (hown11.lt k e).1))
                 have hown13 : Hid (w12.ownsRow w9.heap.size 23 2 v12 (putL A j (mx, my)).length (ptCells (putL A j (mx, my)))) := Lib.hid (own_put_last HM.out hown12)))
            clear hown12 hg12 hown11 hg11 hown10 hg10
            refine (outline_slN (slv_own hown13.out (by rw [putL_len (by have := HM.out; omega)]; have := HM.out; omega))).mono ?_
            rintro e w13 ⟨vd, E4, rfl, P4, hb13⟩
            obtain ⟨rfl, o4⟩ := HPUZ.out _ _ _ _ P4
            have b12 := b9.trans (hb12.out.mono b9.size)
            have b13 := keep_below b12 hb13
            have pA13 := (SlV.keep (sl_m (cap := (j + 1)) HM.out hp9.out (by have := HM.out; omega)) hb12.out).keep hb13
            have SS2 := samePts' HM.out o4 pA13 (by have := HM.out; omega)
            clear P4 o4 pA13 hown13 hb12
            go_wp2_with fail
            refine SS2.mono ?_
            rintro e w14 ⟨rfl, hb14⟩
            have b14 := keep_below b13 hb14
            go_wp2
            go_ret
            exact ⟨rfl, b14⟩
          · have j6 : ¬ j + 1 = cap := hcp
            have tok1 : True := trivial
            go_wp2_with (first
              | (at_builtin; have _t := tok1; refine wpList_append_own _ rfl _ _ 32 rfl w9.heap.size 23 i0' (pt 0 0) 2 16 Try.underlying32 hi0 hz0 hz1 hz2 rfl (by decide) _ _ _ rfl (World.ownsRow_nil w9 w9.heap.size 23 2) ⟨g, 0, none⟩ (j + 1) _ (ptCells (A.take (j + 1))) rfl htl.out (pts_cells (pts_take hp9.out (j + 1))) (ptCells_one _) (by unfold maxLen; omega) (by omega) (Nat.le_refl _) ?_; intro v10 w10 hown10 hg10 _; clear tok1
                 have tok2 : True := trivial
                 have hb10 : Below w9.heap.size w9 w10 := (Below.refl _ w9).grown hg10 (Nat.le_refl _) (fun k e => ((World.ownsRow_nil w9 w9.heap.size 23 2).lt k e).1)
                 have hp10 := Lib.hid (hp9.out.keep hb10)
                 have m0 := (m9.keep hb10).c0
                 have m1 := (m9.keep hb10).c1)
              | (at_builtin; have _t := tok2; refine wpList_append_own _ rfl _ _ 32 rfl w9.heap.size 23 i0' (pt 0 0) 2 16 Try.underlying32 hi0 hz0 hz1 hz2 rfl (by decide) _ _ _ rfl (hown10.alloc _) _ 1 1 [.int .i64 mx, .int .i64 my] rfl rfl (two_new _ _ _) (two_cells _ _) (by unfold maxLen; omega) (by omega) (by have := hb10.size; simp; omega) ?_; intro v11 w11 hown11 hg11 _; clear tok2
                 have tok3 : True := trivial
                 have hb11 : Below w9.heap.size w9 w11 := (hb10.alloc hb10.size _).grown hg11 (by have := hb10.size; simp; omega) (fun k e => (hown10.lt k e).1)
                 have hp11 := Lib.hid (hp9.out.keep hb11)
                 have hpd : PtsAt w11 g ((j + 1) * 2) (A.drop (j + 1)) := by have := pts_drop hp11.out (j + 1); rw [Nat.zero_add] at this; exact this)
              | (at_builtin; have _t := tok3; refine wpList_append_own _ rfl _ _ 32 rfl w9.heap.size 23 i0' (pt 0 0) 2 16 Try.underlying32 hi0 hz0 hz1 hz2 rfl (by decide) _ _ _ rfl hown11 _ 0 _ [] rfl rfl (fun j u hj => by cases hj) (fun u hu => by cases hu) (by unfold maxLen; omega) (by omega) hb11.size ?_; intro v12 w12 hown12 hg12 _; clear tok3
                 have hb12 := Lib.hid (hb11.grown hg12 hb11.size (fun k e => (hown11.lt k e).1))
                 have hown13 : Hid (w12.ownsRow w9.heap.size 23 2 v12 (putL A j (mx, my)).length (ptCells (putL A j (mx, my)))) := Lib.hid (own_put_last HM.out hown12)))
            clear hown12 hg12 hown11 hg11 hown10 hg10
            refine (outline_slN (slv_own hown13.out (by rw [putL_len (by have := HM.out; omega)]; have := HM.out; omega))).mono ?_
            rintro e w13 ⟨vd, E4, rfl, P4, hb13⟩
            obtain ⟨rfl, o4⟩ := HPUZ.out _ _ _ _ P4
            have b12 := b9.trans (hb12.out.mono b9.size)
            have b13 := keep_below b12 hb13
            have pA13 := (SlV.keep (sl_m (cap := cap) HM.out hp9.out (by have := HM.out; omega)) hb12.out).keep hb13
            have SS2 := samePts' HM.out o4 pA13 (by have := HM.out; omega)
            clear P4 o4 pA13 hown13 hb12
            go_wp2_with fail
            refine SS2.mono ?_
            rintro e w14 ⟨rfl, hb14⟩
            have b14 := keep_below b13 hb14
            go_wp2
            go_ret
            exact ⟨rfl, b14⟩
      · go_wp2
        go_ret
        exact ⟨rfl, b9⟩

end Go.Proofs.Ytlocdadkhdcedaa
