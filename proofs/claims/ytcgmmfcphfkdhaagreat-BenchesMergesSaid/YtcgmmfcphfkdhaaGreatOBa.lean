/- Walks: the union of two sets of notes, the reference's Merge. -/
import Derived.Test.YtcgmmfcphfkdhaaGreatOAa
import Derived.Test.YtcgmmfcphfkdhaaGreatGrN9
import Derived.Test.YtcgmmfcphfkdhaaGreatGrN3
namespace Go.Proofs.YtcgmmfcphfkdhaaGreat
open Go Go.RowKit Go.Proofs Go.Torn Go.Abs

theorem rown_slN {W : World} {base : Nat} {v : Value} {G : List Nv} (h : RowNv W base v G) (hN : ∀ x ∈ G, NV W x) (hl : G.length ≤ 1000000) : SlN W v (G.map Nv.N) := by
 rcases Nat.eq_zero_or_pos G.length with h0 | h0
 ·obtain ⟨a, c, rfl, -⟩ := h.shape
  have : G = [] := List.eq_nil_of_length_eq_zero h0
  subst this
  exact ⟨a, c, rfl, by simp, fun k hk => by simp at hk⟩
 ·obtain ⟨g, cap, rfl, -, hr⟩ := rowC_of h h0
  exact rowC_slN cap hr hN hl

theorem push_note {w wr : World} {a0 : Option Addr} {n c0 : Nat} {G : List Nv} (x : Nv) (hrow : RowNv wr w.heap.size (.slice a0 n c0) G) (hb : Below w.heap.size w wr) (h1 : x.arr.all (·.oneCell') = true) (hl : G.length + 1 ≤ 1000000) :
  ∀ W, Below wr.heap.size wr W → ∃ a' c' W3, (Builtin.append_ #[22, 22] 22 #[.slice a0 n c0, .slice (some ⟨W.heap.size, 0, none⟩) 1 1]).run Tryz.prog (W.alloc (.cells x.arr 40)) = .ok (.slice a' (n + 1) c') W3 ∧
   Hid (RowNv W3 w.heap.size (.slice a' (n + 1) c') (G ++ [x]) ∧ Below w.heap.size w W3) := fun W hW => by
 have hn : G.length = n := by
  obtain ⟨a, c, e, -⟩ := hrow.shape
  simp only [Value.slice.injEq] at e
  exact e.2.1.symm
 have b2 : Below W.heap.size W (W.alloc (.cells x.arr 40)) := (Below.refl _ _).alloc (Nat.le_refl _) _
 have n2 := NB.new W x.arr 40
 have hwW : w.heap.size ≤ W.heap.size := Nat.le_trans hb.size hW.size
 have rW := (hrow.keep hW).keep b2
 obtain ⟨v', W3, run2, hr3, hg3, hv3⟩ := rown_push 22 rW (g := W.heap.size) (fun j u hu => n2.c (by rw [← Array.getElem?_toList]; exact hu)) h1 hl (Nat.le_trans hwW b2.size)
 obtain ⟨a', c', e, -⟩ := hr3.shape
 rw [List.length_append, List.length_singleton, hn] at e
 subst e
 have c3 := Chg.of_grown (fun k => w.heap.size ≤ k) hg3 (fun k e => (rW.lt k e.symm).1)
 exact ⟨a', c', W3, run2, Lib.hid ⟨hr3, hb.trans ((hW.mono hb.size).trans ((b2.mono hwW).trans (c3.below (Nat.le_trans hwW b2.size) (fun k hk e => by omega))))⟩⟩

set_option maxRecDepth 100000 in
set_option maxHeartbeats 16000000 in
theorem merge18 (va vb : Value) (A B : List Nt) (w : World) (ha : SlN w va A) (hb : SlN w vb B) :
  Calls Tryz.prog 18 #[va, vb] w fun e w' => ∃ v K ec, e = .returned (.tuple #[v, .int .i64 ec]) ∧ MgR A B K ec ∧ SlN w' v K ∧ Below w.heap.size w w' := by
 obtain ⟨m, hm, ⟨hm0, hm1, hm2⟩, hs40⟩ := m40.out
 obtain ⟨Z, hz, hZ1, hZ2⟩ := z40.out
 have CA := Lib.hid (set67 va A w ha)
 have CB := Lib.hid (fun w1 (hb1 : Below w.heap.size w w1) => set67 vb B w1 (hb.keep hb1))
 obtain ⟨aa, capa, rfl, -, hca⟩ := ha
 obtain ⟨ab, capb, rfl, -, hcb⟩ := hb
 have HCA := Lib.hid hca
 have HCB := Lib.hid hcb
 have HM := Lib.hid hm
 clear hm hca hcb
 by_cases sA : StOk A
 case neg =>
  have CA2 := Lib.hid (CA.out.mono fun e w' h => And.intro (say_f h.1 sA) h.2)
  have fin : Hid (∀ w', Below w.heap.size w w' → ∃ v K ec, Ending.returned (.tuple #[.slice none 0 0, .int .i64 1]) = .returned (.tuple #[v, .int .i64 ec]) ∧ MgR A B K ec ∧ SlN w' v K ∧ Below w.heap.size w w') := Lib.hid fun w' hb =>
   ⟨_, [], 1, rfl, .inl ⟨fun h => sA h.1, rfl, rfl⟩, ⟨none, 0, rfl, by simp, fun k hk => by simp at hk⟩, hb⟩
  clear CA CB HCA HCB
  generalize A.length = nA at *
  generalize B.length = nB at *
  go_enter Tryz.func18, Tryz.ntmps18
  go_wp2_with fail
  refine CA2.out.mono ?_
  rintro e w1 ⟨rfl, hb1⟩
  have HB1 := Lib.hid hb1
  clear hb1
  go_wp2_with fail
  go_ret2
  exact fin.out _ HB1.out
 case pos =>
 by_cases sB : StOk B
 case neg =>
  have CA2 := Lib.hid (CA.out.mono fun e w' h => And.intro (say_t h.1 sA) h.2)
  have CB2 := Lib.hid (fun w1 hb1 => (CB.out w1 hb1).mono fun e w' h => And.intro (say_f h.1 sB) h.2)
  have fin : Hid (∀ w', Below w.heap.size w w' → ∃ v K ec, Ending.returned (.tuple #[.slice none 0 0, .int .i64 1]) = .returned (.tuple #[v, .int .i64 ec]) ∧ MgR A B K ec ∧ SlN w' v K ∧ Below w.heap.size w w') := Lib.hid fun w' hb =>
   ⟨_, [], 1, rfl, .inl ⟨fun h => sB h.2, rfl, rfl⟩, ⟨none, 0, rfl, by simp, fun k hk => by simp at hk⟩, hb⟩
  clear CA CB HCA HCB
  generalize A.length = nA at *
  generalize B.length = nB at *
  go_enter Tryz.func18, Tryz.ntmps18
  go_wp2_with fail
  refine CA2.out.mono ?_
  rintro e w1 ⟨rfl, hb1⟩
  have HB1 := Lib.hid hb1
  clear hb1
  go_wp2_with fail
  refine (CB2.out _ HB1.out).mono ?_
  rintro e w2 ⟨rfl, hb2⟩
  have HB2 := Lib.hid (HB1.out.trans (hb2.mono HB1.out.size))
  clear hb2
  go_wp2_with fail
  go_ret2
  exact fin.out _ HB2.out
 case pos =>
 have CA2 := Lib.hid (CA.out.mono fun e w' h => And.intro (say_t h.1 sA) h.2)
 have CB2 := Lib.hid (fun w1 hb1 => (CB.out w1 hb1).mono fun e w' h => And.intro (say_t h.1 sB) h.2)
 have OA' := Lib.hid (st_ord sA)
 have OB' := Lib.hid (st_ord sB)
 have SS := Lib.hid (And.intro sA sB)
 have la : A.length ≤ 400 := sA.1
 have lb : B.length ≤ 400 := sB.1
 clear CA CB sA sB
 obtain ⟨nA, hnA⟩ : ∃ n, A.length = n := ⟨_, rfl⟩
 obtain ⟨nB, hnB⟩ : ∃ n, B.length = n := ⟨_, rfl⟩
 have HNA := Lib.hid hnA
 have HNB := Lib.hid hnB
 rw [hnA] at HCA la ⊢
 rw [hnB] at HCB lb ⊢
 rw [hnA] at CA2
 rw [hnB] at CB2
 clear hnA hnB
 go_enter Tryz.func18, Tryz.ntmps18
 go_wp2_with fail
 refine CA2.out.mono ?_
 rintro e w1 ⟨rfl, hb1⟩
 have HB1 := Lib.hid hb1
 clear hb1
 go_wp2_with fail
 refine (CB2.out _ HB1.out).mono ?_
 rintro e w2 ⟨rfl, hb2⟩
 have HB2 := Lib.hid (HB1.out.trans (hb2.mono HB1.out.size))
 clear hb2 CA2 CB2 HB1
 go_wp2_with fail
 go_loopw [6, 7, 8, 9] (fun v i k f wr => ∃ (p q : Nat) (fk : Bool), p ≤ nA ∧ q ≤ nB ∧ i = .int .i64 p ∧ k = .int .i64 q ∧ f = .bool fk ∧ Hid (∃ G : List Nv, RmR A B p q (G.map Nv.N) fk ∧ RowNv wr w.heap.size v G ∧ ∀ x ∈ G, NV w x) ∧ Hid (Below w.heap.size w wr)) (fun _ i k _ _ => (nA - (intOf i).toNat) + (nB - (intOf k).toNat))
 case atStart => exact ⟨0, 0, false, by omega, by omega, rfl, rfl, rfl, Lib.hid ⟨[], RmR.start A B, RowNv.nil _ _, fun x hx => by cases hx⟩, HB2⟩
 case round =>
  clear HB2
  obtain ⟨p, q, fk, hp, hq, rfl, rfl, rfl, hrel, hbel⟩ := hrel
  obtain ⟨G, hrm, hrow, hnvs⟩ := hrel.out
  clear hrel
  have hGl : G.length ≤ p + q := by have := hrm.len; rwa [List.length_map] at this
  obtain ⟨a0, c0, hv0, -⟩ := hrow.shape
  obtain ⟨nG, hnG⟩ : ∃ nG, G.length = nG := ⟨_, rfl⟩
  rw [hnG] at hv0
  subst hv0
  have HNG := Lib.hid hnG
  clear hnG
  have Z0 : Hid (Below wr.heap.size wr wr) := Lib.hid (Below.refl _ _)
  have jp : wrap64 ((p : Int) + 1) = (p : Int) + 1 := w64 _ (by omega)
  have jq : wrap64 ((q : Int) + 1) = (q : Int) + 1 := w64 _ (by omega)
  by_cases hA1 : p < nA
  ·have d1 : (p : Int) < (nA : Int) := by omega
   obtain ⟨bA, oA, eA, x, hx, hnvx, hcellx⟩ := HCA.out p hA1
   subst eA
   have HLx := Lib.hid (fun w1 (hb : Below wr.heap.size wr w1) => show (loadCellsFrom ⟨bA, oA + p * m, none⟩ 0 m #[]).run Tryz.prog w1 = .ok x.arr w1 from by
    rw [← HM.out]
    exact nlcf x.arr (arr_size x) fun j v hv => keep_cell hb (keep_cell hbel.out (hcellx j v hv)))
   have Rx := Lib.hid (fun w => refOf57 x w)
   have hpA : p < A.length := by rw [HNA.out]; exact hA1
   have hxA : x.N = A[p] := by rw [hx]; unfold nz; simp [List.getD, hpA]
   have PX := Lib.hid (push_note x hrow hbel.out hnvx.one (by omega))
   have hszx : x.arr.size = m := (arr_size x).trans HM.out
   by_cases hB1 : q < nB
   ·have d2 : (q : Int) < (nB : Int) := by omega
    have d3 : ((q : Int) == (nB : Int)) = false := by simp; omega
    obtain ⟨bB, oB, eB, y, hy, hnvy, hcelly⟩ := HCB.out q hB1
    subst eB
    have HLy := Lib.hid (fun w1 (hb : Below wr.heap.size wr w1) => show (loadCellsFrom ⟨bB, oB + q * m, none⟩ 0 m #[]).run Tryz.prog w1 = .ok y.arr w1 from by
     rw [← HM.out]
     exact nlcf y.arr (arr_size y) fun j v hv => keep_cell hb (keep_cell hbel.out (hcelly j v hv)))
    have Ry := Lib.hid (fun w => refOf57 y w)
    have hqB : q < B.length := by rw [HNB.out]; exact hB1
    have hyB : y.N = B[q] := by rw [hy]; unfold nz; simp [List.getD, hqB]
    have PY := Lib.hid (push_note y hrow hbel.out hnvy.one (by omega))
    have hszy : y.arr.size = m := (arr_size y).trans HM.out
    have LS := Lib.hid (fun w => less58 x.N.b x.N.n y.N.b y.N.n w)
    have EQ := eql31 x.N.b x.N.n y.N.b y.N.n
    have hEX := Lib.hid hxA
    have hEY := Lib.hid hyB
    have hfx := fold_all (Array.map (fun x => Z[x % 29]!) (Array.range m)) x.arr m (by simp) hszx
    have hfy := fold_all (Array.map (fun x => Z[x % 29]!) (Array.range m)) y.arr m (by simp) hszy
    by_cases hl : lsR x.N.b x.N.n y.N.b y.N.n = true
    ·-- a note of A
     have FIN : Hid (RmR A B (p + 1) q ((G ++ [x]).map Nv.N) fk ∧ ∀ z ∈ G ++ [x], NV w z) := Lib.hid (by
      refine ⟨?_, fun z hz => ?_⟩
      ·rw [List.map_append, List.map_singleton, hxA]
       refine hrm.takeA OA'.out OB'.out hpA (fun hk => ?_)
       rw [← hxA, ← hyB]
       unfold lsR at hl
       simp only [Bool.or_eq_true, Bool.and_eq_true, decide_eq_true_eq, beq_iff_eq] at hl
       exact hl
      ·rcases List.mem_append.1 hz with g | g
       ·exact hnvs z g
       ·simp only [List.mem_singleton] at g; subst g; exact hnvx)
     have HBEL := hbel
     rw [hl] at LS
     clear hl EQ hxA hyB hx hy hnvx hnvy hcellx hcelly hrow hnvs hrm PY hEX hEY hfy hszy
     generalize x.arr = V at *
     generalize y.arr = U at *
     generalize x.N.b = xb at *
     generalize x.N.n = xn at *
     generalize y.N.b = yb at *
     generalize y.N.n = yn at *
     have E1 := Rx.out
     have E2 := Ry.out
     have E3 := LS.out
     go_wp2_with fail
     have L1 := fun z : Grow wr => HLx.out z.w (Z0.out.trans (z.b.mono Z0.out.size))
     have L2 := fun z : Grow wr => HLy.out z.w (Z0.out.trans (z.b.mono Z0.out.size))
     refine wp_region_grow (by kernel_rfl) (by kernel_rfl) ?_
     repeat (go_big_quiet_step (first | (go_at_call 57; with_reducible exact calls_grow (E1 _)) | (go_at_call 57; with_reducible exact calls_grow (E2 _)) | (go_at_call 58; with_reducible exact calls_grow (E3 _))))
     refine wpQuiet_nil ?_
     rintro W4 ⟨z, rfl⟩
     have Z4 := Lib.hid (Z0.out.trans (z.b.mono Z0.out.size))
     clear L1 L2
     generalize z.w = W4 at *
     clear z
     clear E1 E2 E3
     have l4 := HLx.out W4 Z4.out
     obtain ⟨a', c', W9, run2, hfin⟩ := PX.out W4 Z4.out
     go_wp2_with (at_builtin; refine Lib.wpList_append_run _ rfl _ _ _ _ rfl _ _ rfl rfl _ _ run2 ?_)
     exact ⟨⟨p + 1, q, fk, by omega, by omega, by simp, rfl, rfl, Lib.hid ⟨_, FIN.out.1, hfin.out.1, FIN.out.2⟩, Lib.hid hfin.out.2⟩, by simp [intOf]; omega⟩
    ·have hl' : lsR x.N.b x.N.n y.N.b y.N.n = false := by simpa using hl
     rw [hl'] at LS
     by_cases he : x.N.b = y.N.b ∧ x.N.n = y.N.n
     ·-- a note of both
      have heq : (x.N.b == y.N.b && x.N.n == y.N.n) = true := by simp [he.1, he.2]
      rw [heq] at EQ
      have hsn : sn A[p] B[q] := by rw [← hxA, ← hyB]; exact he
      have FB : ∀ fk', (fk' = true ↔ fk = true ∨ ¬ x.N = y.N) → RmR A B (p + 1) (q + 1) ((G ++ [y]).map Nv.N) fk' ∧ ∀ z ∈ G ++ [y], NV w z := fun fk' hf => by
       refine ⟨?_, fun z hz => ?_⟩
       ·rw [List.map_append, List.map_singleton, hyB]
        exact hrm.both OA'.out OB'.out hpA hqB hsn fk' (by rw [← hxA, ← hyB]; exact hf)
       ·rcases List.mem_append.1 hz with g | g
        ·exact hnvs z g
        ·simp only [List.mem_singleton] at g; subst g; exact hnvy
      have SN := Lib.hid (fun w1 (hb1 : Below wr.heap.size wr w1) => sameNote_any x y w1 (hnvx.keep (hbel.out.trans (hb1.mono hbel.out.size))) (hnvy.keep (hbel.out.trans (hb1.mono hbel.out.size))))
      cases fk with
      | true =>
       have FIN := Lib.hid (FB true (by simp))
       clear hl hl' he heq hsn FB SN hxA hyB hx hy hnvx hnvy hcellx hcelly hrow hnvs hrm PX hEX hEY hfx hszx
       generalize x.arr = V at *
       generalize y.arr = U at *
       generalize x.N.b = xb at *
       generalize x.N.n = xn at *
       generalize y.N.b = yb at *
       generalize y.N.n = yn at *
       have E1 := Rx.out
       have E2 := Ry.out
       have E3 := LS.out
       go_wp2_with fail
       have L1 := fun z : Grow wr => HLx.out z.w (Z0.out.trans (z.b.mono Z0.out.size))
       have L2 := fun z : Grow wr => HLy.out z.w (Z0.out.trans (z.b.mono Z0.out.size))
       refine wp_region_grow (by kernel_rfl) (by kernel_rfl) ?_
       repeat (go_big_quiet_step (first | (go_at_call 57; with_reducible exact calls_grow (E1 _)) | (go_at_call 57; with_reducible exact calls_grow (E2 _)) | (go_at_call 58; with_reducible exact calls_grow (E3 _))))
       refine wpQuiet_nil ?_
       rintro W4 ⟨z, rfl⟩
       have Z4 := Lib.hid (Z0.out.trans (z.b.mono Z0.out.size))
       clear L1 L2
       generalize z.w = W4 at *
       clear z
       go_wp2_with fail
       have L1 := fun z : Grow W4 => HLx.out z.w (Z4.out.trans (z.b.mono Z4.out.size))
       have L2 := fun z : Grow W4 => HLy.out z.w (Z4.out.trans (z.b.mono Z4.out.size))
       refine wp_region_grow (by kernel_rfl) (by kernel_rfl) ?_
       repeat (go_big_quiet_step (first | (go_at_call 57; with_reducible exact calls_grow (E1 _)) | (go_at_call 57; with_reducible exact calls_grow (E2 _))))
       refine wpQuiet_nil ?_
       rintro W5 ⟨z, rfl⟩
       have Z5 := Lib.hid (Z4.out.trans (z.b.mono Z4.out.size))
       clear L1 L2
       generalize z.w = W5 at *
       clear z
       go_wp2_with fail
       refine wp_region_grow (by kernel_rfl) (by kernel_rfl) ?_
       repeat (go_big_quiet_step (fail))
       refine wpQuiet_nil ?_
       rintro W6 ⟨z, rfl⟩
       have Z6 := Lib.hid (Z5.out.trans (z.b.mono Z5.out.size))
       generalize z.w = W6 at *
       clear z
       clear E1 E2 E3 EQ
       have l4 := HLy.out W6 Z6.out
       obtain ⟨a', c', W9, run2, hfin⟩ := PY.out W6 Z6.out
       go_wp2_with (at_builtin; refine Lib.wpList_append_run _ rfl _ _ _ _ rfl _ _ rfl rfl _ _ run2 ?_)
       exact ⟨⟨p + 1, q + 1, true, by omega, by omega, by simp, by simp, rfl, Lib.hid ⟨_, FIN.out.1, hfin.out.1, FIN.out.2⟩, Lib.hid hfin.out.2⟩, by simp [intOf]; omega⟩
      | false =>
       by_cases hN : x.N = y.N
       ·have FIN := Lib.hid (FB false (by simp [hN]))
        have SN2 := Lib.hid (fun w1 hb1 => (SN.out w1 hb1).mono fun e w' h => And.intro (say_t h.1 hN) h.2)
        clear hl hl' he heq hsn FB SN hN hxA hyB hx hy hnvx hnvy hcellx hcelly hrow hnvs hrm PX hEX hEY hfx hszx
        generalize x.arr = V at *
        generalize y.arr = U at *
        generalize x.N.b = xb at *
        generalize x.N.n = xn at *
        generalize y.N.b = yb at *
        generalize y.N.n = yn at *
        have E1 := Rx.out
        have E2 := Ry.out
        have E3 := LS.out
        go_wp2_with fail
        have L1 := fun z : Grow wr => HLx.out z.w (Z0.out.trans (z.b.mono Z0.out.size))
        have L2 := fun z : Grow wr => HLy.out z.w (Z0.out.trans (z.b.mono Z0.out.size))
        refine wp_region_grow (by kernel_rfl) (by kernel_rfl) ?_
        repeat (go_big_quiet_step (first | (go_at_call 57; with_reducible exact calls_grow (E1 _)) | (go_at_call 57; with_reducible exact calls_grow (E2 _)) | (go_at_call 58; with_reducible exact calls_grow (E3 _))))
        refine wpQuiet_nil ?_
        rintro W4 ⟨z, rfl⟩
        have Z4 := Lib.hid (Z0.out.trans (z.b.mono Z0.out.size))
        clear L1 L2
        generalize z.w = W4 at *
        clear z
        go_wp2_with fail
        have L1 := fun z : Grow W4 => HLx.out z.w (Z4.out.trans (z.b.mono Z4.out.size))
        have L2 := fun z : Grow W4 => HLy.out z.w (Z4.out.trans (z.b.mono Z4.out.size))
        refine wp_region_grow (by kernel_rfl) (by kernel_rfl) ?_
        repeat (go_big_quiet_step (first | (go_at_call 57; with_reducible exact calls_grow (E1 _)) | (go_at_call 57; with_reducible exact calls_grow (E2 _))))
        refine wpQuiet_nil ?_
        rintro W5 ⟨z, rfl⟩
        have Z5 := Lib.hid (Z4.out.trans (z.b.mono Z4.out.size))
        clear L1 L2
        generalize z.w = W5 at *
        clear z
        go_wp2_with fail
        have E4 := fun z : Grow W5 => SN2.out z.w (Z5.out.trans (z.b.mono Z5.out.size))
        have L1 := fun z : Grow W5 => HLx.out z.w (Z5.out.trans (z.b.mono Z5.out.size))
        have L2 := fun z : Grow W5 => HLy.out z.w (Z5.out.trans (z.b.mono Z5.out.size))
        refine wp_region_grow (by kernel_rfl) (by kernel_rfl) ?_
        repeat (go_big_quiet_step (first | (go_at_call 23; with_reducible exact calls_grow (E4 _))))
        refine wpQuiet_nil ?_
        rintro W6 ⟨z, rfl⟩
        have Z6 := Lib.hid (Z5.out.trans (z.b.mono Z5.out.size))
        clear L1 L2
        generalize z.w = W6 at *
        clear z
        clear E1 E2 E3 E4 EQ SN2
        have l4 := HLy.out W6 Z6.out
        obtain ⟨a', c', W9, run2, hfin⟩ := PY.out W6 Z6.out
        go_wp2_with (at_builtin; refine Lib.wpList_append_run _ rfl _ _ _ _ rfl _ _ rfl rfl _ _ run2 ?_)
        exact ⟨⟨p + 1, q + 1, false, by omega, by omega, by simp, by simp, rfl, Lib.hid ⟨_, FIN.out.1, hfin.out.1, FIN.out.2⟩, Lib.hid hfin.out.2⟩, by simp [intOf]; omega⟩
       ·have FIN := Lib.hid (FB true (by simp [hN]))
        have SN2 := Lib.hid (fun w1 hb1 => (SN.out w1 hb1).mono fun e w' h => And.intro (say_f h.1 hN) h.2)
        clear hl hl' he heq hsn FB SN hN hxA hyB hx hy hnvx hnvy hcellx hcelly hrow hnvs hrm PX hEX hEY hfx hszx
        generalize x.arr = V at *
        generalize y.arr = U at *
        generalize x.N.b = xb at *
        generalize x.N.n = xn at *
        generalize y.N.b = yb at *
        generalize y.N.n = yn at *
        have E1 := Rx.out
        have E2 := Ry.out
        have E3 := LS.out
        go_wp2_with fail
        have L1 := fun z : Grow wr => HLx.out z.w (Z0.out.trans (z.b.mono Z0.out.size))
        have L2 := fun z : Grow wr => HLy.out z.w (Z0.out.trans (z.b.mono Z0.out.size))
        refine wp_region_grow (by kernel_rfl) (by kernel_rfl) ?_
        repeat (go_big_quiet_step (first | (go_at_call 57; with_reducible exact calls_grow (E1 _)) | (go_at_call 57; with_reducible exact calls_grow (E2 _)) | (go_at_call 58; with_reducible exact calls_grow (E3 _))))
        refine wpQuiet_nil ?_
        rintro W4 ⟨z, rfl⟩
        have Z4 := Lib.hid (Z0.out.trans (z.b.mono Z0.out.size))
        clear L1 L2
        generalize z.w = W4 at *
        clear z
        go_wp2_with fail
        have L1 := fun z : Grow W4 => HLx.out z.w (Z4.out.trans (z.b.mono Z4.out.size))
        have L2 := fun z : Grow W4 => HLy.out z.w (Z4.out.trans (z.b.mono Z4.out.size))
        refine wp_region_grow (by kernel_rfl) (by kernel_rfl) ?_
        repeat (go_big_quiet_step (first | (go_at_call 57; with_reducible exact calls_grow (E1 _)) | (go_at_call 57; with_reducible exact calls_grow (E2 _))))
        refine wpQuiet_nil ?_
        rintro W5 ⟨z, rfl⟩
        have Z5 := Lib.hid (Z4.out.trans (z.b.mono Z4.out.size))
        clear L1 L2
        generalize z.w = W5 at *
        clear z
        go_wp2_with fail
        have E4 := fun z : Grow W5 => SN2.out z.w (Z5.out.trans (z.b.mono Z5.out.size))
        have L1 := fun z : Grow W5 => HLx.out z.w (Z5.out.trans (z.b.mono Z5.out.size))
        have L2 := fun z : Grow W5 => HLy.out z.w (Z5.out.trans (z.b.mono Z5.out.size))
        refine wp_region_grow (by kernel_rfl) (by kernel_rfl) ?_
        repeat (go_big_quiet_step (first | (go_at_call 23; with_reducible exact calls_grow (E4 _))))
        refine wpQuiet_nil ?_
        rintro W6 ⟨z, rfl⟩
        have Z6 := Lib.hid (Z5.out.trans (z.b.mono Z5.out.size))
        clear L1 L2
        generalize z.w = W6 at *
        clear z
        clear E1 E2 E3 E4 EQ SN2
        have l4 := HLy.out W6 Z6.out
        obtain ⟨a', c', W9, run2, hfin⟩ := PY.out W6 Z6.out
        go_wp2_with (at_builtin; refine Lib.wpList_append_run _ rfl _ _ _ _ rfl _ _ rfl rfl _ _ run2 ?_)
        exact ⟨⟨p + 1, q + 1, true, by omega, by omega, by simp, by simp, rfl, Lib.hid ⟨_, FIN.out.1, hfin.out.1, FIN.out.2⟩, Lib.hid hfin.out.2⟩, by simp [intOf]; omega⟩
     ·-- a note of B
      have heq : (x.N.b == y.N.b && x.N.n == y.N.n) = false := by
       rw [Bool.eq_false_iff]
       intro h
       simp only [Bool.and_eq_true, beq_iff_eq] at h
       exact he h
      rw [heq] at EQ
      have FIN : Hid (RmR A B p (q + 1) ((G ++ [y]).map Nv.N) fk ∧ ∀ z ∈ G ++ [y], NV w z) := Lib.hid (by
       refine ⟨?_, fun z hz => ?_⟩
       ·rw [List.map_append, List.map_singleton, hyB]
        refine hrm.takeB OA'.out OB'.out hqB (fun hk => ?_)
        rw [← hxA, ← hyB]
        unfold lsR at hl
        simp only [Bool.or_eq_true, Bool.and_eq_true, decide_eq_true_eq, beq_iff_eq] at hl
        unfold ltn
        omega
       ·rcases List.mem_append.1 hz with g | g
        ·exact hnvs z g
        ·simp only [List.mem_singleton] at g; subst g; exact hnvy)
      clear hl hl' he heq hxA hyB hx hy hnvx hnvy hcellx hcelly hrow hnvs hrm PX hEX hEY hfx hszx
      generalize x.arr = V at *
      generalize y.arr = U at *
      generalize x.N.b = xb at *
      generalize x.N.n = xn at *
      generalize y.N.b = yb at *
      generalize y.N.n = yn at *
      have E1 := Rx.out
      have E2 := Ry.out
      have E3 := LS.out
      go_wp2_with fail
      have L1 := fun z : Grow wr => HLx.out z.w (Z0.out.trans (z.b.mono Z0.out.size))
      have L2 := fun z : Grow wr => HLy.out z.w (Z0.out.trans (z.b.mono Z0.out.size))
      refine wp_region_grow (by kernel_rfl) (by kernel_rfl) ?_
      repeat (go_big_quiet_step (first | (go_at_call 57; with_reducible exact calls_grow (E1 _)) | (go_at_call 57; with_reducible exact calls_grow (E2 _)) | (go_at_call 58; with_reducible exact calls_grow (E3 _))))
      refine wpQuiet_nil ?_
      rintro W4 ⟨z, rfl⟩
      have Z4 := Lib.hid (Z0.out.trans (z.b.mono Z0.out.size))
      clear L1 L2
      generalize z.w = W4 at *
      clear z
      go_wp2_with fail
      have L1 := fun z : Grow W4 => HLx.out z.w (Z4.out.trans (z.b.mono Z4.out.size))
      have L2 := fun z : Grow W4 => HLy.out z.w (Z4.out.trans (z.b.mono Z4.out.size))
      refine wp_region_grow (by kernel_rfl) (by kernel_rfl) ?_
      repeat (go_big_quiet_step (first | (go_at_call 57; with_reducible exact calls_grow (E1 _)) | (go_at_call 57; with_reducible exact calls_grow (E2 _))))
      refine wpQuiet_nil ?_
      rintro W5 ⟨z, rfl⟩
      have Z5 := Lib.hid (Z4.out.trans (z.b.mono Z4.out.size))
      clear L1 L2
      generalize z.w = W5 at *
      clear z
      clear E1 E2 E3 EQ
      have l4 := HLy.out W5 Z5.out
      obtain ⟨a', c', W9, run2, hfin⟩ := PY.out W5 Z5.out
      go_wp2_with (at_builtin; refine Lib.wpList_append_run _ rfl _ _ _ _ rfl _ _ rfl rfl _ _ run2 ?_)
      exact ⟨⟨p, q + 1, fk, by omega, by omega, rfl, by simp, rfl, Lib.hid ⟨_, FIN.out.1, hfin.out.1, FIN.out.2⟩, Lib.hid hfin.out.2⟩, by simp [intOf]; omega⟩
   ·have hqn : q = nB := by omega
    subst hqn
    have hfx := fold_all (Array.map (fun x => Z[x % 29]!) (Array.range m)) x.arr m (by simp) hszx
    have FIN : Hid (RmR A B (p + 1) q ((G ++ [x]).map Nv.N) fk ∧ ∀ z ∈ G ++ [x], NV w z) := Lib.hid (by
     refine ⟨?_, fun z hz => ?_⟩
     ·rw [List.map_append, List.map_singleton, hxA]
      exact hrm.takeA OA'.out OB'.out hpA (fun hk => by have := HNB.out; omega)
     ·rcases List.mem_append.1 hz with g | g
      ·exact hnvs z g
      ·simp only [List.mem_singleton] at g; subst g; exact hnvx)
    clear hxA hx hnvx hcellx hrow hnvs hrm
    generalize x.arr = V at *
    go_wp2_with fail
    refine wp_region_grow (by kernel_rfl) (by kernel_rfl) ?_
    repeat (go_big_quiet_step (fail))
    refine wpQuiet_nil ?_
    rintro W4 ⟨z, rfl⟩
    have Z4 := Lib.hid (Z0.out.trans (z.b.mono Z0.out.size))
    generalize z.w = W4 at *
    clear z
    have l4 := HLx.out W4 Z4.out
    obtain ⟨a', c', W9, run2, hfin⟩ := PX.out W4 Z4.out
    go_wp2_with (at_builtin; refine Lib.wpList_append_run _ rfl _ _ _ _ rfl _ _ rfl rfl _ _ run2 ?_)
    exact ⟨⟨p + 1, q, fk, by omega, by omega, by simp, rfl, rfl, Lib.hid ⟨_, FIN.out.1, hfin.out.1, FIN.out.2⟩, Lib.hid hfin.out.2⟩, by simp [intOf]; omega⟩
  ·have hpn : p = nA := by omega
   subst hpn
   by_cases hB1 : q < nB
   ·have d2 : (q : Int) < (nB : Int) := by omega
    have d3 : ((q : Int) == (nB : Int)) = false := by simp; omega
    obtain ⟨bB, oB, eB, y, hy, hnvy, hcelly⟩ := HCB.out q hB1
    subst eB
    have HLy := Lib.hid (fun w1 (hb : Below wr.heap.size wr w1) => show (loadCellsFrom ⟨bB, oB + q * m, none⟩ 0 m #[]).run Tryz.prog w1 = .ok y.arr w1 from by
     rw [← HM.out]
     exact nlcf y.arr (arr_size y) fun j v hv => keep_cell hb (keep_cell hbel.out (hcelly j v hv)))
    have Ry := Lib.hid (fun w => refOf57 y w)
    have hqB : q < B.length := by rw [HNB.out]; exact hB1
    have hyB : y.N = B[q] := by rw [hy]; unfold nz; simp [List.getD, hqB]
    have PY := Lib.hid (push_note y hrow hbel.out hnvy.one (by omega))
    have hszy : y.arr.size = m := (arr_size y).trans HM.out
    have hfy := fold_all (Array.map (fun x => Z[x % 29]!) (Array.range m)) y.arr m (by simp) hszy
    have FIN : Hid (RmR A B p (q + 1) ((G ++ [y]).map Nv.N) fk ∧ ∀ z ∈ G ++ [y], NV w z) := Lib.hid (by
     refine ⟨?_, fun z hz => ?_⟩
     ·rw [List.map_append, List.map_singleton, hyB]
      exact hrm.takeB OA'.out OB'.out hqB (fun hk => by have := HNA.out; omega)
     ·rcases List.mem_append.1 hz with g | g
      ·exact hnvs z g
      ·simp only [List.mem_singleton] at g; subst g; exact hnvy)
    clear hyB hy hnvy hcelly hrow hnvs hrm
    generalize y.arr = U at *
    go_wp2_with fail
    refine wp_region_grow (by kernel_rfl) (by kernel_rfl) ?_
    repeat (go_big_quiet_step (fail))
    refine wpQuiet_nil ?_
    rintro W4 ⟨z, rfl⟩
    have Z4 := Lib.hid (Z0.out.trans (z.b.mono Z0.out.size))
    generalize z.w = W4 at *
    clear z
    go_wp2_with fail
    refine wp_region_grow (by kernel_rfl) (by kernel_rfl) ?_
    repeat (go_big_quiet_step (fail))
    refine wpQuiet_nil ?_
    rintro W5 ⟨z, rfl⟩
    have Z5 := Lib.hid (Z4.out.trans (z.b.mono Z4.out.size))
    generalize z.w = W5 at *
    clear z
    have l4 := HLy.out W5 Z5.out
    obtain ⟨a', c', W9, run2, hfin⟩ := PY.out W5 Z5.out
    go_wp2_with (at_builtin; refine Lib.wpList_append_run _ rfl _ _ _ _ rfl _ _ rfl rfl _ _ run2 ?_)
    exact ⟨⟨p, q + 1, fk, by omega, by omega, rfl, by simp, rfl, Lib.hid ⟨_, FIN.out.1, hfin.out.1, FIN.out.2⟩, Lib.hid hfin.out.2⟩, by simp [intOf]; omega⟩
   ·have hqn : q = nB := by omega
    subst hqn
    have hdone := Lib.hid (RmR.done (A := A) (B := B) (O := G.map Nv.N) (fk := fk) (by rw [HNA.out, HNB.out]; exact hrm) SS.out.1 SS.out.2)
    have hsl := Lib.hid (rown_slN hrow (fun x hx => (hnvs x hx).keep hbel.out) (by omega))
    have hlen : (G.map Nv.N).length = nG := by rw [List.length_map]; exact HNG.out
    rw [hlen] at hdone
    generalize G.map Nv.N = K at hdone hsl
    clear hrow hnvs hrm hlen
    cases fk with
    | true =>
     have H1 := Lib.hid (hdone.out.1 rfl)
     clear hdone
     go_wp2_with fail
     go_ret2
     exact ⟨_, [], 91, rfl, H1.out, ⟨none, 0, rfl, by simp, fun k hk => by simp at hk⟩, hbel.out⟩
    | false =>
     by_cases h4 : 400 < nG
     ·have H1 := Lib.hid (hdone.out.2.1 rfl h4)
      have j2 : decide ((nG : Int) > 400) = true := by simp; omega
      clear hdone h4
      go_wp2_with fail
      go_ret2
      exact ⟨_, [], 2, rfl, H1.out, ⟨none, 0, rfl, by simp, fun k hk => by simp at hk⟩, hbel.out⟩
     ·have H1 := Lib.hid (hdone.out.2.2 rfl (by omega))
      have j2 : decide ((nG : Int) > 400) = false := by simp; omega
      clear hdone h4
      go_wp2_with fail
      go_ret2
      exact ⟨_, K, 0, rfl, H1.out, hsl.out, hbel.out⟩

end Go.Proofs.YtcgmmfcphfkdhaaGreat
