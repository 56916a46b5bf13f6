/- Walks: the union of two sets of notes (Merge). -/
import Derived.Test.YtcgmmfcphfkdhaaGreatGrO7
namespace Go.Proofs.YtcgmmfcphfkdhaaGreat
open Go Go.RowKit Go.Proofs Go.Torn Go.Abs

theorem mk123 (w : World) : (Instr.makeMap 123 none).run Tryz.prog w = .ok (.map (some w.heap.size)) (w.alloc (.map #[] 0)) := by kernel_rfl

theorem len123 {W : World} {M : Nat} {es : Array MapEntry} {c : Nat} (hb : W.heap[M]? = some (.map es c)) (ty : TypeId) : (Builtin.len_ #[123] ty #[.map (some M)]).run Tryz.prog W = .ok (.int .i64 (es.size : Nat)) W := by
 have := run_len_map (P := Tryz.prog) W 123 ty M es c (by kernel_rfl) hb
 exact this

def MuV (M : Nat) (V : Array Value) (r : Value) : Nat → Value → World → Prop
 | 0, v, _ => v = .map (some M)
 | 1, v, _ => v = .agg V
 | 2, v, _ => v = r
 | _, v, _ => v = .agg V
theorem MuV.keep {M : Nat} {V : Array Value} {r : Value} : ∀ i v W W', MuV M V r i v W → Below W.heap.size W W' → MuV M V r i v W'
 | 0, _, _, _, h, _ => h
 | 1, _, _, _, h, _ => h
 | 2, _, _, _, h, _ => h
 | _ + 3, _, _, _, h, _ => h

set_option maxRecDepth 100000 in
set_option maxHeartbeats 8000000 in
theorem merge17 (va vb : Value) (A B : List Nt) (w : World) (ha : SlN w va A) (hb : SlN w vb B) (la : A.length ≤ 1000) (lb : B.length ≤ 1000) (ra : ∀ n ∈ A, n.rg) (rb : ∀ n ∈ B, n.rg) :
  Calls Tryz.prog 17 #[va, vb] w fun e w' => ∃ v K ec, e = .returned (.tuple #[v, .int .i64 ec]) ∧ MgR A B K ec ∧ SlN w' v K ∧ Below w.heap.size w w' := by
 obtain ⟨m, hm, ⟨hm0, hm1, hm2⟩, hs40⟩ := m40.out
 obtain ⟨Z, hz, hZ1, hZ2⟩ := z40.out
 have CA := Lib.hid (isSet63 va A la w ha)
 have CB := Lib.hid (fun w1 (hb1 : Below w.heap.size w w1) => isSet63 vb B lb w1 (hb.keep hb1))
 obtain ⟨aa, capa, rfl, -, hca⟩ := ha
 obtain ⟨ab, capb, rfl, -, hcb⟩ := hb
 have HCA := Lib.hid hca
 have HCB := Lib.hid hcb
 have HM := Lib.hid hm
 clear hm hca hcb
 by_cases sA : StOk A
 case neg =>
  have CA2 := Lib.hid (CA.out.mono fun e w' h => And.intro (say_f h.1 sA) h.2)
  have fin : Hid (∀ w', Below w.heap.size w w' → ∃ v K ec, Ending.returned (.tuple #[.slice none 0 0, .int .i64 1]) = .returned (.tuple #[v, .int .i64 ec]) ∧ MgR A B K ec ∧ SlN w' v K ∧ Below w.heap.size w w') := Lib.hid fun w' hb =>
   ⟨_, [], 1, rfl, .inl ⟨fun h => sA h.1, rfl, rfl⟩, ⟨none, 0, rfl, by simp, fun k hk => by simp at hk⟩, hb⟩
  clear CA CB HCA HCB
  generalize A.length = nA at *
  generalize B.length = nB at *
  go_enter Tryz.func17, Tryz.ntmps17
  go_wp2_with fail
  refine CA2.out.mono ?_
  rintro e w1 ⟨rfl, hb1⟩
  have HB1 := Lib.hid hb1
  clear hb1
  go_wp2_with fail
  go_ret2
  exact fin.out _ HB1.out
 case pos =>
 by_cases sB : StOk B
 case neg =>
  have CA2 := Lib.hid (CA.out.mono fun e w' h => And.intro (say_t h.1 sA) h.2)
  have CB2 := Lib.hid (fun w1 hb1 => (CB.out w1 hb1).mono fun e w' h => And.intro (say_f h.1 sB) h.2)
  have fin : Hid (∀ w', Below w.heap.size w w' → ∃ v K ec, Ending.returned (.tuple #[.slice none 0 0, .int .i64 1]) = .returned (.tuple #[v, .int .i64 ec]) ∧ MgR A B K ec ∧ SlN w' v K ∧ Below w.heap.size w w') := Lib.hid fun w' hb =>
   ⟨_, [], 1, rfl, .inl ⟨fun h => sB h.2, rfl, rfl⟩, ⟨none, 0, rfl, by simp, fun k hk => by simp at hk⟩, hb⟩
  clear CA CB HCA HCB
  generalize A.length = nA at *
  generalize B.length = nB at *
  go_enter Tryz.func17, Tryz.ntmps17
  go_wp2_with fail
  refine CA2.out.mono ?_
  rintro e w1 ⟨rfl, hb1⟩
  have HB1 := Lib.hid hb1
  clear hb1
  go_wp2_with fail
  refine (CB2.out _ HB1.out).mono ?_
  rintro e w2 ⟨rfl, hb2⟩
  have HB2 := Lib.hid (HB1.out.trans (hb2.mono HB1.out.size))
  clear hb2
  go_wp2_with fail
  go_ret2
  exact fin.out _ HB2.out
 case pos =>
 have CA2 := Lib.hid (CA.out.mono fun e w' h => And.intro (say_t h.1 sA) h.2)
 have CB2 := Lib.hid (fun w1 hb1 => (CB.out w1 hb1).mono fun e w' h => And.intro (say_t h.1 sB) h.2)
 have OA' := Lib.hid (st_ord sA)
 have OB' := Lib.hid (st_ord sB)
 have GA := Lib.hid (st_good sA)
 have GB := Lib.hid (st_good sB)
 have SS := Lib.hid (And.intro sA sB)
 have RA := Lib.hid ra
 have RB := Lib.hid rb
 clear CA CB sA sB ra rb
 obtain ⟨nA, hnA⟩ : ∃ n, A.length = n := ⟨_, rfl⟩
 obtain ⟨nB, hnB⟩ : ∃ n, B.length = n := ⟨_, rfl⟩
 have HNA := Lib.hid hnA
 have HNB := Lib.hid hnB
 rw [hnA] at HCA la ⊢
 rw [hnB] at HCB lb ⊢
 rw [hnA] at CA2
 rw [hnB] at CB2
 clear hnA hnB
 go_enter Tryz.func17, Tryz.ntmps17
 go_wp2_with fail
 refine CA2.out.mono ?_
 rintro e w1 ⟨rfl, hb1⟩
 have HB1 := Lib.hid hb1
 clear hb1
 go_wp2_with fail
 refine (CB2.out _ HB1.out).mono ?_
 rintro e w2 ⟨rfl, hb2⟩
 have HB2 := Lib.hid (HB1.out.trans (hb2.mono HB1.out.size))
 clear hb2 CA2 CB2 HB1
 have MK := mk123
 go_wp2_with fail
 have HM0 : Hid (w.heap.size ≤ w2.heap.size) := Lib.hid HB2.out.size
 have HB3 : Hid (Below w.heap.size w (w2.alloc (.map #[] 0))) := Lib.hid (HB2.out.alloc HB2.out.size _)
 have H0 : Hid (MapN (w2.alloc (.map #[] 0)) w2.heap.size []) := Lib.hid ⟨#[], Go.heap_alloc_new _ _, rfl⟩
 generalize w2.alloc (.map #[] 0) = W3 at HB3 H0 ⊢
 generalize w2.heap.size = M at HM0 H0 ⊢
 clear MK HB2
 go_loopw [24] (fun i wr => ∃ q : Nat, q ≤ nA ∧ i = .int .i64 q ∧ Hid (∃ L : List Nv, L.map Nv.N = A.take q ∧ MapN wr M L ∧ ∀ y ∈ L, NV w y) ∧ Hid (Below w.heap.size w wr)) (fun i _ => nA - (intOf i).toNat)
 case atStart => exact ⟨0, by omega, rfl, Lib.hid ⟨[], by simp, H0.out, fun y hy => by cases hy⟩, HB3⟩
 case round =>
  obtain ⟨q, hq, rfl, hrel, hbel⟩ := hrel
  obtain ⟨L, hL, hmap, hnvs⟩ := hrel.out
  clear hrel
  by_cases hq1 : q < nA
  ·have j1 : decide ((q : Int) < (nA : Int)) = true := by simp; omega
   obtain ⟨b, off, rfl, x, hx, hnv, hcell⟩ := HCA.out q hq1
   have hb := hbel.out
   have hnv' := hnv.keep hb
   have hl1 : (loadCellsFrom ⟨b, off + q * m, none⟩ 0 m #[]).run Tryz.prog wr = .ok x.arr wr := by
    rw [← HM.out]
    exact nlcf x.arr (arr_size x) fun j v hv => keep_cell hb (hcell j v hv)
   have hst : (storeCells ⟨wr.heap.size, 0, none⟩ x.arr.toList 0).run Tryz.prog (wr.alloc (.cells Z 40)) = .ok () (wr.alloc (.cells x.arr 40)) :=
    run_storeCells_new (P := Tryz.prog) wr 40 Z x.arr (by rw [arr_size]; kernel_rfl) (by rw [hZ1, arr_size]) hnv'.one
   have hal : Below wr.heap.size wr (wr.alloc (.cells x.arr 40)) := (Below.refl _ _).alloc (Nat.le_refl _) _
   have N1 := Lib.hid (NB.new wr x.arr 40)
   have hszV : x.arr.size = m := (arr_size x).trans HM.out
   have C55 := Lib.hid (fun w => refOf55 x w)
   have HUP : Hid (upd L x = L ++ [x] ∧ (L ++ [x]).map Nv.N = A.take (q + 1) ∧ ∀ y ∈ L ++ [x], NV w y) := Lib.hid (by
    have hqA : q < A.length := by rw [HNA.out]; exact hq1
    have e : nz A q = A[q] := by unfold nz; simp [List.getD, hqA]
    refine ⟨upd_new fun y hy hs => ?_, by rw [List.map_append, hL, take_one A hqA, ← e, ← hx]; rfl, fun y hy => ?_⟩
    ·have : y.N ∈ A.take q := by rw [← hL]; exact List.mem_map.2 ⟨_, hy, rfl⟩
     exact OA'.out.new hqA y.N this (by rw [← e, ← hx]; exact hs)
    ·rcases List.mem_append.1 hy with g | g
     ·exact hnvs y g
     ·simp only [List.mem_singleton] at g
      subst g
      exact hnv)
   have SM := Lib.hid (fun W (h : MapN W M L) => set_map h x)
   have MP := Lib.hid (hmap.keep hal)
   have BW := Lib.hid (hbel.out.trans (hal.mono hbel.out.size))
   clear hnv hnv' hcell hal hx hb hL hnvs hmap hbel
   generalize x.arr = V at *
   generalize rfv x.N.b x.N.n = rr at *
   go_wp2_with fail
   generalize wr.alloc (.cells V 40) = W2 at N1 MP BW ⊢
   generalize wr.heap.size = bb at N1 ⊢
   clear hst hl1
   refine wp_region_valsT 4 (MuV M V rr) (by kernel_rfl) (by kernel_rfl) MuV.keep ?_ ?_
   ·simp only [List.take_succ_cons, List.take_zero]
    intro i o ho a' W hW hfr hdep
    have f1 : a'.tmps[8]?.getD undef = .pointer (some ⟨bb, 0, none⟩) := Array.getD_eq_getD_getElem?.symm.trans (hfr 8 rfl)
    have f2 : a'.tmps[6]?.getD undef = .map (some M) := Array.getD_eq_getD_getElem?.symm.trans (hfr 6 rfl)
    clear hfr
    have l := (N1.out.keep hW).load (m := m) hszV
    have hi : i < 4 := by have := (List.getElem?_eq_some_iff.1 ho).1; simpa using this
    obtain rfl | rfl | rfl | rfl : i = 0 ∨ i = 1 ∨ i = 2 ∨ i = 3 := by omega
    all_goals simp only [List.getElem?_cons_zero, List.getElem?_cons_succ, Option.some.injEq] at ho
    all_goals subst ho
    ·clear hdep
     refine .inl ⟨_, W, ?_, Below.refl _ _, rfl⟩
     go_simp
    ·clear hdep
     refine .inl ⟨_, W, ?_, Below.refl _ _, rfl⟩
     go_simp
    ·have d1 : a'.tmps[29]?.getD undef = .agg V := Array.getD_eq_getD_getElem?.symm.trans (hdep ⟨1, .data⟩ (by simp) rfl 29 rfl)
     clear hdep
     refine .inr ⟨55, #[.agg V], W, ?_, Below.refl _ _, (C55.out W).mono ?_⟩
     ·go_simp
     ·rintro e W' ⟨rfl, hb⟩
      exact ⟨_, rfl, hb, rfl⟩
    ·clear hdep
     refine .inl ⟨_, W, ?_, Below.refl _ _, rfl⟩
     go_simp
   ·intro W hW
    simp only [List.take_succ_cons, List.take_zero, List.map_cons, List.map_nil, VQ]
    rintro _ rfl _ rfl _ rfl _ rfl
    obtain ⟨W', run, hmp, hch, -⟩ := SM.out W (MP.out.keep hW)
    have hbw : Below w.heap.size w W' := BW.out.trans ((hW.mono BW.out.size).trans (hch.below (Nat.le_trans BW.out.size hW.size) (fun k hk e => by have := HM0.out; omega)))
    have fin : Hid ((∃ L : List Nv, L.map Nv.N = A.take (q + 1) ∧ MapN W' M L ∧ ∀ y ∈ L, NV w y) ∧ Below w.heap.size w W') := Lib.hid ⟨⟨L ++ [x], HUP.out.2.1, by rw [← HUP.out.1]; exact hmp, HUP.out.2.2⟩, hbw⟩
    clear hmp hch hbw hW
    simp only [List.setIfInBounds_toArray, List.set_cons_zero, List.set_cons_succ, List.length_cons, List.length_nil, Nat.reduceAdd, Nat.reduceSub, ledList, List.replicate, List.cons_append, List.nil_append]
    refine wpAny_ready (rs := [4]) (by kernel_rfl) (by simp) (AllReady.cons rfl (fun K hK => ?_) AllReady.nil)
    simp only [List.getElem_toArray, List.getElem_cons_succ, List.getElem_cons_zero]
    rw [if_pos (show Region.wanted _ _ = true from rfl)]
    have HK := Lib.hid hK
    clear hK
    go_wp2_with fail
    refine HK.out _ _ ?_
    clear HK K
    refine wpAny_done (by kernel_rfl) ?_ _
    simp only [Exit.inBlock, Exit.then]
    go_at_K
    go_wp2_with fail
    exact ⟨⟨q + 1, hq1, by simp, Lib.hid fin.out.1, Lib.hid fin.out.2⟩, by simp [intOf]; omega⟩
  ·have hqn : q = nA := by omega
   subst hqn
   have j1 : decide ((q : Int) < (q : Int)) = false := by simp
   have H1 : Hid (MrR A B 0 L ∧ MapN wr M L ∧ ∀ y ∈ L, NV w y) := Lib.hid ⟨MrR.start A B L (by rw [hL, ← HNA.out, List.take_length]), hmap, hnvs⟩
   have HB4 := Lib.hid hbel.out
   clear hL hmap hnvs hbel HCA H0 HB3
   go_wp2_with fail
   obtain ⟨wl, hwl⟩ : ∃ wl, wl = wr := ⟨_, rfl⟩
   subst hwl
   go_loopw [35] (fun i wr => ∃ p : Nat, p ≤ nB ∧ i = .int .i64 p ∧ Hid (∃ L : List Nv, MrR A B p L ∧ MapN wr M L ∧ ∀ y ∈ L, NV w y) ∧ Hid (Below w.heap.size w wr)) (fun i _ => nB - (intOf i).toNat)
   case atStart => exact ⟨0, by omega, rfl, Lib.hid ⟨L, H1.out⟩, HB4⟩
   case round =>
    clear H1 HB4
    obtain ⟨p, hp, rfl, hrel, hbel⟩ := hrel
    obtain ⟨L, hmr, hmap, hnvs⟩ := hrel.out
    clear hrel
    by_cases hp1 : p < nB
    ·have j1 : decide ((p : Int) < (nB : Int)) = true := by simp; omega
     obtain ⟨b, off, rfl, x, hx, hnv, hcell⟩ := HCB.out p hp1
     have hb := hbel.out
     have hnv' := hnv.keep hb
     have hl1 : (loadCellsFrom ⟨b, off + p * m, none⟩ 0 m #[]).run Tryz.prog wr = .ok x.arr wr := by
      rw [← HM.out]
      exact nlcf x.arr (arr_size x) fun j v hv => keep_cell hb (hcell j v hv)
     have hst : (storeCells ⟨wr.heap.size, 0, none⟩ x.arr.toList 0).run Tryz.prog (wr.alloc (.cells Z 40)) = .ok () (wr.alloc (.cells x.arr 40)) :=
      run_storeCells_new (P := Tryz.prog) wr 40 Z x.arr (by rw [arr_size]; kernel_rfl) (by rw [hZ1, arr_size]) hnv'.one
     have hal : Below wr.heap.size wr (wr.alloc (.cells x.arr 40)) := (Below.refl _ _).alloc (Nat.le_refl _) _
     have N1 := Lib.hid (NB.new wr x.arr 40)
     have hszV : x.arr.size = m := (arr_size x).trans HM.out
     have C55 := Lib.hid (fun w => refOf55 x w)
     have hpB : p < B.length := by rw [HNB.out]; exact hp1
     have hxB : x.N = B[p] := by rw [hx]; unfold nz; simp [List.getD, hpB]
     have hxm : x.N ∈ B := by rw [hxB]; exact List.getElem_mem _
     have SM := Lib.hid (fun W (h : MapN W M L) => set_map h x)
     have LK := Lib.hid (fun W (h : MapN W M L) => look_map h x.N.b x.N.n Z (hz W))
     have MP := Lib.hid (hmap.keep hal)
     have BW := Lib.hid (hbel.out.trans (hal.mono hbel.out.size))
     have HNX := Lib.hid hnv
     have HX1 := Lib.hid hnv.one
     have HMR := Lib.hid hmr
     have HNV := Lib.hid hnvs
     cases hat : at? x.N.b x.N.n 0 L with
     | none =>
      have HUP : Hid (MrR A B (p + 1) (upd L x) ∧ ∀ y ∈ upd L x, NV w y) := Lib.hid ⟨hmr.none hpB x hxB hat, fun y hy => by
       rw [upd_new (fun z hz hs => at_none hat z hz hs)] at hy
       rcases List.mem_append.1 hy with g | g
       ·exact hnvs y g
       ·simp only [List.mem_singleton] at g
        subst g
        exact hnv⟩
      have LK2 := Lib.hid (fun W (h : MapN W M L) => by have := LK.out W h; rw [hat] at this; exact this)
      have hld : (loadCellsFrom ⟨wr.heap.size, 0, none⟩ 0 m #[]).run Tryz.prog (wr.alloc (.cells x.arr 40)) = .ok x.arr (wr.alloc (.cells x.arr 40)) := N1.out.load hszV
      have hsZ := Lib.hid (fun W => run_storeCells_new (P := Tryz.prog) W 40 Z Z (by rw [hZ1]; kernel_rfl) rfl hZ2)
      clear hnv hnv' hcell hal hx hb hmr hnvs hmap hbel LK hat hpB hxB hxm
      generalize x.arr = V at *
      generalize rfv x.N.b x.N.n = rr at *
      go_wp2_with fail
      generalize wr.alloc (.cells V 40) = W1 at N1 MP BW ⊢
      generalize wr.heap.size = bb at N1 ⊢
      clear hst hl1 hld
      refine (C55.out W1).mono ?_
      rintro e w3 ⟨rfl, hb3⟩
      have hlk := LK2.out w3 (MP.out.keep hb3)
      have hstZ := hsZ.out w3
      have hal3 : Below w3.heap.size w3 (w3.alloc (.cells Z 40)) := (Below.refl _ _).alloc (Nat.le_refl _) _
      have hb4 : Below W1.heap.size W1 (w3.alloc (.cells Z 40)) := hb3.trans (hal3.mono hb3.size)
      replace N1 := Lib.hid (N1.out.keep hb4)
      replace MP := Lib.hid (MP.out.keep hb4)
      replace BW := Lib.hid (BW.out.trans (hb4.mono BW.out.size))
      clear hb3 hal3 hb4 LK2 hsZ
      have hszZ : Z.size = m := hZ1.trans HM.out
      go_wp2_with fail
      generalize w3.alloc (.cells Z 40) = W2 at N1 MP BW ⊢
      clear hlk hstZ
      refine wp_region_valsT 4 (MuV M V rr) (by kernel_rfl) (by kernel_rfl) MuV.keep ?_ ?_
      ·simp only [List.take_succ_cons, List.take_zero]
       intro i o ho a' W hW hfr hdep
       have f1 : a'.tmps[10]?.getD undef = .pointer (some ⟨bb, 0, none⟩) := Array.getD_eq_getD_getElem?.symm.trans (hfr 10 rfl)
       have f2 : a'.tmps[6]?.getD undef = .map (some M) := Array.getD_eq_getD_getElem?.symm.trans (hfr 6 rfl)
       clear hfr
       have l := (N1.out.keep hW).load (m := m) hszV
       have hi : i < 4 := by have := (List.getElem?_eq_some_iff.1 ho).1; simpa using this
       obtain rfl | rfl | rfl | rfl : i = 0 ∨ i = 1 ∨ i = 2 ∨ i = 3 := by omega
       all_goals simp only [List.getElem?_cons_zero, List.getElem?_cons_succ, Option.some.injEq] at ho
       all_goals subst ho
       ·clear hdep
        refine .inl ⟨_, W, ?_, Below.refl _ _, rfl⟩
        go_simp
       ·clear hdep
        refine .inl ⟨_, W, ?_, Below.refl _ _, rfl⟩
        go_simp
       ·have d1 : a'.tmps[54]?.getD undef = .agg V := Array.getD_eq_getD_getElem?.symm.trans (hdep ⟨1, .data⟩ (by simp) rfl 54 rfl)
        clear hdep
        refine .inr ⟨55, #[.agg V], W, ?_, Below.refl _ _, (C55.out W).mono ?_⟩
        ·go_simp
        ·rintro e W' ⟨rfl, hb⟩
         exact ⟨_, rfl, hb, rfl⟩
       ·clear hdep
        refine .inl ⟨_, W, ?_, Below.refl _ _, rfl⟩
        go_simp
      ·intro W hW
       simp only [List.take_succ_cons, List.take_zero, List.map_cons, List.map_nil, VQ]
       rintro _ rfl _ rfl _ rfl _ rfl
       obtain ⟨W', run, hmp, hch, -⟩ := SM.out W (MP.out.keep hW)
       have hbw : Below w.heap.size w W' := BW.out.trans ((hW.mono BW.out.size).trans (hch.below (Nat.le_trans BW.out.size hW.size) (fun k hk e => by have := HM0.out; omega)))
       have fin : Hid ((∃ L : List Nv, MrR A B (p + 1) L ∧ MapN W' M L ∧ ∀ y ∈ L, NV w y) ∧ Below w.heap.size w W') := Lib.hid ⟨⟨upd L x, HUP.out.1, hmp, HUP.out.2⟩, hbw⟩
       clear hmp hch hbw hW
       simp only [List.setIfInBounds_toArray, List.set_cons_zero, List.set_cons_succ, List.length_cons, List.length_nil, Nat.reduceAdd, Nat.reduceSub, ledList, List.replicate, List.cons_append, List.nil_append]
       refine wpAny_ready (rs := [4]) (by kernel_rfl) (by simp) (AllReady.cons rfl (fun K hK => ?_) AllReady.nil)
       simp only [List.getElem_toArray, List.getElem_cons_succ, List.getElem_cons_zero]
       rw [if_pos (show Region.wanted _ _ = true from rfl)]
       have HK := Lib.hid hK
       clear hK
       go_wp2_with fail
       refine HK.out _ _ ?_
       clear HK K
       refine wpAny_done (by kernel_rfl) ?_ _
       simp only [Exit.inBlock, Exit.then]
       go_at_K
       go_wp2_with fail
       exact ⟨⟨p + 1, hp1, by simp, Lib.hid fin.out.1, Lib.hid fin.out.2⟩, by simp [intOf]; omega⟩
     | some pp =>
      obtain ⟨hpm, hpA, hps⟩ := hmr.some OB'.out hpB x hxB hat
      have LK2 : Hid (∀ W, MapN W M L → (Instr.lookup 123 (.map (some M)) (rfv x.N.b x.N.n) true).run Tryz.prog W = .ok (.tuple #[.agg pp.2.arr, .bool true]) W) := Lib.hid (fun W h => by have := LK.out W h; rw [hat] at this; exact this)
      have HP1 := Lib.hid ((hnvs _ hpm).one)
      have SAME := Lib.hid (fun W (hb : Below w.heap.size w W) => same64 x pp.2 W (hnv.keep hb) ((hnvs _ hpm).keep hb) (RB.out _ hxm) (RA.out _ hpA) (encN_len (RB.out _ hxm) (gd_bs (GB.out _ hxm))) (encN_len (RA.out _ hpA) (gd_bs (GA.out _ hpA))))
      have hld : (loadCellsFrom ⟨wr.heap.size, 0, none⟩ 0 m #[]).run Tryz.prog (wr.alloc (.cells x.arr 40)) = .ok x.arr (wr.alloc (.cells x.arr 40)) := N1.out.load hszV
      have hsZ := Lib.hid (fun W => run_storeCells_new (P := Tryz.prog) W 40 Z pp.2.arr (by rw [arr_size]; kernel_rfl) (by rw [hZ1, arr_size]) HP1.out)
      have hszU : pp.2.arr.size = m := (arr_size pp.2).trans HM.out
      by_cases he : x.N = pp.2.N
      ·have HUP : Hid (MrR A B (p + 1) (upd L x) ∧ ∀ y ∈ upd L x, NV w y) := Lib.hid ⟨hmr.same OA'.out OB'.out hpB x hxB hat he, fun y hy => by
        unfold upd at hy
        rw [hat] at hy
        rcases List.mem_or_eq_of_mem_set hy with g | rfl
        ·exact hnvs y g
        ·exact hnv⟩
       have SAME2 := Lib.hid (fun W hb => (SAME.out W hb).mono fun e w' h => And.intro (say_t h.1 he) h.2)
       clear hnv hnv' hcell hal hx hb hmr hnvs hmap hbel LK hat hpB hxB hxm SAME he hps hpA hpm
       generalize pp.2.arr = U at *
       generalize x.arr = V at *
       generalize rfv x.N.b x.N.n = rr at *
       go_wp2_with fail
       generalize wr.alloc (.cells V 40) = W1 at N1 MP BW ⊢
       generalize wr.heap.size = bb at N1 ⊢
       clear hst hl1 hld
       refine (C55.out W1).mono ?_
       rintro e w3 ⟨rfl, hb3⟩
       have hlk := LK2.out w3 (MP.out.keep hb3)
       have hstZ := hsZ.out w3
       have hal3 : Below w3.heap.size w3 (w3.alloc (.cells U 40)) := (Below.refl _ _).alloc (Nat.le_refl _) _
       have hb4 : Below W1.heap.size W1 (w3.alloc (.cells U 40)) := hb3.trans (hal3.mono hb3.size)
       replace N1 := Lib.hid (N1.out.keep hb4)
       replace MP := Lib.hid (MP.out.keep hb4)
       replace BW := Lib.hid (BW.out.trans (hb4.mono BW.out.size))
       have hldA : (loadCellsFrom ⟨bb, 0, none⟩ 0 m #[]).run Tryz.prog (w3.alloc (.cells U 40)) = .ok V (w3.alloc (.cells U 40)) := N1.out.load hszV
       have hldB : (loadCellsFrom ⟨w3.heap.size, 0, none⟩ 0 m #[]).run Tryz.prog (w3.alloc (.cells U 40)) = .ok U (w3.alloc (.cells U 40)) := (NB.new w3 U 40).load hszU
       clear hb3 hal3 hb4 LK2 hsZ
       go_wp2_with fail
       generalize w3.alloc (.cells U 40) = W2a at N1 MP BW ⊢
       clear hlk hstZ hldA hldB
       refine (SAME2.out W2a BW.out).mono ?_
       rintro e W2 ⟨rfl, hb5⟩
       have BWa := BW
       replace N1 := Lib.hid (N1.out.keep (hb5))
       replace MP := Lib.hid (MP.out.keep (hb5))
       replace BW := Lib.hid (BWa.out.trans (hb5.mono BWa.out.size))
       clear hb5 SAME2 BWa
       go_wp2_with fail
       refine wp_region_valsT 4 (MuV M V rr) (by kernel_rfl) (by kernel_rfl) MuV.keep ?_ ?_
       ·simp only [List.take_succ_cons, List.take_zero]
        intro i o ho a' W hW hfr hdep
        have f1 : a'.tmps[10]?.getD undef = .pointer (some ⟨bb, 0, none⟩) := Array.getD_eq_getD_getElem?.symm.trans (hfr 10 rfl)
        have f2 : a'.tmps[6]?.getD undef = .map (some M) := Array.getD_eq_getD_getElem?.symm.trans (hfr 6 rfl)
        clear hfr
        have l := (N1.out.keep hW).load (m := m) hszV
        have hi : i < 4 := by have := (List.getElem?_eq_some_iff.1 ho).1; simpa using this
        obtain rfl | rfl | rfl | rfl : i = 0 ∨ i = 1 ∨ i = 2 ∨ i = 3 := by omega
        all_goals simp only [List.getElem?_cons_zero, List.getElem?_cons_succ, Option.some.injEq] at ho
        all_goals subst ho
        ·clear hdep
         refine .inl ⟨_, W, ?_, Below.refl _ _, rfl⟩
         go_simp
        ·clear hdep
         refine .inl ⟨_, W, ?_, Below.refl _ _, rfl⟩
         go_simp
        ·have d1 : a'.tmps[54]?.getD undef = .agg V := Array.getD_eq_getD_getElem?.symm.trans (hdep ⟨1, .data⟩ (by simp) rfl 54 rfl)
         clear hdep
         refine .inr ⟨55, #[.agg V], W, ?_, Below.refl _ _, (C55.out W).mono ?_⟩
         ·go_simp
         ·rintro e W' ⟨rfl, hb⟩
          exact ⟨_, rfl, hb, rfl⟩
        ·clear hdep
         refine .inl ⟨_, W, ?_, Below.refl _ _, rfl⟩
         go_simp
       ·intro W hW
        simp only [List.take_succ_cons, List.take_zero, List.map_cons, List.map_nil, VQ]
        rintro _ rfl _ rfl _ rfl _ rfl
        obtain ⟨W', run, hmp, hch, -⟩ := SM.out W (MP.out.keep hW)
        have hbw : Below w.heap.size w W' := BW.out.trans ((hW.mono BW.out.size).trans (hch.below (Nat.le_trans BW.out.size hW.size) (fun k hk e => by have := HM0.out; omega)))
        have fin : Hid ((∃ L : List Nv, MrR A B (p + 1) L ∧ MapN W' M L ∧ ∀ y ∈ L, NV w y) ∧ Below w.heap.size w W') := Lib.hid ⟨⟨upd L x, HUP.out.1, hmp, HUP.out.2⟩, hbw⟩
        clear hmp hch hbw hW
        simp only [List.setIfInBounds_toArray, List.set_cons_zero, List.set_cons_succ, List.length_cons, List.length_nil, Nat.reduceAdd, Nat.reduceSub, ledList, List.replicate, List.cons_append, List.nil_append]
        refine wpAny_ready (rs := [4]) (by kernel_rfl) (by simp) (AllReady.cons rfl (fun K hK => ?_) AllReady.nil)
        simp only [List.getElem_toArray, List.getElem_cons_succ, List.getElem_cons_zero]
        rw [if_pos (show Region.wanted _ _ = true from rfl)]
        have HK := Lib.hid hK
        clear hK
        go_wp2_with fail
        refine HK.out _ _ ?_
        clear HK K
        refine wpAny_done (by kernel_rfl) ?_ _
        simp only [Exit.inBlock, Exit.then]
        go_at_K
        go_wp2_with fail
        exact ⟨⟨p + 1, hp1, by simp, Lib.hid fin.out.1, Lib.hid fin.out.2⟩, by simp [intOf]; omega⟩
      ·have fin : Hid (∀ w', Below w.heap.size w w' → ∃ v K ec, Ending.returned (.tuple #[.slice none 0 0, .int .i64 91]) = .returned (.tuple #[v, .int .i64 ec]) ∧ MgR A B K ec ∧ SlN w' v K ∧ Below w.heap.size w w') := Lib.hid fun w' hb =>
        ⟨_, [], 91, rfl, .inr (.inl ⟨SS.out, hmr.fork OB'.out hpB x hxB hat he, rfl, rfl⟩), ⟨none, 0, rfl, by simp, fun k hk => by simp at hk⟩, hb⟩
       have SAME2 := Lib.hid (fun W hb => (SAME.out W hb).mono fun e w' h => And.intro (say_f h.1 he) h.2)
       clear hnv hnv' hcell hal hx hb hmr hnvs hmap hbel LK hat hpB hxB hxm SAME he hps hpA hpm SM
       generalize pp.2.arr = U at *
       generalize x.arr = V at *
       generalize rfv x.N.b x.N.n = rr at *
       go_wp2_with fail
       generalize wr.alloc (.cells V 40) = W1 at N1 MP BW ⊢
       generalize wr.heap.size = bb at N1 ⊢
       clear hst hl1 hld
       refine (C55.out W1).mono ?_
       rintro e w3 ⟨rfl, hb3⟩
       have hlk := LK2.out w3 (MP.out.keep hb3)
       have hstZ := hsZ.out w3
       have hal3 : Below w3.heap.size w3 (w3.alloc (.cells U 40)) := (Below.refl _ _).alloc (Nat.le_refl _) _
       have hb4 : Below W1.heap.size W1 (w3.alloc (.cells U 40)) := hb3.trans (hal3.mono hb3.size)
       replace N1 := Lib.hid (N1.out.keep hb4)
       replace BW := Lib.hid (BW.out.trans (hb4.mono BW.out.size))
       have hldA : (loadCellsFrom ⟨bb, 0, none⟩ 0 m #[]).run Tryz.prog (w3.alloc (.cells U 40)) = .ok V (w3.alloc (.cells U 40)) := N1.out.load hszV
       have hldB : (loadCellsFrom ⟨w3.heap.size, 0, none⟩ 0 m #[]).run Tryz.prog (w3.alloc (.cells U 40)) = .ok U (w3.alloc (.cells U 40)) := (NB.new w3 U 40).load hszU
       clear hb3 hal3 hb4 LK2 hsZ
       go_wp2_with fail
       generalize w3.alloc (.cells U 40) = W2a at N1 BW ⊢
       clear hlk hstZ hldA hldB
       refine (SAME2.out W2a BW.out).mono ?_
       rintro e W2 ⟨rfl, hb5⟩
       have BW2 := Lib.hid (BW.out.trans (hb5.mono BW.out.size))
       clear hb5 SAME2 N1
       go_wp2_with fail
       go_ret2
       exact fin.out _ BW2.out
    ·have hpn : p = nB := by omega
     subst hpn
     have j1 : decide ((p : Int) < (p : Int)) = false := by simp
     have hmr2 : MrR A B B.length L := by rw [HNB.out]; exact hmr
     have hno := hmr2.no
     have hle : L.length = (ext A B).length := by
      have := congrArg List.length hmr2.m
      rwa [List.length_map, List.take_length] at this
     have hM : ∃ es, wr.heap[M]? = some (.map es L.length) ∧ es.size = L.length := by
      obtain ⟨es, h1, h2⟩ := hmap
      exact ⟨es, h1, by rw [← Array.length_toList, h2, mkEs_len]⟩
     obtain ⟨es, hM, hes⟩ := hM
     obtain ⟨nL, hnL⟩ : ∃ nL, L.length = nL := ⟨_, rfl⟩
     have HnL := Lib.hid hnL
     rw [hnL] at hM hle hes
     clear hnL
     have HLEN := len123 hM 3
     rw [hes] at HLEN
     clear hM hes
     by_cases h4 : 400 < nL
     ·have fin : Hid (∀ w', Below w.heap.size w w' → ∃ v K ec, Ending.returned (.tuple #[.slice none 0 0, .int .i64 2]) = .returned (.tuple #[v, .int .i64 ec]) ∧ MgR A B K ec ∧ SlN w' v K ∧ Below w.heap.size w w') := Lib.hid fun w' hb =>
       ⟨_, [], 2, rfl, .inr (.inr (.inl ⟨SS.out, hno, by omega, rfl, rfl⟩)), ⟨none, 0, rfl, by simp, fun k hk => by simp at hk⟩, hb⟩
      have j2 : decide ((nL : Int) > 400) = true := by simp; omega
      clear hmr hmr2 hno hle hmap hnvs HnL
      go_wp2_with fail
      go_ret2
      exact fin.out _ hbel.out
     ·have j2 : decide ((nL : Int) > 400) = false := by simp; omega
      have C66 := Lib.hid (byRef66 M L wr hmap (fun x hx => (hnvs x hx).keep hbel.out) (hmr2.nodup OA'.out OB'.out) (by rw [HnL.out]; omega))
      have HX := Lib.hid (show L.map Nv.N = ext A B by have := hmr2.m; rwa [List.take_length] at this)
      have HNO := Lib.hid hno
      have H4 := Lib.hid h4
      have HLE := Lib.hid hle
      clear hmr hmr2 hno hle hmap hnvs HnL h4
      go_wp2_with fail
      refine C66.out.mono ?_
      rintro e w5 ⟨v, K, rfl, hs, hperm, hord, hb5⟩
      have hlK : K.length = nL := by rw [hperm.length_eq, HX.out, ← HLE.out]
      have C65 := Lib.hid (clones65 v K w5 hs (by have := H4.out; omega) (fun n hn => by
       have h1 := hperm.mem_iff.1 hn
       rw [HX.out] at h1
       rcases ext_mem h1 with g | g
       ·exact (gd_bs (GA.out n g)).bd
       ·exact (gd_bs (GB.out n g)).bd))
      have BW5 := Lib.hid (hbel.out.trans (hb5.mono hbel.out.size))
      have HP := Lib.hid (show K.Perm (ext A B) by rw [← HX.out]; exact hperm)
      have HO := Lib.hid hord
      obtain ⟨va, vc, rfl, -, -⟩ := hs
      clear hperm hord hb5 C66 hlK
      go_wp2_with fail
      refine C65.out.mono ?_
      rintro e w6 ⟨u, rfl, hl, hb6⟩
      have BW6 := Lib.hid (BW5.out.trans (hb6.mono BW5.out.size))
      have HU := Lib.hid hl.now
      obtain ⟨ua, uc, rfl, -, -⟩ := hl.now
      clear hl hb6 C65
      go_wp2_with fail
      go_ret2
      exact ⟨_, K, 0, rfl, .inr (.inr (.inr ⟨SS.out, HNO.out, by have := HLE.out; have := H4.out; omega, rfl, HP.out, HO.out⟩)), HU.out, BW6.out⟩

end Go.Proofs.YtcgmmfcphfkdhaaGreat
