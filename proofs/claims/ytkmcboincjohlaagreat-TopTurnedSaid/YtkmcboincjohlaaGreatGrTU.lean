/- The abstract machine, part GrTU. -/
import Derived.Test.YtkmcboincjohlaaGreatGrTT
/- The law TopTurned, walked: where the piece and the outline are valid. -/
namespace Go.Proofs.YtkmcboincjohlaaGreat
open Go Go.RowKit Go.Proofs Go.Abs

set_option maxRecDepth 100000 in
set_option maxHeartbeats 16000000 in
theorem turned_good (p : PcD) (la : Option Addr) (ln lcap : Nat) (agp amp : Option Addr) (gcp mcp : Nat) (w : World) (S : List (Nat × Bool)) (RD : Nat → Bool → PcD) (CC : Nat → Bool → Int) (MM : Nat → Bool → List M3)
    (hS : S.length ≤ 1000) (l1 : (p.G.length : Int) ≤ 24) (l2 : (p.M.length : Int) ≤ 32) (l3 : (ln : Int) ≤ 24)
    (HAW : Hid (∀ W, Calls Tryz.prog 5 #[] W fun e w' => e = .returned (.bool true) ∧ Below W.heap.size W w'))
    (HSET : Hid (∀ W, Below w.heap.size w W → Calls Tryz.prog 9 #[pcs p.id p.c p.r p.m p.s (.slice agp p.G.length gcp) (.slice amp p.M.length mcp), .slice la ln lcap] W fun e w' => ∃ v, e = .returned (.tuple #[v, .int .i64 0]) ∧ SetAt w' v S ∧ Below W.heap.size W w'))
    (HRES : Hid (∀ (s : Nat) (b : Bool), (s, b) ∈ S → ∀ W, Below w.heap.size w W → Calls Tryz.prog 13 #[pcs p.id p.c p.r p.m p.s (.slice agp p.G.length gcp) (.slice amp p.M.length mcp), st (s : Nat) b] W fun e w' => ∃ v, e = .returned v ∧ PcT (RD s b) v W.heap.size w'.heap.size w' ∧ Below W.heap.size W w'))
    (HFIT : Hid (∀ (s : Nat) (b : Bool), (s, b) ∈ S → ∀ W vg vm, Below w.heap.size w W → SlG W vg (RD s b).G → SlM W vm (RD s b).M → Calls Tryz.prog 14 #[pcs (RD s b).id (RD s b).c (RD s b).r (RD s b).m (RD s b).s vg vm, .slice la ln lcap, st 0 false] W fun e w' => e = .returned (.tuple #[.bool true, .int .i64 0]) ∧ Below W.heap.size W w'))
    (HSH1 : Hid (∀ (s : Nat) (b : Bool), (s, b) ∈ S → ∀ W, Below w.heap.size w W → Calls Tryz.prog 15 #[pcs p.id p.c p.r p.m p.s (.slice agp p.G.length gcp) (.slice amp p.M.length mcp), st (s : Nat) b] W fun e w' => e = .returned (.tuple #[.int .i64 (CC s b), .int .i64 0]) ∧ Below W.heap.size W w'))
    (HSH2 : Hid (∀ (s : Nat) (b : Bool), (s, b) ∈ S → ∀ W vg vm, Below w.heap.size w W → SlG W vg (RD s b).G → SlM W vm (RD s b).M → Calls Tryz.prog 15 #[pcs (RD s b).id (RD s b).c (RD s b).r (RD s b).m (RD s b).s vg vm, st 0 false] W fun e w' => e = .returned (.tuple #[.int .i64 (CC s b), .int .i64 0]) ∧ Below W.heap.size W w'))
    (HMK1 : Hid (∀ (s : Nat) (b : Bool), (s, b) ∈ S → ∀ W, Below w.heap.size w W → Calls Tryz.prog 16 #[pcs p.id p.c p.r p.m p.s (.slice agp p.G.length gcp) (.slice amp p.M.length mcp), st (s : Nat) b] W fun e w' => ∃ v, e = .returned v ∧ MkT (MM s b) v W.heap.size w'.heap.size w' ∧ Below W.heap.size W w'))
    (HMK2 : Hid (∀ (s : Nat) (b : Bool), (s, b) ∈ S → ∀ W vg vm, Below w.heap.size w W → SlG W vg (RD s b).G → SlM W vm (RD s b).M → Calls Tryz.prog 16 #[pcs (RD s b).id (RD s b).c (RD s b).r (RD s b).m (RD s b).s vg vm, st 0 false] W fun e w' => ∃ v, e = .returned (.tuple #[v, .int .i64 0]) ∧ SlM w' v (MM s b) ∧ Below W.heap.size W w'))
    (HML : Hid (∀ (s : Nat) (b : Bool), (MM s b).length ≤ 1000)) :
    Calls Tryz.prog 4 #[pcs p.id p.c p.r p.m p.s (.slice agp p.G.length gcp) (.slice amp p.M.length mcp), .slice la ln lcap] w fun e w' => e = .returned (.bool true) ∧ Below w.heap.size w w' := by
  have hp0 := pcs_new w p.id p.c p.r p.m p.s (.slice agp p.G.length gcp) (.slice amp p.M.length mcp)
  have b0 : Below w.heap.size w (w.alloc (.cells #[.int .i64 p.id, .int .i64 p.c, .int .i64 p.r, .int .i64 p.m, .int .i64 p.s, .slice agp p.G.length gcp, .slice amp p.M.length mcp] 40)) := (Below.refl _ _).alloc (Nat.le_refl _) _
  obtain ⟨w0, hw0⟩ : ∃ w0, w.alloc (.cells #[.int .i64 p.id, .int .i64 p.c, .int .i64 p.r, .int .i64 p.m, .int .i64 p.s, .slice agp p.G.length gcp, .slice amp p.M.length mcp] 40) = w0 := ⟨_, rfl⟩
  have hp : w0.heap[w.heap.size]? = some (.cells #[.int .i64 p.id, .int .i64 p.c, .int .i64 p.r, .int .i64 p.m, .int .i64 p.s, .slice agp p.G.length gcp, .slice amp p.M.length mcp] 40 (0, 0)) := by rw [← hw0]; exact hp0
  rw [hw0] at b0
  have HSl := Lib.hid hS
  clear hS hp0
  have c0 := cell_of hp (k := 0) rfl
  have c1 := cell_of hp (k := 1) rfl
  have c2 := cell_of hp (k := 2) rfl
  have c3 := cell_of hp (k := 3) rfl
  have c4 := cell_of hp (k := 4) rfl
  have c5 := cell_of hp (k := 5) rfl
  have c6 := cell_of hp (k := 6) rfl
  go_enter Tryz.func4, Tryz.ntmps4
  go_wp2_with fail
  refine (HSET.out _ b0).mono ?_
  rintro e w1 ⟨vS, rfl, hvS, hb⟩
  clear c0 c1 c2 c3 c4 c5 c6 hw0 l1 l2 l3
  have HB1 := Lib.hid (keep_below b0 hb)
  have HP := Lib.hid ((hb.block w.heap.size (Array.getElem?_eq_some_iff.1 hp).1).trans hp)
  obtain ⟨aS, cS, rfl⟩ := SetAt.shape hvS
  have HVS := Lib.hid hvS
  obtain ⟨n, hn⟩ : ∃ n, S.length = n := ⟨_, rfl⟩
  rw [hn]
  have HN := Lib.hid hn
  have hn1000 : n ≤ 1000 := by have := HSl.out; omega
  clear hvS hn hb hp b0
  go_wp2_with fail
  go_loopw [7] (fun i wr => ∃ k : Nat, k ≤ n ∧ i = .int .i64 k ∧ Below w1.heap.size w1 wr) (fun i _ => n - (intOf i).toNat)
  case atStart => exact ⟨0, Nat.zero_le _, rfl, Below.refl _ _⟩
  case round =>
    obtain ⟨k, hk, rfl, hbel⟩ := hrel
    by_cases hlt : k < n
    · have j1 : (k : Int) < (n : Int) := by omega
      obtain ⟨⟨s, b⟩, hx⟩ : ∃ p, S[k]? = some p := ⟨_, List.getElem?_eq_getElem (by rw [HN.out]; exact hlt)⟩
      have hmem := List.mem_of_getElem? hx
      obtain ⟨gA, rfl, x0, x1⟩ := HVS.out.pos hx
      have HX0 := Lib.hid (And.intro (keep_cell hbel x0) (keep_cell hbel x1))
      have HMEM := Lib.hid hmem
      have HP0 := Lib.hid ((hbel.block _ (Array.getElem?_eq_some_iff.1 HP.out).1).trans HP.out)
      have HBE := Lib.hid hbel
      have HBW := Lib.hid (keep_below HB1.out hbel)
      have HK := Lib.hid j1
      have HR := Lib.hid (HRES.out s b hmem)
      have HF := Lib.hid (HFIT.out s b hmem)
      have HA := Lib.hid (HSH1.out s b hmem)
      have HB := Lib.hid (HSH2.out s b hmem)
      have HC := Lib.hid (HMK1.out s b hmem)
      have HD := Lib.hid (HMK2.out s b hmem)
      have HL := Lib.hid (HML.out s b)
      obtain ⟨D, hD⟩ : ∃ D, RD s b = D := ⟨_, rfl⟩
      obtain ⟨M, hM⟩ : ∃ M, MM s b = M := ⟨_, rfl⟩
      obtain ⟨c, hc⟩ : ∃ c, CC s b = c := ⟨_, rfl⟩
      rw [hD] at HR HF HB HD
      rw [hM] at HC HD HL
      rw [hc] at HA HB
      clear hx hmem x0 x1 hD hM hc hbel
      go_wp2_with fail
      refine wp_region_boxes [.con (pcs p.id p.c p.r p.m p.s (.slice agp p.G.length gcp) (.slice amp p.M.length mcp)), .con (.slice (some ⟨gA, 0, none⟩) n cS), .con (.int .i64 (k : Nat)), .con (.pointer (some ⟨gA, k * 2, none⟩)), .con (st (s : Nat) b), .made 5 (PcT D), .made 5 (PcT D), .made 5 (PcR D), .con (.int .i64 0), .box (.cells #[.int .i64 0, .int .i64 0, .int .i64 0, .int .i64 0, .int .i64 0, .slice none 0 0, .slice none 0 0] 40), .sto 9 5 (PcO D), .con (.int .i64 0)] (by kernel_rfl) (by kernel_rfl) rfl ?_ ?_ ?_
      · repeat' (first | exact fun x hx => absurd hx List.not_mem_nil | refine List.forall_mem_cons.2 ⟨?_, ?_⟩)
        all_goals first | exact trivial | exact fun _ _ _ _ _ _ h => h | exact fun v lo hi W W' hk h => PcT.stable v lo hi W W' hk h | exact fun v lo hi W W' hk h => PcR.stable v lo hi W W' hk h | exact fun v lo hi W W' hk h => PcO.stable v lo hi W W' hk h
      · intro i o ho g a' W hGd hfr hdep
        have f2 : a'.tmps[2]?.getD undef = .pointer (some ⟨w.heap.size, 0, none⟩) := Array.getD_eq_getD_getElem?.symm.trans (hfr 2 rfl)
        have f5 : a'.tmps[5]?.getD undef = .slice (some ⟨gA, 0, none⟩) n cS := Array.getD_eq_getD_getElem?.symm.trans (hfr 5 rfl)
        have f7 : a'.tmps[7]?.getD undef = .int .i64 (k : Nat) := Array.getD_eq_getD_getElem?.symm.trans (hfr 7 rfl)
        clear hfr
        have hi : i < 12 := by have := (List.getElem?_eq_some_iff.1 ho).1; simpa using this
        obtain rfl | rfl | rfl | rfl | rfl | rfl | rfl | rfl | rfl | rfl | rfl | rfl : i = 0 ∨ i = 1 ∨ i = 2 ∨ i = 3 ∨ i = 4 ∨ i = 5 ∨ i = 6 ∨ i = 7 ∨ i = 8 ∨ i = 9 ∨ i = 10 ∨ i = 11 := by omega
        all_goals simp only [List.getElem?_cons_zero, List.getElem?_cons_succ, Option.some.injEq] at ho
        all_goals subst ho
        · have hpw := (hGd.block _ (Array.getElem?_eq_some_iff.1 HP0.out).1).trans HP0.out
          have c0 := cell_of hpw (k := 0) rfl
          have c1 := cell_of hpw (k := 1) rfl
          have c2 := cell_of hpw (k := 2) rfl
          have c3 := cell_of hpw (k := 3) rfl
          have c4 := cell_of hpw (k := 4) rfl
          have c5 := cell_of hpw (k := 5) rfl
          have c6 := cell_of hpw (k := 6) rfl
          clear hpw
          clear hdep
          refine kS_con rfl ?_
          go_simp
        · clear hdep
          refine kS_con rfl ?_
          go_simp
        · clear hdep
          refine kS_con rfl ?_
          go_simp
        · have d1 : a'.tmps[54]?.getD undef = .slice (some ⟨gA, 0, none⟩) n cS := Array.getD_eq_getD_getElem?.symm.trans (hdep ⟨1, .data⟩ (by simp) rfl _ rfl).2
          have d2 : a'.tmps[55]?.getD undef = .int .i64 (k : Nat) := Array.getD_eq_getD_getElem?.symm.trans (hdep ⟨2, .data⟩ (by simp) rfl _ rfl).2
          have i1 : (k : Int) < (n : Int) := HK.out
          clear hdep
          refine kS_con rfl ?_
          go_simp
        · have d3 : a'.tmps[56]?.getD undef = .pointer (some ⟨gA, k * 2, none⟩) := Array.getD_eq_getD_getElem?.symm.trans (hdep ⟨3, .data⟩ (by simp) rfl _ rfl).2
          have c0 := keep_cell hGd HX0.out.1
          have c1 := keep_cell hGd HX0.out.2
          clear hdep
          refine kS_con rfl ?_
          go_simp
        · have d0 : a'.tmps[53]?.getD undef = pcs p.id p.c p.r p.m p.s (.slice agp p.G.length gcp) (.slice amp p.M.length mcp) := Array.getD_eq_getD_getElem?.symm.trans (hdep ⟨0, .data⟩ (by simp) rfl _ rfl).2
          have d4 : a'.tmps[57]?.getD undef = st (s : Nat) b := Array.getD_eq_getD_getElem?.symm.trans (hdep ⟨4, .data⟩ (by simp) rfl _ rfl).2
          clear hdep
          refine kS_made_call (f := 13) (args := #[pcs p.id p.c p.r p.m p.s (.slice agp p.G.length gcp) (.slice amp p.M.length mcp), st (s : Nat) b]) rfl ?_ (HR.out W (keep_below HBW.out hGd))
          go_simp
        · obtain ⟨hL5, u5, hv5, hR5⟩ := (hdep ⟨5, .data⟩ (by simp) rfl _ rfl).2
          have d5 : a'.tmps[58]?.getD undef = .tuple #[u5, .int .i64 0] := Array.getD_eq_getD_getElem?.symm.trans hv5
          clear hdep
          refine kS_made (v := .tuple #[u5, .int .i64 0]) rfl (by decide) hL5 ?_ (⟨u5, rfl, hR5⟩)
          go_simp
        · obtain ⟨hL5, u6, hv6, hR6⟩ := (hdep ⟨6, .data⟩ (by simp) rfl _ rfl).2
          have d6 : a'.tmps[52]?.getD undef = .tuple #[u6, .int .i64 0] := Array.getD_eq_getD_getElem?.symm.trans hv6
          clear hdep
          refine kS_made (v := u6) rfl (by decide) hL5 ?_ (hR6)
          go_simp
        · obtain ⟨hL5, u6, hv6, hR6⟩ := (hdep ⟨6, .data⟩ (by simp) rfl _ rfl).2
          have d6 : a'.tmps[52]?.getD undef = .tuple #[u6, .int .i64 0] := Array.getD_eq_getD_getElem?.symm.trans hv6
          clear hdep
          refine kS_con rfl ?_
          go_simp
        · clear hdep
          refine kS_box rfl ?_
          go_simp
        · obtain ⟨hL5, vg7, vm7, hv7, hG7, hM7, hr7, hs7⟩ := (hdep ⟨7, .data⟩ (by simp) rfl _ rfl).2
          have d7 : a'.tmps[59]?.getD undef = pcs D.id D.c D.r D.m D.s vg7 vm7 := Array.getD_eq_getD_getElem?.symm.trans hv7
          obtain ⟨hv9, hh9, hL9⟩ := (hdep ⟨9, .data⟩ (by simp) rfl _ rfl).2
          have d9 : a'.tmps[8]?.getD undef = .pointer (some ⟨(g.r 9).1, 0, none⟩) := Array.getD_eq_getD_getElem?.symm.trans hv9
          clear hdep
          obtain ⟨ag7, gc7, rfl, -⟩ := _root_.id hG7
          obtain ⟨am7, mc7, rfl, -⟩ := _root_.id hM7
          refine ⟨hL5, hL9, rfl, ?_⟩
          intro ob hob hh hX hdis
          obtain rfl := hob _ rfl
          clear hv7 hv9 hh9 hL5 hL9
          generalize (g.r 9).1 = N at d9 hh hX hdis ⊢
          have c0 := cell_of hh (k := 0) rfl
          have c1 := cell_of hh (k := 1) rfl
          have c2 := cell_of hh (k := 2) rfl
          have c3 := cell_of hh (k := 3) rfl
          have c4 := cell_of hh (k := 4) rfl
          have c5 := cell_of hh (k := 5) rfl
          have c6 := cell_of hh (k := 6) rfl
          have f0 : W.frozen? ⟨N, 0, none⟩ = false := frozen_of hh
          have f1 : W.frozen? ⟨N, 1, none⟩ = false := frozen_of hh
          have f2 : W.frozen? ⟨N, 2, none⟩ = false := frozen_of hh
          have f3 : W.frozen? ⟨N, 3, none⟩ = false := frozen_of hh
          have f4 : W.frozen? ⟨N, 4, none⟩ = false := frozen_of hh
          have f5 : W.frozen? ⟨N, 5, none⟩ = false := frozen_of hh
          have f6 : W.frozen? ⟨N, 6, none⟩ = false := frozen_of hh
          refine ⟨_, _, ?_, set7_below hX, ?_, fun b hb => set7_other b hb, set7_heap hh, _, _, rfl, hG7.keeps (X := wr.heap.size) hr7 (fun b hb => set7_other b (by omega)), hM7.keeps (X := wr.heap.size) hs7 (fun b hb => set7_other b (by omega)), hr7, hs7⟩
          · go_simp
          · simp
        · have d8 : a'.tmps[60]?.getD undef = .int .i64 0 := Array.getD_eq_getD_getElem?.symm.trans (hdep ⟨8, .data⟩ (by simp) rfl _ rfl).2
          clear hdep
          refine kS_con rfl ?_
          go_simp
      · intro g W hGd hXg hS
        simp only [List.map_cons, List.map_nil, VQ]
        rintro _ rfl _ rfl _ rfl _ rfl _ rfl _ ⟨-, u5, rfl, -⟩ _ ⟨-, u6, rfl, -⟩ _ ⟨-, vg7, vm7, rfl, -⟩ _ rfl _ ⟨rfl, hbox9, -⟩ _ rfl
        simp only [List.setIfInBounds_toArray, List.set_cons_zero, List.set_cons_succ]
        obtain ⟨vg, vm, hob, hGm, hMm, -, -⟩ := hS 10 9 5 _ (by decide) rfl
        obtain ⟨agm, gcm, rfl, -⟩ := _root_.id hGm
        obtain ⟨amm, mcm, rfl, -⟩ := _root_.id hMm
        rw [hob] at hbox9
        clear hS hXg hob
        generalize (g.r 9).1 = N at hbox9 ⊢
        have HBE1 := Lib.hid (keep_below HBE.out hGd)
        have HBW1 := Lib.hid (keep_below HBW.out hGd)
        have HBX1 := Lib.hid hbox9
        have HG1 := Lib.hid hGm
        have HM1 := Lib.hid hMm
        have HP1 := Lib.hid ((hGd.block _ (Array.getElem?_eq_some_iff.1 HP0.out).1).trans HP0.out)
        have HX1 := Lib.hid (And.intro (keep_cell hGd HX0.out.1) (keep_cell hGd HX0.out.2))
        have c0 := cell_of hbox9 (k := 0) rfl
        have c1 := cell_of hbox9 (k := 1) rfl
        have c2 := cell_of hbox9 (k := 2) rfl
        have c3 := cell_of hbox9 (k := 3) rfl
        have c4 := cell_of hbox9 (k := 4) rfl
        have c5 := cell_of hbox9 (k := 5) rfl
        have c6 := cell_of hbox9 (k := 6) rfl
        clear hbox9 hGm hMm hGd HBE HBW HP0 HX0
        simp only [Exit.then]
        go_at_K
        go_wp2_with fail
        refine (HF.out _ _ _ HBW1.out HG1.out HM1.out).mono ?_
        rintro e w2 ⟨rfl, hb⟩
        clear c0 c1 c2 c3 c4 c5 c6
        have HBE2 := Lib.hid (keep_below HBE1.out hb)
        have HBW2 := Lib.hid (keep_below HBW1.out hb)
        have HBX2 := Lib.hid ((hb.block _ (Array.getElem?_eq_some_iff.1 HBX1.out).1).trans HBX1.out)
        have HG2 := Lib.hid (HG1.out.keep hb)
        have HM2 := Lib.hid (HM1.out.keep hb)
        have HP2 := Lib.hid ((hb.block _ (Array.getElem?_eq_some_iff.1 HP1.out).1).trans HP1.out)
        have HX2 := Lib.hid (And.intro (keep_cell hb HX1.out.1) (keep_cell hb HX1.out.2))
        clear hb HBE1 HBW1 HBX1 HG1 HM1 HP1 HX1
        go_wp2_with fail
        refine wp_region_boxes [.con (pcs p.id p.c p.r p.m p.s (.slice agp p.G.length gcp) (.slice amp p.M.length mcp)), .con (.slice (some ⟨gA, 0, none⟩) n cS), .con (.int .i64 (k : Nat)), .con (.pointer (some ⟨gA, k * 2, none⟩)), .con (st (s : Nat) b), .con (.tuple #[.int .i64 c, .int .i64 0]), .con (.tuple #[.int .i64 c, .int .i64 0]), .con (.int .i64 c), .con (.int .i64 0), .con (.int .i64 c), .con (.int .i64 0)] (by kernel_rfl) (by kernel_rfl) rfl ?_ ?_ ?_
        · repeat' (first | exact fun x hx => absurd hx List.not_mem_nil | refine List.forall_mem_cons.2 ⟨?_, ?_⟩)
          all_goals first | exact trivial | exact fun _ _ _ _ _ _ h => h
        · intro i o ho g a' W hGd hfr hdep
          have f2 : a'.tmps[2]?.getD undef = .pointer (some ⟨w.heap.size, 0, none⟩) := Array.getD_eq_getD_getElem?.symm.trans (hfr 2 rfl)
          have f5 : a'.tmps[5]?.getD undef = .slice (some ⟨gA, 0, none⟩) n cS := Array.getD_eq_getD_getElem?.symm.trans (hfr 5 rfl)
          have f7 : a'.tmps[7]?.getD undef = .int .i64 (k : Nat) := Array.getD_eq_getD_getElem?.symm.trans (hfr 7 rfl)
          clear hfr
          have hi : i < 11 := by have := (List.getElem?_eq_some_iff.1 ho).1; simpa using this
          obtain rfl | rfl | rfl | rfl | rfl | rfl | rfl | rfl | rfl | rfl | rfl : i = 0 ∨ i = 1 ∨ i = 2 ∨ i = 3 ∨ i = 4 ∨ i = 5 ∨ i = 6 ∨ i = 7 ∨ i = 8 ∨ i = 9 ∨ i = 10 := by omega
          all_goals simp only [List.getElem?_cons_zero, List.getElem?_cons_succ, Option.some.injEq] at ho
          all_goals subst ho
          · have hpw := (hGd.block _ (Array.getElem?_eq_some_iff.1 HP2.out).1).trans HP2.out
            have c0 := cell_of hpw (k := 0) rfl
            have c1 := cell_of hpw (k := 1) rfl
            have c2 := cell_of hpw (k := 2) rfl
            have c3 := cell_of hpw (k := 3) rfl
            have c4 := cell_of hpw (k := 4) rfl
            have c5 := cell_of hpw (k := 5) rfl
            have c6 := cell_of hpw (k := 6) rfl
            clear hpw
            clear hdep
            refine kS_con rfl ?_
            go_simp
          · clear hdep
            refine kS_con rfl ?_
            go_simp
          · clear hdep
            refine kS_con rfl ?_
            go_simp
          · have d1 : a'.tmps[70]?.getD undef = .slice (some ⟨gA, 0, none⟩) n cS := Array.getD_eq_getD_getElem?.symm.trans (hdep ⟨1, .data⟩ (by simp) rfl _ rfl).2
            have d2 : a'.tmps[71]?.getD undef = .int .i64 (k : Nat) := Array.getD_eq_getD_getElem?.symm.trans (hdep ⟨2, .data⟩ (by simp) rfl _ rfl).2
            have i1 : (k : Int) < (n : Int) := HK.out
            clear hdep
            refine kS_con rfl ?_
            go_simp
          · have d3 : a'.tmps[72]?.getD undef = .pointer (some ⟨gA, k * 2, none⟩) := Array.getD_eq_getD_getElem?.symm.trans (hdep ⟨3, .data⟩ (by simp) rfl _ rfl).2
            have c0 := keep_cell hGd HX2.out.1
            have c1 := keep_cell hGd HX2.out.2
            clear hdep
            refine kS_con rfl ?_
            go_simp
          · have d0 : a'.tmps[69]?.getD undef = pcs p.id p.c p.r p.m p.s (.slice agp p.G.length gcp) (.slice amp p.M.length mcp) := Array.getD_eq_getD_getElem?.symm.trans (hdep ⟨0, .data⟩ (by simp) rfl _ rfl).2
            have d4 : a'.tmps[73]?.getD undef = st (s : Nat) b := Array.getD_eq_getD_getElem?.symm.trans (hdep ⟨4, .data⟩ (by simp) rfl _ rfl).2
            clear hdep
            refine kS_call (f := 15) (args := #[pcs p.id p.c p.r p.m p.s (.slice agp p.G.length gcp) (.slice amp p.M.length mcp), st (s : Nat) b]) rfl ?_ (HA.out W (keep_below HBW2.out hGd))
            go_simp
          · have d5 : a'.tmps[74]?.getD undef = .tuple #[.int .i64 c, .int .i64 0] := Array.getD_eq_getD_getElem?.symm.trans (hdep ⟨5, .data⟩ (by simp) rfl _ rfl).2
            clear hdep
            refine kS_con rfl ?_
            go_simp
          · have d6 : a'.tmps[68]?.getD undef = .tuple #[.int .i64 c, .int .i64 0] := Array.getD_eq_getD_getElem?.symm.trans (hdep ⟨6, .data⟩ (by simp) rfl _ rfl).2
            clear hdep
            refine kS_con rfl ?_
            go_simp
          · have d6 : a'.tmps[68]?.getD undef = .tuple #[.int .i64 c, .int .i64 0] := Array.getD_eq_getD_getElem?.symm.trans (hdep ⟨6, .data⟩ (by simp) rfl _ rfl).2
            clear hdep
            refine kS_con rfl ?_
            go_simp
          · have d7 : a'.tmps[75]?.getD undef = .int .i64 c := Array.getD_eq_getD_getElem?.symm.trans (hdep ⟨7, .data⟩ (by simp) rfl _ rfl).2
            clear hdep
            refine kS_con rfl ?_
            go_simp
          · have d8 : a'.tmps[76]?.getD undef = .int .i64 0 := Array.getD_eq_getD_getElem?.symm.trans (hdep ⟨8, .data⟩ (by simp) rfl _ rfl).2
            clear hdep
            refine kS_con rfl ?_
            go_simp
        · intro g W hGd hXg hS
          simp only [List.map_cons, List.map_nil, VQ]
          rintro _ rfl _ rfl _ rfl _ rfl _ rfl _ rfl _ rfl _ rfl _ rfl _ rfl _ rfl
          simp only [List.setIfInBounds_toArray, List.set_cons_zero, List.set_cons_succ]
          clear hS hXg
          have HBE3 := Lib.hid (keep_below HBE2.out hGd)
          have HBW3 := Lib.hid (keep_below HBW2.out hGd)
          have hbx := (hGd.block _ (Array.getElem?_eq_some_iff.1 HBX2.out).1).trans HBX2.out
          have HBX3 := Lib.hid hbx
          have HG3 := Lib.hid (HG2.out.keep hGd)
          have HM3 := Lib.hid (HM2.out.keep hGd)
          have HP3 := Lib.hid ((hGd.block _ (Array.getElem?_eq_some_iff.1 HP2.out).1).trans HP2.out)
          have HX3 := Lib.hid (And.intro (keep_cell hGd HX2.out.1) (keep_cell hGd HX2.out.2))
          have c0 := cell_of hbx (k := 0) rfl
          have c1 := cell_of hbx (k := 1) rfl
          have c2 := cell_of hbx (k := 2) rfl
          have c3 := cell_of hbx (k := 3) rfl
          have c4 := cell_of hbx (k := 4) rfl
          have c5 := cell_of hbx (k := 5) rfl
          have c6 := cell_of hbx (k := 6) rfl
          clear hbx hGd HBE2 HBW2 HBX2 HG2 HM2 HP2 HX2
          simp only [Exit.then]
          go_at_K
          go_wp2_with fail
          refine (HB.out _ _ _ HBW3.out HG3.out HM3.out).mono ?_
          rintro e w4 ⟨rfl, hb⟩
          clear c0 c1 c2 c3 c4 c5 c6
          have HBE4 := Lib.hid (keep_below HBE3.out hb)
          have HBW4 := Lib.hid (keep_below HBW3.out hb)
          have HBX4 := Lib.hid ((hb.block _ (Array.getElem?_eq_some_iff.1 HBX3.out).1).trans HBX3.out)
          have HG4 := Lib.hid (HG3.out.keep hb)
          have HM4 := Lib.hid (HM3.out.keep hb)
          have HP4 := Lib.hid ((hb.block _ (Array.getElem?_eq_some_iff.1 HP3.out).1).trans HP3.out)
          have HX4 := Lib.hid (And.intro (keep_cell hb HX3.out.1) (keep_cell hb HX3.out.2))
          clear hb HBE3 HBW3 HBX3 HG3 HM3 HP3 HX3
          go_wp2_with fail
          refine wp_region_boxes [.con (pcs p.id p.c p.r p.m p.s (.slice agp p.G.length gcp) (.slice amp p.M.length mcp)), .con (.slice (some ⟨gA, 0, none⟩) n cS), .con (.int .i64 (k : Nat)), .con (.pointer (some ⟨gA, k * 2, none⟩)), .con (st (s : Nat) b), .made 5 (MkT M), .made 5 (MkT M), .made 5 (MkU M), .con (.int .i64 0), .made 5 (MkU M), .con (.int .i64 0)] (by kernel_rfl) (by kernel_rfl) rfl ?_ ?_ ?_
          · repeat' (first | exact fun x hx => absurd hx List.not_mem_nil | refine List.forall_mem_cons.2 ⟨?_, ?_⟩)
            all_goals first | exact trivial | exact fun _ _ _ _ _ _ h => h | exact fun v lo hi W W' hk h => MkT.stable v lo hi W W' hk h | exact fun v lo hi W W' hk h => MkU.stable v lo hi W W' hk h
          · intro i o ho g a' W hGd hfr hdep
            have f2 : a'.tmps[2]?.getD undef = .pointer (some ⟨w.heap.size, 0, none⟩) := Array.getD_eq_getD_getElem?.symm.trans (hfr 2 rfl)
            have f5 : a'.tmps[5]?.getD undef = .slice (some ⟨gA, 0, none⟩) n cS := Array.getD_eq_getD_getElem?.symm.trans (hfr 5 rfl)
            have f7 : a'.tmps[7]?.getD undef = .int .i64 (k : Nat) := Array.getD_eq_getD_getElem?.symm.trans (hfr 7 rfl)
            clear hfr
            have hi : i < 11 := by have := (List.getElem?_eq_some_iff.1 ho).1; simpa using this
            obtain rfl | rfl | rfl | rfl | rfl | rfl | rfl | rfl | rfl | rfl | rfl : i = 0 ∨ i = 1 ∨ i = 2 ∨ i = 3 ∨ i = 4 ∨ i = 5 ∨ i = 6 ∨ i = 7 ∨ i = 8 ∨ i = 9 ∨ i = 10 := by omega
            all_goals simp only [List.getElem?_cons_zero, List.getElem?_cons_succ, Option.some.injEq] at ho
            all_goals subst ho
            · have hpw := (hGd.block _ (Array.getElem?_eq_some_iff.1 HP4.out).1).trans HP4.out
              have c0 := cell_of hpw (k := 0) rfl
              have c1 := cell_of hpw (k := 1) rfl
              have c2 := cell_of hpw (k := 2) rfl
              have c3 := cell_of hpw (k := 3) rfl
              have c4 := cell_of hpw (k := 4) rfl
              have c5 := cell_of hpw (k := 5) rfl
              have c6 := cell_of hpw (k := 6) rfl
              clear hpw
              clear hdep
              refine kS_con rfl ?_
              go_simp
            · clear hdep
              refine kS_con rfl ?_
              go_simp
            · clear hdep
              refine kS_con rfl ?_
              go_simp
            · have d1 : a'.tmps[85]?.getD undef = .slice (some ⟨gA, 0, none⟩) n cS := Array.getD_eq_getD_getElem?.symm.trans (hdep ⟨1, .data⟩ (by simp) rfl _ rfl).2
              have d2 : a'.tmps[86]?.getD undef = .int .i64 (k : Nat) := Array.getD_eq_getD_getElem?.symm.trans (hdep ⟨2, .data⟩ (by simp) rfl _ rfl).2
              have i1 : (k : Int) < (n : Int) := HK.out
              clear hdep
              refine kS_con rfl ?_
              go_simp
            · have d3 : a'.tmps[87]?.getD undef = .pointer (some ⟨gA, k * 2, none⟩) := Array.getD_eq_getD_getElem?.symm.trans (hdep ⟨3, .data⟩ (by simp) rfl _ rfl).2
              have c0 := keep_cell hGd HX4.out.1
              have c1 := keep_cell hGd HX4.out.2
              clear hdep
              refine kS_con rfl ?_
              go_simp
            · have d0 : a'.tmps[84]?.getD undef = pcs p.id p.c p.r p.m p.s (.slice agp p.G.length gcp) (.slice amp p.M.length mcp) := Array.getD_eq_getD_getElem?.symm.trans (hdep ⟨0, .data⟩ (by simp) rfl _ rfl).2
              have d4 : a'.tmps[88]?.getD undef = st (s : Nat) b := Array.getD_eq_getD_getElem?.symm.trans (hdep ⟨4, .data⟩ (by simp) rfl _ rfl).2
              clear hdep
              refine kS_made_call (f := 16) (args := #[pcs p.id p.c p.r p.m p.s (.slice agp p.G.length gcp) (.slice amp p.M.length mcp), st (s : Nat) b]) rfl ?_ (HC.out W (keep_below HBW4.out hGd))
              go_simp
            · obtain ⟨hL5, u5, hv5, hR5⟩ := (hdep ⟨5, .data⟩ (by simp) rfl _ rfl).2
              have d5 : a'.tmps[89]?.getD undef = .tuple #[u5, .int .i64 0] := Array.getD_eq_getD_getElem?.symm.trans hv5
              clear hdep
              refine kS_made (v := .tuple #[u5, .int .i64 0]) rfl (by decide) hL5 ?_ (⟨u5, rfl, hR5⟩)
              go_simp
            · obtain ⟨hL5, u6, hv6, hR6⟩ := (hdep ⟨6, .data⟩ (by simp) rfl _ rfl).2
              have d6 : a'.tmps[83]?.getD undef = .tuple #[u6, .int .i64 0] := Array.getD_eq_getD_getElem?.symm.trans hv6
              clear hdep
              refine kS_made (v := u6) rfl (by decide) hL5 ?_ (⟨u6, rfl, hR6⟩)
              go_simp
            · obtain ⟨hL5, u6, hv6, hR6⟩ := (hdep ⟨6, .data⟩ (by simp) rfl _ rfl).2
              have d6 : a'.tmps[83]?.getD undef = .tuple #[u6, .int .i64 0] := Array.getD_eq_getD_getElem?.symm.trans hv6
              clear hdep
              refine kS_con rfl ?_
              go_simp
            · obtain ⟨hL5, u7, hv7, hR7⟩ := (hdep ⟨7, .data⟩ (by simp) rfl _ rfl).2
              have d7 : a'.tmps[90]?.getD undef = u7 := Array.getD_eq_getD_getElem?.symm.trans hv7
              clear hdep
              refine kS_made (v := u7) rfl (by decide) hL5 ?_ (⟨u7, rfl, hR7⟩)
              go_simp
            · have d8 : a'.tmps[91]?.getD undef = .int .i64 0 := Array.getD_eq_getD_getElem?.symm.trans (hdep ⟨8, .data⟩ (by simp) rfl _ rfl).2
              clear hdep
              refine kS_con rfl ?_
              go_simp
          · intro g W hGd hXg hS
            simp only [List.map_cons, List.map_nil, VQ]
            rintro _ rfl _ rfl _ rfl _ rfl _ rfl _ ⟨-, u5, rfl, -⟩ _ ⟨-, u6, rfl, -⟩ _ ⟨-, u7, rfl, -⟩ _ rfl _ ⟨-, u9, rfl, ⟨aX, cX, rfl, hXl, hXc⟩, -⟩ _ rfl
            simp only [List.setIfInBounds_toArray, List.set_cons_zero, List.set_cons_succ]
            clear hS hXg
            have hX : SlM W (.slice aX M.length cX) M := ⟨aX, cX, rfl, hXl, hXc⟩
            clear hXl hXc
            have HX_ := Lib.hid hX
            clear hX
            have HBE5 := Lib.hid (keep_below HBE4.out hGd)
            have HBW5 := Lib.hid (keep_below HBW4.out hGd)
            have hbx := (hGd.block _ (Array.getElem?_eq_some_iff.1 HBX4.out).1).trans HBX4.out
            have HBX5 := Lib.hid hbx
            have HG5 := Lib.hid (HG4.out.keep hGd)
            have HM5 := Lib.hid (HM4.out.keep hGd)
            have HP5 := Lib.hid ((hGd.block _ (Array.getElem?_eq_some_iff.1 HP4.out).1).trans HP4.out)
            have HX5 := Lib.hid (And.intro (keep_cell hGd HX4.out.1) (keep_cell hGd HX4.out.2))
            have c0 := cell_of hbx (k := 0) rfl
            have c1 := cell_of hbx (k := 1) rfl
            have c2 := cell_of hbx (k := 2) rfl
            have c3 := cell_of hbx (k := 3) rfl
            have c4 := cell_of hbx (k := 4) rfl
            have c5 := cell_of hbx (k := 5) rfl
            have c6 := cell_of hbx (k := 6) rfl
            clear hbx hGd HBE4 HBW4 HBX4 HG4 HM4 HP4 HX4
            simp only [Exit.then]
            go_at_K
            go_wp2_with fail
            refine (HD.out _ _ _ HBW5.out HG5.out HM5.out).mono ?_
            rintro e w6 ⟨vY, rfl, hvY, hb⟩
            clear c0 c1 c2 c3 c4 c5 c6
            have HBE6 := Lib.hid (keep_below HBE5.out hb)
            have HBW6 := Lib.hid (keep_below HBW5.out hb)
            have HBX6 := Lib.hid ((hb.block _ (Array.getElem?_eq_some_iff.1 HBX5.out).1).trans HBX5.out)
            have HG6 := Lib.hid (HG5.out.keep hb)
            have HM6 := Lib.hid (HM5.out.keep hb)
            have HP6 := Lib.hid ((hb.block _ (Array.getElem?_eq_some_iff.1 HP5.out).1).trans HP5.out)
            have HX6 := Lib.hid (And.intro (keep_cell hb HX5.out.1) (keep_cell hb HX5.out.2))
            have HX6_ := Lib.hid (HX_.out.keep hb)
            clear hb HBE5 HBW5 HBX5 HG5 HM5 HP5 HX5
            obtain ⟨aY, cY, rfl, hYl, hYc⟩ := _root_.id hvY
            have HY6_ := Lib.hid hvY
            clear hvY HX_ hYc
            go_wp2_with fail
            obtain ⟨m, hm⟩ : ∃ m, M.length = m := ⟨_, rfl⟩
            rw [hm]
            have HMl := Lib.hid hm
            have hm1000 : m ≤ 1000 := by have := HL.out; omega
            have HB6 := Lib.hid HBE6.out
            clear hm hYl
            go_wp2_with fail
            go_loopw [20] (fun i wx => ∃ k2 : Nat, k2 ≤ m ∧ i = .int .i64 k2 ∧ Below w6.heap.size w6 wx) (fun i _ => m - (intOf i).toNat)
            case atStart => exact ⟨0, Nat.zero_le _, rfl, Below.refl _ _⟩
            case round =>
              obtain ⟨k2, hk2, rfl, hbel⟩ := hrel
              by_cases hlt2 : k2 < m
              · have j2 : (k2 : Int) < (m : Int) := by omega
                obtain ⟨aX2, cX2, eX, -, hcX⟩ := HX6_.out
                obtain ⟨aY2, cY2, eY, -, hcY⟩ := HY6_.out
                obtain ⟨bX, oX, rfl, x0, x1, x2⟩ := hcX k2 (by rw [HMl.out]; exact hlt2)
                obtain ⟨bY, oY, rfl, y0, y1, y2⟩ := hcY k2 (by rw [HMl.out]; exact hlt2)
                simp only [Value.slice.injEq] at eX eY
                obtain ⟨rfl, -, rfl⟩ := eX
                obtain ⟨rfl, -, rfl⟩ := eY
                have HXc := Lib.hid (And.intro (keep_cell hbel x0) (And.intro (keep_cell hbel x1) (keep_cell hbel x2)))
                have HYc := Lib.hid (And.intro (keep_cell hbel y0) (And.intro (keep_cell hbel y1) (keep_cell hbel y2)))
                have HK2 := Lib.hid j2
                have HBL := Lib.hid hbel
                obtain ⟨⟨m1, m2, m3⟩, hmq⟩ : ∃ q, mq M k2 = q := ⟨_, rfl⟩
                rw [hmq] at HXc HYc
                clear hcX hcY x0 x1 x2 y0 y1 y2 hmq hbel
                go_wp2_with fail
                refine wp_region_boxes [.con (.slice (some ⟨bX, oX, none⟩) m cX), .con (.int .i64 (k2 : Nat)), .con (.pointer (some ⟨bX, oX + k2 * 3, none⟩)), .con (mk m1 m2 m3), .con (.slice (some ⟨bY, oY, none⟩) m cY), .con (.int .i64 (k2 : Nat)), .con (.pointer (some ⟨bY, oY + k2 * 3, none⟩)), .con (mk m1 m2 m3), .con (.bool false)] (by kernel_rfl) (by kernel_rfl) rfl ?_ ?_ ?_
                · repeat' (first | exact fun x hx => absurd hx List.not_mem_nil | refine List.forall_mem_cons.2 ⟨?_, ?_⟩)
                  all_goals first | exact trivial | exact fun _ _ _ _ _ _ h => h
                · intro i o ho g a' W hGd hfr hdep
                  have f16 : a'.tmps[16]?.getD undef = .slice (some ⟨bX, oX, none⟩) m cX := Array.getD_eq_getD_getElem?.symm.trans (hfr 16 rfl)
                  have f18 : a'.tmps[18]?.getD undef = .slice (some ⟨bY, oY, none⟩) m cY := Array.getD_eq_getD_getElem?.symm.trans (hfr 18 rfl)
                  have f20 : a'.tmps[20]?.getD undef = .int .i64 (k2 : Nat) := Array.getD_eq_getD_getElem?.symm.trans (hfr 20 rfl)
                  clear hfr
                  have hi : i < 9 := by have := (List.getElem?_eq_some_iff.1 ho).1; simpa using this
                  obtain rfl | rfl | rfl | rfl | rfl | rfl | rfl | rfl | rfl : i = 0 ∨ i = 1 ∨ i = 2 ∨ i = 3 ∨ i = 4 ∨ i = 5 ∨ i = 6 ∨ i = 7 ∨ i = 8 := by omega
                  all_goals simp only [List.getElem?_cons_zero, List.getElem?_cons_succ, Option.some.injEq] at ho
                  all_goals subst ho
                  · clear hdep
                    refine kS_con rfl ?_
                    go_simp
                  · clear hdep
                    refine kS_con rfl ?_
                    go_simp
                  · have d0 : a'.tmps[142]?.getD undef = .slice (some ⟨bX, oX, none⟩) m cX := Array.getD_eq_getD_getElem?.symm.trans (hdep ⟨0, .data⟩ (by simp) rfl _ rfl).2
                    have d1 : a'.tmps[143]?.getD undef = .int .i64 (k2 : Nat) := Array.getD_eq_getD_getElem?.symm.trans (hdep ⟨1, .data⟩ (by simp) rfl _ rfl).2
                    have i1 : (k2 : Int) < (m : Int) := HK2.out
                    clear hdep
                    refine kS_con rfl ?_
                    go_simp
                  · have d2 : a'.tmps[144]?.getD undef = .pointer (some ⟨bX, oX + k2 * 3, none⟩) := Array.getD_eq_getD_getElem?.symm.trans (hdep ⟨2, .data⟩ (by simp) rfl _ rfl).2
                    have c0 := keep_cell hGd HXc.out.1
                    have c1 := keep_cell hGd HXc.out.2.1
                    have c2 := keep_cell hGd HXc.out.2.2
                    clear hdep
                    refine kS_con rfl ?_
                    go_simp
                  · clear hdep
                    refine kS_con rfl ?_
                    go_simp
                  · clear hdep
                    refine kS_con rfl ?_
                    go_simp
                  · have d4 : a'.tmps[146]?.getD undef = .slice (some ⟨bY, oY, none⟩) m cY := Array.getD_eq_getD_getElem?.symm.trans (hdep ⟨4, .data⟩ (by simp) rfl _ rfl).2
                    have d5 : a'.tmps[147]?.getD undef = .int .i64 (k2 : Nat) := Array.getD_eq_getD_getElem?.symm.trans (hdep ⟨5, .data⟩ (by simp) rfl _ rfl).2
                    have i1 : (k2 : Int) < (m : Int) := HK2.out
                    clear hdep
                    refine kS_con rfl ?_
                    go_simp
                  · have d6 : a'.tmps[148]?.getD undef = .pointer (some ⟨bY, oY + k2 * 3, none⟩) := Array.getD_eq_getD_getElem?.symm.trans (hdep ⟨6, .data⟩ (by simp) rfl _ rfl).2
                    have c0 := keep_cell hGd HYc.out.1
                    have c1 := keep_cell hGd HYc.out.2.1
                    have c2 := keep_cell hGd HYc.out.2.2
                    clear hdep
                    refine kS_con rfl ?_
                    go_simp
                  · have d3 : a'.tmps[145]?.getD undef = mk m1 m2 m3 := Array.getD_eq_getD_getElem?.symm.trans (hdep ⟨3, .data⟩ (by simp) rfl _ rfl).2
                    have d7 : a'.tmps[149]?.getD undef = mk m1 m2 m3 := Array.getD_eq_getD_getElem?.symm.trans (hdep ⟨7, .data⟩ (by simp) rfl _ rfl).2
                    clear hdep
                    refine kS_con rfl ?_
                    go_simp
                · intro g W hGd hXg hS
                  simp only [List.map_cons, List.map_nil, VQ]
                  rintro _ rfl _ rfl _ rfl _ rfl _ rfl _ rfl _ rfl _ rfl _ rfl
                  simp only [List.setIfInBounds_toArray, List.set_cons_zero, List.set_cons_succ]
                  clear hS hXg
                  have hbe := keep_below HBL.out hGd
                  clear hGd
                  simp only [Exit.then]
                  go_at_K
                  go_wp2
                  exact ⟨⟨k2 + 1, by omega, by simp, hbe⟩, by simp [intOf]; omega⟩
              · obtain rfl : k2 = m := by omega
                have hbe := keep_below HBE6.out hbel
                go_wp2
                exact ⟨⟨k + 1, by omega, by simp, hbe⟩, by simp [intOf]; omega⟩
    · obtain rfl : k = n := by omega
      have hbe := keep_below HB1.out hbel
      go_wp2_with fail
      refine (HAW.out _).mono ?_
      rintro e w2 ⟨rfl, hb⟩
      have hbf := keep_below hbe hb
      clear hb hbe
      go_wp2
      go_ret
      exact ⟨rfl, hbf⟩

end Go.Proofs.YtkmcboincjohlaaGreat

/- The law TopTurned, whole: if its head answers. -/
namespace Go.Proofs.YtkmcboincjohlaaGreat
open Go Go.RowKit Go.Proofs Go.Abs

set_option maxRecDepth 100000 in
set_option maxHeartbeats 16000000 in
/-- Lists that are too long, or what Settings refuses: the head alone answers. -/
theorem turned_bad (p : PcD) (la : Option Addr) (ln lcap : Nat) (agp amp : Option Addr) (gcp mcp : Nat) (w : World) (S : List (Nat × Bool)) (E : Int)
    (hbad : (p.G.length : Int) > 24 ∨ (p.M.length : Int) > 32 ∨ (ln : Int) > 24 ∨ E ≠ 0)
    (HAW : Hid (∀ W, Calls Tryz.prog 5 #[] W fun e w' => e = .returned (.bool true) ∧ Below W.heap.size W w'))
    (HSET : Hid (∀ W, Below w.heap.size w W → Calls Tryz.prog 9 #[pcs p.id p.c p.r p.m p.s (.slice agp p.G.length gcp) (.slice amp p.M.length mcp), .slice la ln lcap] W fun e w' => (∃ v, e = .returned (.tuple #[v, .int .i64 E]) ∧ SetAt w' v S) ∧ Below W.heap.size W w')) :
    Calls Tryz.prog 4 #[pcs p.id p.c p.r p.m p.s (.slice agp p.G.length gcp) (.slice amp p.M.length mcp), .slice la ln lcap] w fun e w' => e = .returned (.bool true) ∧ Below w.heap.size w w' := by
  have hp0 := pcs_new w p.id p.c p.r p.m p.s (.slice agp p.G.length gcp) (.slice amp p.M.length mcp)
  have b0 : Below w.heap.size w (w.alloc (.cells #[.int .i64 p.id, .int .i64 p.c, .int .i64 p.r, .int .i64 p.m, .int .i64 p.s, .slice agp p.G.length gcp, .slice amp p.M.length mcp] 40)) := (Below.refl _ _).alloc (Nat.le_refl _) _
  obtain ⟨w0, hw0⟩ : ∃ w0, w.alloc (.cells #[.int .i64 p.id, .int .i64 p.c, .int .i64 p.r, .int .i64 p.m, .int .i64 p.s, .slice agp p.G.length gcp, .slice amp p.M.length mcp] 40) = w0 := ⟨_, rfl⟩
  have hp : w0.heap[w.heap.size]? = some (.cells #[.int .i64 p.id, .int .i64 p.c, .int .i64 p.r, .int .i64 p.m, .int .i64 p.s, .slice agp p.G.length gcp, .slice amp p.M.length mcp] 40 (0, 0)) := by rw [← hw0]; exact hp0
  rw [hw0] at b0
  clear hp0
  have c0 := cell_of hp (k := 0) rfl
  have c1 := cell_of hp (k := 1) rfl
  have c2 := cell_of hp (k := 2) rfl
  have c3 := cell_of hp (k := 3) rfl
  have c4 := cell_of hp (k := 4) rfl
  have c5 := cell_of hp (k := 5) rfl
  have c6 := cell_of hp (k := 6) rfl
  have hd : (p.G.length : Int) > 24 ∨ ((p.G.length : Int) ≤ 24 ∧ (p.M.length : Int) > 32) ∨ ((p.G.length : Int) ≤ 24 ∧ (p.M.length : Int) ≤ 32 ∧ (ln : Int) > 24) ∨ ((p.G.length : Int) ≤ 24 ∧ (p.M.length : Int) ≤ 32 ∧ (ln : Int) ≤ 24 ∧ E ≠ 0) := by omega
  clear hbad
  rcases hd with l1 | ⟨l1, l2⟩ | ⟨l1, l2, l3⟩ | ⟨l1, l2, l3, l4⟩
  · go_enter Tryz.func4, Tryz.ntmps4
    go_wp2_with fail
    refine (HAW.out _).mono ?_
    rintro e w1 ⟨rfl, hb⟩
    have b1 := keep_below b0 hb
    clear hb
    go_wp2
    go_ret
    exact ⟨rfl, b1⟩
  · go_enter Tryz.func4, Tryz.ntmps4
    go_wp2_with fail
    refine (HAW.out _).mono ?_
    rintro e w1 ⟨rfl, hb⟩
    have b1 := keep_below b0 hb
    clear hb
    go_wp2
    go_ret
    exact ⟨rfl, b1⟩
  · go_enter Tryz.func4, Tryz.ntmps4
    go_wp2_with fail
    refine (HAW.out _).mono ?_
    rintro e w1 ⟨rfl, hb⟩
    have b1 := keep_below b0 hb
    clear hb
    go_wp2
    go_ret
    exact ⟨rfl, b1⟩
  · go_enter Tryz.func4, Tryz.ntmps4
    go_wp2_with fail
    refine (HSET.out _ b0).mono ?_
    rintro e w1 ⟨⟨vS, rfl, hvS⟩, hb⟩
    have b1 := keep_below b0 hb
    clear hb c0 c1 c2 c3 c4 c5 c6 hvS hp
    go_wp2_with fail
    refine (HAW.out _).mono ?_
    rintro e w2 ⟨rfl, hb⟩
    have b2 := keep_below b1 hb
    clear hb
    go_wp2
    go_ret
    exact ⟨rfl, b2⟩

/-- TopTurned, if its head answers in any world. -/
theorem turnedLaw_if (AW : ∀ W, Calls Tryz.prog 5 #[] W fun e w' => e = .returned (.bool true) ∧ Below W.heap.size W w')
    (id c r m s : Int) (vg vm pv : Value) (G : List G5) (M : List M3) (L : List (Int × Int)) (w : World) (hG : SlG w vg G) (hM : SlM w vm M) (hL : SlV w pv L) :
    Calls Tryz.prog 4 #[pcs id c r m s vg vm, pv] w fun e w' => e = .returned (.bool true) ∧ Below w.heap.size w w' := by
  obtain ⟨d, hd⟩ : ∃ d : PcD, d = ⟨id, c, r, m, s, G, M⟩ := ⟨_, rfl⟩
  have HS := fun W (hb : Below w.heap.size w W) => settings14_any id c r m s vg vm pv G M L W (hG.keep hb) (hM.keep hb) (hL.keep hb)
  have hG' : SlG w vg d.G := by rw [hd]; exact hG
  have hM' : SlM w vm d.M := by rw [hd]; exact hM
  have HS' : ∀ W, Below w.heap.size w W → Calls Tryz.prog 9 #[pcs d.id d.c d.r d.m d.s vg vm, pv] W fun e w' => ∃ v, e = .returned (.tuple #[v, .int .i64 (setsE d.ok L)]) ∧ SetAt w' v (setsV d.ok d.G L) ∧ Below W.heap.size W w' := by rw [hd]; exact HS
  have goal : Calls Tryz.prog 4 #[pcs d.id d.c d.r d.m d.s vg vm, pv] w fun e w' => e = .returned (.bool true) ∧ Below w.heap.size w w' := by
    clear HS hG hM
    obtain ⟨ag, gc, rfl, hgl, hgc⟩ := _root_.id hG'
    obtain ⟨am, mc, rfl, hml, hmc⟩ := _root_.id hM'
    obtain ⟨al, lc, rfl, hll, hlc⟩ := _root_.id hL
    clear hgl hgc hml hmc hll hlc
    by_cases hbad : (d.G.length : Int) > 24 ∨ (d.M.length : Int) > 32 ∨ (L.length : Int) > 24 ∨ setsE d.ok L ≠ 0
    · exact turned_bad d al L.length lc ag am gc mc w (setsV d.ok d.G L) (setsE d.ok L) hbad (Lib.hid AW) (Lib.hid fun W hb => (HS' W hb).mono fun e w' ⟨v, h1, h2, h3⟩ => ⟨⟨v, h1, h2⟩, h3⟩)
    · have l1 : (d.G.length : Int) ≤ 24 := by omega
      have l2 : (d.M.length : Int) ≤ 32 := by omega
      have l3 : (L.length : Int) ≤ 24 := by omega
      have hE : setsE d.ok L = 0 := by omega
      rw [hE] at HS'
      have len : (setsV d.ok d.G L).length ≤ 1000 := by
        unfold setsV
        split
        · refine Nat.le_trans (List.length_filter_le _ _) ?_
          rw [allS_len]
          omega
        · exact Nat.zero_le _
      refine turned_good d al L.length lc ag am gc mc w (setsV d.ok d.G L) (fun s b => rsD d s b) (fun s b => (rsD d s b).c) (fun s b => (rsD d s b).M) len l1 l2 l3
        (Lib.hid AW) (Lib.hid HS') (Lib.hid ?_) (Lib.hid ?_) (Lib.hid ?_) (Lib.hid ?_) (Lib.hid ?_) (Lib.hid ?_) (Lib.hid ?_)
      · intro s b hm W hb
        obtain ⟨h1, h2, h3, h4, h5, h6, h7, h8⟩ := turned_facts hm
        refine (reset17_any d _ _ (s : Int) b W (hG'.keep hb) (hM'.keep hb)).mono ?_
        rintro e w' ⟨v, rfl, hv, hbw⟩
        have hv2 := hv.toR
        rw [h3] at hv2
        rw [h1, h2]
        exact ⟨_, rfl, ⟨v, rfl, hv2⟩, hbw⟩
      · intro s b hm W vg vm hb g1 g2
        obtain ⟨h1, h2, h3, h4, h5, h6, h7, h8⟩ := turned_facts hm
        have := fits12_any (rsD d s b).id (rsD d s b).c (rsD d s b).r (rsD d s b).m (rsD d s b).s vg vm _ (rsD d s b).G (rsD d s b).M L 0 false W g1 g2 (hL.keep hb)
        have e1 : vP (rsD d s b).id (rsD d s b).c (rsD d s b).r (rsD d s b).m (rsD d s b).s (rsD d s b).G (rsD d s b).M = (rsD d s b).ok := rfl
        rw [e1, h6, h7] at this
        exact this
      · intro s b hm W hb
        obtain ⟨h1, h2, h3, h4, h5, h6, h7, h8⟩ := turned_facts hm
        have := shows19_D d _ _ (s : Int) b W (hG'.keep hb) (hM'.keep hb)
        rw [h3, h1, h2] at this
        exact this
      · intro s b hm W vg vm hb g1 g2
        obtain ⟨h1, h2, h3, h4, h5, h6, h7, h8⟩ := turned_facts hm
        have := shows19_D (rsD d s b) vg vm 0 false W g1 g2
        rw [h8, h4, h5] at this
        exact this
      · intro s b hm W hb
        obtain ⟨h1, h2, -⟩ := turned_facts hm
        exact marks16_fr d _ _ s b W (hG'.keep hb) (hM'.keep hb) h1 h2
      · intro s b hm W vg vm hb g1 g2
        obtain ⟨h1, h2, h3, h4, h5, h6, h7, h8⟩ := turned_facts hm
        refine (marks21_D (rsD d s b) vg vm 0 false W g1 g2).mono ?_
        rintro e w' ⟨v, rfl, hv, hbw⟩
        rw [h8] at hv
        rw [h4, h5]
        exact ⟨v, rfl, hv, hbw⟩
      · intro s b
        show (shM d.G.length s b d.M).length ≤ 1000
        rw [shM_len]
        omega
  rw [hd] at goal
  exact goal

end Go.Proofs.YtkmcboincjohlaaGreat
