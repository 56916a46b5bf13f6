/- Walks: the program's reset. -/
import Derived.Test.YtkmcboincjohlaaGreatGrRD
namespace Go.Proofs.YtkmcboincjohlaaGreat
open Go Go.RowKit Go.Proofs Go.Abs

set_option maxRecDepth 100000 in
set_option maxHeartbeats 8000000 in
theorem reset50_F (id c r m s : Int) (vg vm : Value) (G : List G5) (M : List M3) (sh : Nat) (w : World) (hG : SlG w vg G) (hM : SlM w vm M) (hok : vP id c r m s G M = true) (hs : vset sh G.length = true) :
    Calls Tryz.prog 31 #[pcs id c r m s vg vm, st sh false] w fun e w' => ∃ vg' vm', e = .returned (pcs id c r m s vg' vm') ∧ w'.ownsRow (w.heap.size + 4) 82 5 vg' G.length (rowG (fun x => lay G G.length sh false x) G.length) ∧ SlM w' vm' (shM G.length sh false M) ∧ Fr w.heap.size vm' ∧ Below w.heap.size w w' := by
  obtain ⟨hvg, hvm⟩ := vP_marks hok
  obtain ⟨g3, g24, -⟩ := vGs_ok hvg
  have hh := hs
  simp only [vset, Bool.and_eq_true, decide_eq_true_eq] at hh
  have hsl : sh < G.length := by omega
  obtain ⟨ag, gcap, hvs⟩ := hG.shape
  have CL := Lib.hid (fun (k : Nat) (hk : k < G.length) W (hW : Below w.heap.size w W) => laidOn_any vg G sh k false W (hG.keep hW) g24 g3 hsl hk)
  have CR := Lib.hid (show ∀ W, Below w.heap.size w W → Calls Tryz.prog 32 #[pcs id c r m s vg vm, st sh false] W fun e w' => ∃ v', e = .returned v' ∧ SlM w' v' (shM G.length sh false M) ∧ Below W.heap.size W w' ∧ ∀ a n c, v' = .slice (some a) n c → W.heap.size ≤ a.block from fun W hW => by
    have := resetMarks_any id c r m s ag G.length gcap vm M sh false W (hM.keep hW) hs hvm
    rwa [← hvs] at this)
  obtain ⟨F, hF⟩ : ∃ F : Nat → G5, F = fun x => lay G G.length sh false x := ⟨_, rfl⟩
  have CL' := Lib.hid (show ∀ k, k < G.length → ∀ W, Below w.heap.size w W → Calls Tryz.prog 60 #[vg, st sh false, .int .i64 k] W fun e w' => e = .returned (gg (F k).a (F k).b (F k).c (F k).d (F k).e) ∧ Below W.heap.size W w' from fun k hk W hW => by
    have := CL.out k hk W hW
    rw [hF]
    exact this)
  rw [← hF]
  obtain ⟨R, hR⟩ : ∃ R : World → Value → Prop, R = fun W v => SlM W v (shM G.length sh false M) := ⟨_, rfl⟩
  have CR' := Lib.hid (show ∀ W, Below w.heap.size w W → Calls Tryz.prog 32 #[pcs id c r m s vg vm, st sh false] W fun e w' => ∃ a n c, e = .returned (.slice a n c) ∧ R w' (.slice a n c) ∧ Below W.heap.size W w' ∧ ∀ p n' c', Value.slice a n c = .slice (some p) n' c' → W.heap.size ≤ p.block from fun W hW => by
    refine (CR.out W hW).mono ?_
    rintro e w' ⟨v', h1, h2, h4, h5⟩
    obtain ⟨a, c, rfl, -⟩ := _root_.id h2
    rw [hR]
    exact ⟨a, _, c, h1, h2, h4, h5⟩)
  have RK := Lib.hid (show ∀ W v, R W v → SlM W v (shM G.length sh false M) from fun W v h => by
    rw [hR] at h
    exact h)
  subst hvs
  obtain ⟨am, mcap, hms, -, -⟩ := hM
  subst hms
  clear CL CR hF hR hG hok hs hvg hvm hh hsl
  obtain ⟨n, hn⟩ : ∃ n, G.length = n := ⟨_, rfl⟩
  obtain ⟨q, hq⟩ : ∃ q, M.length = q := ⟨_, rfl⟩
  rw [hn] at CL' CR' RK g3 g24 ⊢
  rw [hq] at CR' ⊢
  clear hn hq
  have hP := PcSt.new w id c r m s (.slice ag n gcap) (.slice am q mcap) sh false
  obtain ⟨W0, hW0⟩ : ∃ W0, ((w.alloc (pcsObj id c r m s (.slice ag n gcap) (.slice am q mcap))).alloc (stObj sh false)).alloc (.cells #[.int .i64 0, .int .i64 0, .int .i64 0, .int .i64 0, .int .i64 0, .slice none 0 0, .slice none 0 0] 40) = W0 := ⟨_, rfl⟩
  have hP0 : PcSt w W0 id c r m s (.slice ag n gcap) (.slice am q mcap) sh false := by rw [← hW0]; exact hP.keep ((Below.refl _ _).alloc (Nat.le_refl _) _)
  have hs0 : W0.heap.size = w.heap.size + 3 := by rw [← hW0]; simp
  have hI0 : RsI w (W0.alloc (.cells #[.int .i64 id, .int .i64 c, .int .i64 r, .int .i64 m, .int .i64 s, .slice none 0 0, .slice am q mcap] 40)) id c r m s (.slice ag n gcap) (.slice am q mcap) sh false c r (.slice none 0 0) := by
    refine ⟨hP0.keep ((Below.refl _ _).alloc (Nat.le_refl _) _), ?_, ?_⟩
    · rw [alloc_heap_old _ _ (by omega), ← hW0]
      have := alloc_heap_new ((w.alloc (pcsObj id c r m s (.slice ag n gcap) (.slice am q mcap))).alloc (stObj sh false)) (.cells #[.int .i64 0, .int .i64 0, .int .i64 0, .int .i64 0, .int .i64 0, .slice none 0 0, .slice none 0 0] 40)
      rw [World.size_alloc, World.size_alloc] at this
      exact this
    · rw [← hs0]; exact alloc_heap_new _ _
  obtain ⟨-, -, c0, c1, c2, c3, c4, c5, c6, s0, s1⟩ := _root_.id hP0
  clear hP hP0
  go_enter Tryz.func31, Tryz.ntmps31
  go_wp2_with fail
  clear hW0 c0 c1 c2 c3 c4 c5 c6 s0 s1
  generalize W0.alloc (.cells #[.int .i64 id, .int .i64 c, .int .i64 r, .int .i64 m, .int .i64 s, .slice none 0 0, .slice am q mcap] 40) = W1 at hI0 ⊢
  clear hs0 W0
  go_loopw [20] (fun i wr => ∃ k : Nat, k ≤ n ∧ i = .int .i64 k ∧ ∃ sv, RsI w wr id c r m s (.slice ag n gcap) (.slice am q mcap) sh false c r sv ∧ wr.ownsRow (w.heap.size + 4) 82 5 sv k (rowG F k)) (fun i _ => n - (intOf i).toNat)
  case atStart => exact ⟨0, Nat.zero_le _, rfl, _, hI0, World.ownsRow_nil _ _ _ _⟩
  case round =>
    clear hI0 W1
    obtain ⟨k, hk, rfl, sv, hI, hown⟩ := hrel
    by_cases hlt : k < n
    · have j1 : (k : Int) < (n : Int) := by omega
      have CLk := Lib.hid (CL'.out k hlt)
      have hlt8 : ∀ g, sv.ownBlock = some g → g < wr.heap.size := fun g h => (hown.lt g h).2
      have HW := Lib.hid hI.siz
      go_wp2_with fail
      refine wp_region_valsR 10 (RsV w (.slice ag n gcap) sh false sv F k) (RsR (w.heap.size + 4) sv) (RsG w id c r m s (.slice ag n gcap) (.slice am q mcap) sh false c r sv F k wr.heap.size) (by kernel_rfl) (by kernel_rfl) ?_ ?_ ?_ ?_ ?_
      · exact ⟨hI.keep ((Below.refl _ _).drew), fun _ => own_keep hown ((Below.refl _ _).drew), by simp⟩
      · intro listed j W W' hsz _ _ hg hR
        exact hg.step (by rw [hsz]; simp) hR
      · intro listed i j v W W' hi hj hij hanc _ hv _ hR
        refine hv.step (fun h8 => ?_) hR
        subst h8
        have hj' : j = 0 ∨ j = 1 ∨ j = 2 ∨ j = 3 ∨ j = 4 ∨ j = 5 ∨ j = 6 ∨ j = 7 ∨ j = 9 := by omega
        rcases hj' with rfl | rfl | rfl | rfl | rfl | rfl | rfl | rfl | rfl
        all_goals first
          | rfl
          | (have h2 : false = true := hanc.symm.trans (by kernel_rfl)
             cases h2)
      · simp only [List.take_succ_cons, List.take_zero]
        intro i o ho listed a' W hli hGd hfr hdep
        have f2 : a'.tmps[2]?.getD undef = .pointer (some ⟨w.heap.size, 0, none⟩) := Array.getD_eq_getD_getElem?.symm.trans (hfr 2 rfl)
        have f3 : a'.tmps[3]?.getD undef = .pointer (some ⟨w.heap.size + 1, 0, none⟩) := Array.getD_eq_getD_getElem?.symm.trans (hfr 3 rfl)
        have f5 : a'.tmps[5]?.getD undef = .pointer (some ⟨w.heap.size + 3, 0, none⟩) := Array.getD_eq_getD_getElem?.symm.trans (hfr 5 rfl)
        have f6 : a'.tmps[6]?.getD undef = .int .i64 k := Array.getD_eq_getD_getElem?.symm.trans (hfr 6 rfl)
        obtain ⟨hIw, hO, hX⟩ := hGd
        have c5 := hIw.ps.c5
        have s0 := hIw.ps.s0
        have s1 := hIw.ps.s1
        have q5 : W.cell? ⟨w.heap.size + 3, 5, none⟩ = some sv := cell_of hIw.box rfl
        clear hfr
        have hi : i < 10 := by have := (List.getElem?_eq_some_iff.1 ho).1; simpa using this
        obtain rfl | rfl | rfl | rfl | rfl | rfl | rfl | rfl | rfl | rfl : i = 0 ∨ i = 1 ∨ i = 2 ∨ i = 3 ∨ i = 4 ∨ i = 5 ∨ i = 6 ∨ i = 7 ∨ i = 8 ∨ i = 9 := by omega
        all_goals simp only [List.getElem?_cons_zero, List.getElem?_cons_succ, Option.some.injEq] at ho
        all_goals subst ho
        · clear hdep
          refine .inl ⟨_, W, ?_, rsR_refl (by omega), rfl⟩
          go_simp
        · have d0 : a'.tmps[23]?.getD undef = .pointer (some ⟨w.heap.size + 3, 5, none⟩) := Array.getD_eq_getD_getElem?.symm.trans (hdep ⟨0, .data⟩ (by simp) rfl 23 rfl)
          clear hdep
          refine .inl ⟨_, W, ?_, rsR_refl (by omega), rfl⟩
          go_simp
        · clear hdep
          refine .inl ⟨_, W, ?_, rsR_refl (by omega), rfl⟩
          go_simp
        · have d2 : a'.tmps[25]?.getD undef = .pointer (some ⟨w.heap.size, 5, none⟩) := Array.getD_eq_getD_getElem?.symm.trans (hdep ⟨2, .data⟩ (by simp) rfl 25 rfl)
          clear hdep
          refine .inl ⟨_, W, ?_, rsR_refl (by omega), rfl⟩
          go_simp
        · clear hdep
          refine .inl ⟨_, W, ?_, rsR_refl (by omega), rfl⟩
          go_simp
        · clear hdep
          refine .inl ⟨_, W, ?_, rsR_refl (by omega), rfl⟩
          go_simp
        · have d3 : a'.tmps[26]?.getD undef = .slice ag n gcap := Array.getD_eq_getD_getElem?.symm.trans (hdep ⟨3, .data⟩ (by simp) rfl 26 rfl)
          have d4 : a'.tmps[27]?.getD undef = st sh false := Array.getD_eq_getD_getElem?.symm.trans (hdep ⟨4, .data⟩ (by simp) rfl 27 rfl)
          have d5 : a'.tmps[28]?.getD undef = .int .i64 k := Array.getD_eq_getD_getElem?.symm.trans (hdep ⟨5, .data⟩ (by simp) rfl 28 rfl)
          clear hdep
          refine .inr ⟨60, #[.slice ag n gcap, st sh false, .int .i64 k], ?_, (CLk.out W hIw.ps.bel).mono ?_⟩
          · go_simp
          · rintro e W' ⟨rfl, hb⟩
            exact ⟨_, rfl, rsR_below (by omega) (by omega) hb, rfl⟩
        · have d6 : a'.tmps[29]?.getD undef = gg (F k).a (F k).b (F k).c (F k).d (F k).e := Array.getD_eq_getD_getElem?.symm.trans (hdep ⟨6, .data⟩ (by simp) rfl 29 rfl)
          clear hdep
          refine .inl ⟨.slice (some ⟨W.heap.size, 0, none⟩) 1 1, W.alloc (.cells #[.int .i64 (F k).a, .int .i64 (F k).b, .int .i64 (F k).c, .int .i64 (F k).d, .int .i64 (F k).e] 82), ?_, rsR_below (by omega) (by omega) ((Below.refl _ _).alloc (Nat.le_refl _) _), W.heap.size, rfl, by simp, fun h => ?_, alloc_heap_new _ _⟩
          · go_simp
          · have := hlt8 _ h
            omega
        · have d1 : a'.tmps[24]?.getD undef = sv := Array.getD_eq_getD_getElem?.symm.trans (hdep ⟨1, .data⟩ (by simp) rfl 24 rfl)
          obtain ⟨g, hv7, hg1, hg2, hg3⟩ := hdep ⟨7, .data⟩ (by simp) rfl 30 rfl
          have d7 : a'.tmps[30]?.getD undef = .slice (some ⟨g, 0, none⟩) 1 1 := Array.getD_eq_getD_getElem?.symm.trans hv7
          clear hdep
          have hO' := hO hli
          obtain ⟨v', W', h1, h2, h3⟩ := run_append_gauge 31 hO' (by omega) hIw.siz hg3
          refine .inl ⟨v', W', ?_, rsR_app h3 hIw.siz (fun j hj => (hO'.lt j hj).1), h2⟩
          simp only [execOp, resolve, invoke, builtin, Sem.run_bind, Sem.run_pure, Result.andThen_ok, List.map_toArray, List.map_cons, List.map_nil, Act.eval, Array.getD_eq_getD_getElem?, d1, d7, h1]
        · clear hdep
          refine .inl ⟨_, W, ?_, rsR_refl (by omega), rfl⟩
          go_simp
      · intro listed W hle hGd
        subst hle
        simp only [List.take_succ_cons, List.take_zero, List.map_cons, List.map_nil, VQ]
        rintro _ rfl v1 hv1 _ rfl _ rfl _ rfl _ rfl _ rfl _ ⟨g, rfl, -⟩ v8 hv8 _ rfl
        rw [hv1]
        clear hv1 v1
        simp only [List.setIfInBounds_toArray, List.set_cons_zero, List.set_cons_succ, List.length_cons, List.length_nil, Nat.reduceAdd, Nat.reduceSub, ledList, List.replicate, List.cons_append, List.nil_append]
        obtain ⟨hIw, -, -⟩ := hGd
        have q5 : W.cell? ⟨w.heap.size + 3, 5, none⟩ = some sv := cell_of hIw.box rfl
        have z5 : W.frozen? ⟨w.heap.size + 3, 5, none⟩ = false := frozen_of hIw.box
        have hI5 := hIw.set5 v8
        have hO5 : (W.setCell ⟨w.heap.size + 3, 5, none⟩ v8).ownsRow (w.heap.size + 4) 82 5 v8 (k + 1) (rowG F (k + 1)) := own_other hv8 (by omega)
        obtain ⟨g8, cap8, rfl⟩ := own_slice hv8 (by omega)
        clear hIw hv8 hI hown hlt8
        refine wpAny_ready (rs := [10]) (by kernel_rfl) (by simp) (AllReady.cons rfl (fun K hK => ?_) AllReady.nil)
        simp only [List.getElem_toArray, List.getElem_cons_succ, List.getElem_cons_zero]
        rw [if_pos (show Region.wanted _ _ = true from rfl)]
        have HK := Lib.hid hK
        clear hK
        go_wp2_with fail
        refine HK.out _ _ ?_
        clear HK K
        refine wpAny_done (by kernel_rfl) ?_ _
        simp only [Exit.inBlock, Exit.then]
        go_at_K
        go_wp2
        exact ⟨⟨k + 1, by omega, by simp, _, hI5, hO5⟩, by simp [intOf]; omega⟩
    · obtain rfl : k = n := by omega
      have CRw := CR'.out wr hI.ps.bel
      obtain ⟨c0, c1, c2, c3, c4, c5, c6, s0, s1⟩ := And.intro hI.ps.c0 (And.intro hI.ps.c1 (And.intro hI.ps.c2 (And.intro hI.ps.c3 (And.intro hI.ps.c4 (And.intro hI.ps.c5 (And.intro hI.ps.c6 (And.intro hI.ps.s0 hI.ps.s1)))))))
      go_wp2_with fail
      refine CRw.mono ?_
      rintro e w2 ⟨a6, n6, e6, rfl, hR, hb2, hbl⟩
      have hsw := hI.siz
      obtain ⟨g5, cap5, rfl⟩ := own_slice hown (by omega)
      have hI2 := hI.keep hb2
      have hO2 := own_keep hown hb2
      have b2 := hI2.ps.bel
      have hres := hI2.res
      have x0 : w2.cell? ⟨w.heap.size + 3, 0, none⟩ = some (.int .i64 id) := cell_of hI2.box rfl
      have x1 : w2.cell? ⟨w.heap.size + 3, 1, none⟩ = some (.int .i64 c) := cell_of hI2.box rfl
      have x2 : w2.cell? ⟨w.heap.size + 3, 2, none⟩ = some (.int .i64 r) := cell_of hI2.box rfl
      have x3 : w2.cell? ⟨w.heap.size + 3, 3, none⟩ = some (.int .i64 m) := cell_of hI2.box rfl
      have x4 : w2.cell? ⟨w.heap.size + 3, 4, none⟩ = some (.int .i64 s) := cell_of hI2.box rfl
      have x5 : w2.cell? ⟨w.heap.size + 3, 5, none⟩ = some (.slice (some ⟨g5, 0, none⟩) k cap5) := cell_of hI2.box rfl
      have x6 : w2.cell? ⟨w.heap.size + 3, 6, none⟩ = some (.slice am q mcap) := cell_of hI2.box rfl
      have y6 : w2.frozen? ⟨w.heap.size + 3, 6, none⟩ = false := frozen_of hI2.box
      have z0 : w2.cell? ⟨w.heap.size + 2, 0, none⟩ = some (.int .i64 0) := cell_of hI2.res rfl
      have z1 : w2.cell? ⟨w.heap.size + 2, 1, none⟩ = some (.int .i64 0) := cell_of hI2.res rfl
      have z2 : w2.cell? ⟨w.heap.size + 2, 2, none⟩ = some (.int .i64 0) := cell_of hI2.res rfl
      have z3 : w2.cell? ⟨w.heap.size + 2, 3, none⟩ = some (.int .i64 0) := cell_of hI2.res rfl
      have z4 : w2.cell? ⟨w.heap.size + 2, 4, none⟩ = some (.int .i64 0) := cell_of hI2.res rfl
      have z5 : w2.cell? ⟨w.heap.size + 2, 5, none⟩ = some (.slice none 0 0) := cell_of hI2.res rfl
      have z6 : w2.cell? ⟨w.heap.size + 2, 6, none⟩ = some (.slice none 0 0) := cell_of hI2.res rfl
      have y0 : w2.frozen? ⟨w.heap.size + 2, 0, none⟩ = false := frozen_of hI2.res
      have t1 : w2.frozen? ⟨w.heap.size + 2, 1, none⟩ = false := frozen_of hI2.res
      have t2 : w2.frozen? ⟨w.heap.size + 2, 2, none⟩ = false := frozen_of hI2.res
      have t3 : w2.frozen? ⟨w.heap.size + 2, 3, none⟩ = false := frozen_of hI2.res
      have t4 : w2.frozen? ⟨w.heap.size + 2, 4, none⟩ = false := frozen_of hI2.res
      have t5 : w2.frozen? ⟨w.heap.size + 2, 5, none⟩ = false := frozen_of hI2.res
      have t6 : w2.frozen? ⟨w.heap.size + 2, 6, none⟩ = false := frozen_of hI2.res
      clear c0 c1 c2 c3 c4 c5 c6 s0 s1 hI hown CRw hI2
      go_wp2_with fail
      obtain ⟨WF, hWF⟩ : ∃ WF, (((((((w2.setCell ⟨w.heap.size + 3, 6, none⟩ (.slice a6 n6 e6)).setCell ⟨w.heap.size + 1 + 1, 0, none⟩ (.int .i64 id)).setCell ⟨w.heap.size + 1 + 1, 1, none⟩ (.int .i64 c)).setCell ⟨w.heap.size + 1 + 1, 2, none⟩ (.int .i64 r)).setCell ⟨w.heap.size + 1 + 1, 3, none⟩ (.int .i64 m)).setCell ⟨w.heap.size + 1 + 1, 4, none⟩ (.int .i64 s)).setCell ⟨w.heap.size + 1 + 1, 5, none⟩ (.slice (some ⟨g5, 0, none⟩) k cap5)).setCell ⟨w.heap.size + 1 + 1, 6, none⟩ (.slice a6 n6 e6) = WF := ⟨_, rfl⟩
      rw [hWF]
      have hf : WF.heap[w.heap.size + 1 + 1]? = some (.cells #[.int .i64 id, .int .i64 c, .int .i64 r, .int .i64 m, .int .i64 s, .slice (some ⟨g5, 0, none⟩) k cap5, .slice a6 n6 e6] 40 (0, 0)) := by
        rw [← hWF]
        exact res_set hres (by omega)
      have hb3 : Below w.heap.size w WF := by
        rw [← hWF]
        exact (((((((b2.setCell (p := ⟨w.heap.size + 3, 6, none⟩) (by simp) _).setCell (p := ⟨w.heap.size + 1 + 1, 0, none⟩) (by simp; omega) _).setCell (p := ⟨w.heap.size + 1 + 1, 1, none⟩) (by simp; omega) _).setCell (p := ⟨w.heap.size + 1 + 1, 2, none⟩) (by simp; omega) _).setCell (p := ⟨w.heap.size + 1 + 1, 3, none⟩) (by simp; omega) _).setCell (p := ⟨w.heap.size + 1 + 1, 4, none⟩) (by simp; omega) _).setCell (p := ⟨w.heap.size + 1 + 1, 5, none⟩) (by simp; omega) _).setCell (p := ⟨w.heap.size + 1 + 1, 6, none⟩) (by simp; omega) _
      have hO3 : WF.ownsRow (w.heap.size + 4) 82 5 (.slice (some ⟨g5, 0, none⟩) k cap5) k (rowG F k) := by
        rw [← hWF]
        exact own_other (own_other (own_other (own_other (own_other (own_other (own_other (own_other hO2 (by omega)) (by omega)) (by omega)) (by omega)) (by omega)) (by omega)) (by omega)) (by omega)
      have hS2 := RK.out w2 _ hR
      have hM3 : SlM WF (.slice a6 n6 e6) (shM k sh false M) := by
        rw [← hWF]
        refine slm_set (slm_set (slm_set (slm_set (slm_set (slm_set (slm_set (slm_set hS2 ?_) ?_) ?_) ?_) ?_) ?_) ?_) ?_
        all_goals intro p n' c' h
        all_goals have := hbl p n' c' h
        all_goals omega
      have hl := run_loadVar_mid (P := Tryz.prog) _ (w.heap.size + 1 + 1) 0 40 [.int .i64 id, .int .i64 c, .int .i64 r, .int .i64 m, .int .i64 s, .slice (some ⟨g5, 0, none⟩) k cap5, .slice a6 n6 e6] _ (range_of hf) Tryz.underlying40 rfl (by kernel_rfl)
      refine bodyPost_ret (results_cell (fn := Tryz.f31) rfl _ (by rfl) hl) rfl ?_
      exact ⟨_, _, rfl, hO3, hM3, fun p n' c' h => (by have := hbl p n' c' h; omega), hb3⟩

set_option maxRecDepth 100000 in
set_option maxHeartbeats 8000000 in
theorem reset50_T (id c r m s : Int) (vg vm : Value) (G : List G5) (M : List M3) (sh : Nat) (w : World) (hG : SlG w vg G) (hM : SlM w vm M) (hok : vP id c r m s G M = true) (hs : vset sh G.length = true) :
    Calls Tryz.prog 31 #[pcs id c r m s vg vm, st sh true] w fun e w' => ∃ vg' vm', e = .returned (pcs id r c m s vg' vm') ∧ w'.ownsRow (w.heap.size + 4) 82 5 vg' G.length (rowG (fun x => lay G G.length sh true x) G.length) ∧ SlM w' vm' (shM G.length sh true M) ∧ Fr w.heap.size vm' ∧ Below w.heap.size w w' := by
  obtain ⟨hvg, hvm⟩ := vP_marks hok
  obtain ⟨g3, g24, -⟩ := vGs_ok hvg
  have hh := hs
  simp only [vset, Bool.and_eq_true, decide_eq_true_eq] at hh
  have hsl : sh < G.length := by omega
  obtain ⟨ag, gcap, hvs⟩ := hG.shape
  have CL := Lib.hid (fun (k : Nat) (hk : k < G.length) W (hW : Below w.heap.size w W) => laidOn_any vg G sh k true W (hG.keep hW) g24 g3 hsl hk)
  have CR := Lib.hid (show ∀ W, Below w.heap.size w W → Calls Tryz.prog 32 #[pcs id c r m s vg vm, st sh true] W fun e w' => ∃ v', e = .returned v' ∧ SlM w' v' (shM G.length sh true M) ∧ Below W.heap.size W w' ∧ ∀ a n c, v' = .slice (some a) n c → W.heap.size ≤ a.block from fun W hW => by
    have := resetMarks_any id c r m s ag G.length gcap vm M sh true W (hM.keep hW) hs hvm
    rwa [← hvs] at this)
  obtain ⟨F, hF⟩ : ∃ F : Nat → G5, F = fun x => lay G G.length sh true x := ⟨_, rfl⟩
  have CL' := Lib.hid (show ∀ k, k < G.length → ∀ W, Below w.heap.size w W → Calls Tryz.prog 60 #[vg, st sh true, .int .i64 k] W fun e w' => e = .returned (gg (F k).a (F k).b (F k).c (F k).d (F k).e) ∧ Below W.heap.size W w' from fun k hk W hW => by
    have := CL.out k hk W hW
    rw [hF]
    exact this)
  rw [← hF]
  obtain ⟨R, hR⟩ : ∃ R : World → Value → Prop, R = fun W v => SlM W v (shM G.length sh true M) := ⟨_, rfl⟩
  have CR' := Lib.hid (show ∀ W, Below w.heap.size w W → Calls Tryz.prog 32 #[pcs id c r m s vg vm, st sh true] W fun e w' => ∃ a n c, e = .returned (.slice a n c) ∧ R w' (.slice a n c) ∧ Below W.heap.size W w' ∧ ∀ p n' c', Value.slice a n c = .slice (some p) n' c' → W.heap.size ≤ p.block from fun W hW => by
    refine (CR.out W hW).mono ?_
    rintro e w' ⟨v', h1, h2, h4, h5⟩
    obtain ⟨a, c, rfl, -⟩ := _root_.id h2
    rw [hR]
    exact ⟨a, _, c, h1, h2, h4, h5⟩)
  have RK := Lib.hid (show ∀ W v, R W v → SlM W v (shM G.length sh true M) from fun W v h => by
    rw [hR] at h
    exact h)
  subst hvs
  obtain ⟨am, mcap, hms, -, -⟩ := hM
  subst hms
  clear CL CR hF hR hG hok hs hvg hvm hh hsl
  obtain ⟨n, hn⟩ : ∃ n, G.length = n := ⟨_, rfl⟩
  obtain ⟨q, hq⟩ : ∃ q, M.length = q := ⟨_, rfl⟩
  rw [hn] at CL' CR' RK g3 g24 ⊢
  rw [hq] at CR' ⊢
  clear hn hq
  have hP := PcSt.new w id c r m s (.slice ag n gcap) (.slice am q mcap) sh true
  obtain ⟨W0, hW0⟩ : ∃ W0, ((w.alloc (pcsObj id c r m s (.slice ag n gcap) (.slice am q mcap))).alloc (stObj sh true)).alloc (.cells #[.int .i64 0, .int .i64 0, .int .i64 0, .int .i64 0, .int .i64 0, .slice none 0 0, .slice none 0 0] 40) = W0 := ⟨_, rfl⟩
  have hP0 : PcSt w W0 id c r m s (.slice ag n gcap) (.slice am q mcap) sh true := by rw [← hW0]; exact hP.keep ((Below.refl _ _).alloc (Nat.le_refl _) _)
  have hs0 : W0.heap.size = w.heap.size + 3 := by rw [← hW0]; simp
  have hI0 : RsI w (W0.alloc (.cells #[.int .i64 id, .int .i64 r, .int .i64 c, .int .i64 m, .int .i64 s, .slice none 0 0, .slice am q mcap] 40)) id c r m s (.slice ag n gcap) (.slice am q mcap) sh true r c (.slice none 0 0) := by
    refine ⟨hP0.keep ((Below.refl _ _).alloc (Nat.le_refl _) _), ?_, ?_⟩
    · rw [alloc_heap_old _ _ (by omega), ← hW0]
      have := alloc_heap_new ((w.alloc (pcsObj id c r m s (.slice ag n gcap) (.slice am q mcap))).alloc (stObj sh true)) (.cells #[.int .i64 0, .int .i64 0, .int .i64 0, .int .i64 0, .int .i64 0, .slice none 0 0, .slice none 0 0] 40)
      rw [World.size_alloc, World.size_alloc] at this
      exact this
    · rw [← hs0]; exact alloc_heap_new _ _
  obtain ⟨-, -, c0, c1, c2, c3, c4, c5, c6, s0, s1⟩ := _root_.id hP0
  clear hP hP0
  go_enter Tryz.func31, Tryz.ntmps31
  go_wp2_with fail
  go_region
  simp only [Exit.then]
  go_at_K
  go_wp2_with fail
  clear hW0 c0 c1 c2 c3 c4 c5 c6 s0 s1
  generalize W0.alloc (.cells #[.int .i64 id, .int .i64 r, .int .i64 c, .int .i64 m, .int .i64 s, .slice none 0 0, .slice am q mcap] 40) = W1 at hI0 ⊢
  clear hs0 W0
  go_loopw [20] (fun i wr => ∃ k : Nat, k ≤ n ∧ i = .int .i64 k ∧ ∃ sv, RsI w wr id c r m s (.slice ag n gcap) (.slice am q mcap) sh true r c sv ∧ wr.ownsRow (w.heap.size + 4) 82 5 sv k (rowG F k)) (fun i _ => n - (intOf i).toNat)
  case atStart => exact ⟨0, Nat.zero_le _, rfl, _, hI0.keep ((Below.refl _ _).drew), World.ownsRow_nil _ _ _ _⟩
  case round =>
    clear hI0 W1
    obtain ⟨k, hk, rfl, sv, hI, hown⟩ := hrel
    by_cases hlt : k < n
    · have j1 : (k : Int) < (n : Int) := by omega
      have CLk := Lib.hid (CL'.out k hlt)
      have hlt8 : ∀ g, sv.ownBlock = some g → g < wr.heap.size := fun g h => (hown.lt g h).2
      have HW := Lib.hid hI.siz
      go_wp2_with fail
      refine wp_region_valsR 10 (RsV w (.slice ag n gcap) sh true sv F k) (RsR (w.heap.size + 4) sv) (RsG w id c r m s (.slice ag n gcap) (.slice am q mcap) sh true r c sv F k wr.heap.size) (by kernel_rfl) (by kernel_rfl) ?_ ?_ ?_ ?_ ?_
      · exact ⟨hI.keep ((Below.refl _ _).drew), fun _ => own_keep hown ((Below.refl _ _).drew), by simp⟩
      · intro listed j W W' hsz _ _ hg hR
        exact hg.step (by rw [hsz]; simp) hR
      · intro listed i j v W W' hi hj hij hanc _ hv _ hR
        refine hv.step (fun h8 => ?_) hR
        subst h8
        have hj' : j = 0 ∨ j = 1 ∨ j = 2 ∨ j = 3 ∨ j = 4 ∨ j = 5 ∨ j = 6 ∨ j = 7 ∨ j = 9 := by omega
        rcases hj' with rfl | rfl | rfl | rfl | rfl | rfl | rfl | rfl | rfl
        all_goals first
          | rfl
          | (have h2 : false = true := hanc.symm.trans (by kernel_rfl)
             cases h2)
      · simp only [List.take_succ_cons, List.take_zero]
        intro i o ho listed a' W hli hGd hfr hdep
        have f2 : a'.tmps[2]?.getD undef = .pointer (some ⟨w.heap.size, 0, none⟩) := Array.getD_eq_getD_getElem?.symm.trans (hfr 2 rfl)
        have f3 : a'.tmps[3]?.getD undef = .pointer (some ⟨w.heap.size + 1, 0, none⟩) := Array.getD_eq_getD_getElem?.symm.trans (hfr 3 rfl)
        have f5 : a'.tmps[5]?.getD undef = .pointer (some ⟨w.heap.size + 3, 0, none⟩) := Array.getD_eq_getD_getElem?.symm.trans (hfr 5 rfl)
        have f6 : a'.tmps[6]?.getD undef = .int .i64 k := Array.getD_eq_getD_getElem?.symm.trans (hfr 6 rfl)
        obtain ⟨hIw, hO, hX⟩ := hGd
        have c5 := hIw.ps.c5
        have s0 := hIw.ps.s0
        have s1 := hIw.ps.s1
        have q5 : W.cell? ⟨w.heap.size + 3, 5, none⟩ = some sv := cell_of hIw.box rfl
        clear hfr
        have hi : i < 10 := by have := (List.getElem?_eq_some_iff.1 ho).1; simpa using this
        obtain rfl | rfl | rfl | rfl | rfl | rfl | rfl | rfl | rfl | rfl : i = 0 ∨ i = 1 ∨ i = 2 ∨ i = 3 ∨ i = 4 ∨ i = 5 ∨ i = 6 ∨ i = 7 ∨ i = 8 ∨ i = 9 := by omega
        all_goals simp only [List.getElem?_cons_zero, List.getElem?_cons_succ, Option.some.injEq] at ho
        all_goals subst ho
        · clear hdep
          refine .inl ⟨_, W, ?_, rsR_refl (by omega), rfl⟩
          go_simp
        · have d0 : a'.tmps[23]?.getD undef = .pointer (some ⟨w.heap.size + 3, 5, none⟩) := Array.getD_eq_getD_getElem?.symm.trans (hdep ⟨0, .data⟩ (by simp) rfl 23 rfl)
          clear hdep
          refine .inl ⟨_, W, ?_, rsR_refl (by omega), rfl⟩
          go_simp
        · clear hdep
          refine .inl ⟨_, W, ?_, rsR_refl (by omega), rfl⟩
          go_simp
        · have d2 : a'.tmps[25]?.getD undef = .pointer (some ⟨w.heap.size, 5, none⟩) := Array.getD_eq_getD_getElem?.symm.trans (hdep ⟨2, .data⟩ (by simp) rfl 25 rfl)
          clear hdep
          refine .inl ⟨_, W, ?_, rsR_refl (by omega), rfl⟩
          go_simp
        · clear hdep
          refine .inl ⟨_, W, ?_, rsR_refl (by omega), rfl⟩
          go_simp
        · clear hdep
          refine .inl ⟨_, W, ?_, rsR_refl (by omega), rfl⟩
          go_simp
        · have d3 : a'.tmps[26]?.getD undef = .slice ag n gcap := Array.getD_eq_getD_getElem?.symm.trans (hdep ⟨3, .data⟩ (by simp) rfl 26 rfl)
          have d4 : a'.tmps[27]?.getD undef = st sh true := Array.getD_eq_getD_getElem?.symm.trans (hdep ⟨4, .data⟩ (by simp) rfl 27 rfl)
          have d5 : a'.tmps[28]?.getD undef = .int .i64 k := Array.getD_eq_getD_getElem?.symm.trans (hdep ⟨5, .data⟩ (by simp) rfl 28 rfl)
          clear hdep
          refine .inr ⟨60, #[.slice ag n gcap, st sh true, .int .i64 k], ?_, (CLk.out W hIw.ps.bel).mono ?_⟩
          · go_simp
          · rintro e W' ⟨rfl, hb⟩
            exact ⟨_, rfl, rsR_below (by omega) (by omega) hb, rfl⟩
        · have d6 : a'.tmps[29]?.getD undef = gg (F k).a (F k).b (F k).c (F k).d (F k).e := Array.getD_eq_getD_getElem?.symm.trans (hdep ⟨6, .data⟩ (by simp) rfl 29 rfl)
          clear hdep
          refine .inl ⟨.slice (some ⟨W.heap.size, 0, none⟩) 1 1, W.alloc (.cells #[.int .i64 (F k).a, .int .i64 (F k).b, .int .i64 (F k).c, .int .i64 (F k).d, .int .i64 (F k).e] 82), ?_, rsR_below (by omega) (by omega) ((Below.refl _ _).alloc (Nat.le_refl _) _), W.heap.size, rfl, by simp, fun h => ?_, alloc_heap_new _ _⟩
          · go_simp
          · have := hlt8 _ h
            omega
        · have d1 : a'.tmps[24]?.getD undef = sv := Array.getD_eq_getD_getElem?.symm.trans (hdep ⟨1, .data⟩ (by simp) rfl 24 rfl)
          obtain ⟨g, hv7, hg1, hg2, hg3⟩ := hdep ⟨7, .data⟩ (by simp) rfl 30 rfl
          have d7 : a'.tmps[30]?.getD undef = .slice (some ⟨g, 0, none⟩) 1 1 := Array.getD_eq_getD_getElem?.symm.trans hv7
          clear hdep
          have hO' := hO hli
          obtain ⟨v', W', h1, h2, h3⟩ := run_append_gauge 31 hO' (by omega) hIw.siz hg3
          refine .inl ⟨v', W', ?_, rsR_app h3 hIw.siz (fun j hj => (hO'.lt j hj).1), h2⟩
          simp only [execOp, resolve, invoke, builtin, Sem.run_bind, Sem.run_pure, Result.andThen_ok, List.map_toArray, List.map_cons, List.map_nil, Act.eval, Array.getD_eq_getD_getElem?, d1, d7, h1]
        · clear hdep
          refine .inl ⟨_, W, ?_, rsR_refl (by omega), rfl⟩
          go_simp
      · intro listed W hle hGd
        subst hle
        simp only [List.take_succ_cons, List.take_zero, List.map_cons, List.map_nil, VQ]
        rintro _ rfl v1 hv1 _ rfl _ rfl _ rfl _ rfl _ rfl _ ⟨g, rfl, -⟩ v8 hv8 _ rfl
        rw [hv1]
        clear hv1 v1
        simp only [List.setIfInBounds_toArray, List.set_cons_zero, List.set_cons_succ, List.length_cons, List.length_nil, Nat.reduceAdd, Nat.reduceSub, ledList, List.replicate, List.cons_append, List.nil_append]
        obtain ⟨hIw, -, -⟩ := hGd
        have q5 : W.cell? ⟨w.heap.size + 3, 5, none⟩ = some sv := cell_of hIw.box rfl
        have z5 : W.frozen? ⟨w.heap.size + 3, 5, none⟩ = false := frozen_of hIw.box
        have hI5 := hIw.set5 v8
        have hO5 : (W.setCell ⟨w.heap.size + 3, 5, none⟩ v8).ownsRow (w.heap.size + 4) 82 5 v8 (k + 1) (rowG F (k + 1)) := own_other hv8 (by omega)
        obtain ⟨g8, cap8, rfl⟩ := own_slice hv8 (by omega)
        clear hIw hv8 hI hown hlt8
        refine wpAny_ready (rs := [10]) (by kernel_rfl) (by simp) (AllReady.cons rfl (fun K hK => ?_) AllReady.nil)
        simp only [List.getElem_toArray, List.getElem_cons_succ, List.getElem_cons_zero]
        rw [if_pos (show Region.wanted _ _ = true from rfl)]
        have HK := Lib.hid hK
        clear hK
        go_wp2_with fail
        refine HK.out _ _ ?_
        clear HK K
        refine wpAny_done (by kernel_rfl) ?_ _
        simp only [Exit.inBlock, Exit.then]
        go_at_K
        go_wp2
        exact ⟨⟨k + 1, by omega, by simp, _, hI5, hO5⟩, by simp [intOf]; omega⟩
    · obtain rfl : k = n := by omega
      have CRw := CR'.out wr hI.ps.bel
      obtain ⟨c0, c1, c2, c3, c4, c5, c6, s0, s1⟩ := And.intro hI.ps.c0 (And.intro hI.ps.c1 (And.intro hI.ps.c2 (And.intro hI.ps.c3 (And.intro hI.ps.c4 (And.intro hI.ps.c5 (And.intro hI.ps.c6 (And.intro hI.ps.s0 hI.ps.s1)))))))
      go_wp2_with fail
      refine CRw.mono ?_
      rintro e w2 ⟨a6, n6, e6, rfl, hR, hb2, hbl⟩
      have hsw := hI.siz
      obtain ⟨g5, cap5, rfl⟩ := own_slice hown (by omega)
      have hI2 := hI.keep hb2
      have hO2 := own_keep hown hb2
      have b2 := hI2.ps.bel
      have hres := hI2.res
      have x0 : w2.cell? ⟨w.heap.size + 3, 0, none⟩ = some (.int .i64 id) := cell_of hI2.box rfl
      have x1 : w2.cell? ⟨w.heap.size + 3, 1, none⟩ = some (.int .i64 r) := cell_of hI2.box rfl
      have x2 : w2.cell? ⟨w.heap.size + 3, 2, none⟩ = some (.int .i64 c) := cell_of hI2.box rfl
      have x3 : w2.cell? ⟨w.heap.size + 3, 3, none⟩ = some (.int .i64 m) := cell_of hI2.box rfl
      have x4 : w2.cell? ⟨w.heap.size + 3, 4, none⟩ = some (.int .i64 s) := cell_of hI2.box rfl
      have x5 : w2.cell? ⟨w.heap.size + 3, 5, none⟩ = some (.slice (some ⟨g5, 0, none⟩) k cap5) := cell_of hI2.box rfl
      have x6 : w2.cell? ⟨w.heap.size + 3, 6, none⟩ = some (.slice am q mcap) := cell_of hI2.box rfl
      have y6 : w2.frozen? ⟨w.heap.size + 3, 6, none⟩ = false := frozen_of hI2.box
      have z0 : w2.cell? ⟨w.heap.size + 2, 0, none⟩ = some (.int .i64 0) := cell_of hI2.res rfl
      have z1 : w2.cell? ⟨w.heap.size + 2, 1, none⟩ = some (.int .i64 0) := cell_of hI2.res rfl
      have z2 : w2.cell? ⟨w.heap.size + 2, 2, none⟩ = some (.int .i64 0) := cell_of hI2.res rfl
      have z3 : w2.cell? ⟨w.heap.size + 2, 3, none⟩ = some (.int .i64 0) := cell_of hI2.res rfl
      have z4 : w2.cell? ⟨w.heap.size + 2, 4, none⟩ = some (.int .i64 0) := cell_of hI2.res rfl
      have z5 : w2.cell? ⟨w.heap.size + 2, 5, none⟩ = some (.slice none 0 0) := cell_of hI2.res rfl
      have z6 : w2.cell? ⟨w.heap.size + 2, 6, none⟩ = some (.slice none 0 0) := cell_of hI2.res rfl
      have y0 : w2.frozen? ⟨w.heap.size + 2, 0, none⟩ = false := frozen_of hI2.res
      have t1 : w2.frozen? ⟨w.heap.size + 2, 1, none⟩ = false := frozen_of hI2.res
      have t2 : w2.frozen? ⟨w.heap.size + 2, 2, none⟩ = false := frozen_of hI2.res
      have t3 : w2.frozen? ⟨w.heap.size + 2, 3, none⟩ = false := frozen_of hI2.res
      have t4 : w2.frozen? ⟨w.heap.size + 2, 4, none⟩ = false := frozen_of hI2.res
      have t5 : w2.frozen? ⟨w.heap.size + 2, 5, none⟩ = false := frozen_of hI2.res
      have t6 : w2.frozen? ⟨w.heap.size + 2, 6, none⟩ = false := frozen_of hI2.res
      clear c0 c1 c2 c3 c4 c5 c6 s0 s1 hI hown CRw hI2
      go_wp2_with fail
      obtain ⟨WF, hWF⟩ : ∃ WF, (((((((w2.setCell ⟨w.heap.size + 3, 6, none⟩ (.slice a6 n6 e6)).setCell ⟨w.heap.size + 1 + 1, 0, none⟩ (.int .i64 id)).setCell ⟨w.heap.size + 1 + 1, 1, none⟩ (.int .i64 r)).setCell ⟨w.heap.size + 1 + 1, 2, none⟩ (.int .i64 c)).setCell ⟨w.heap.size + 1 + 1, 3, none⟩ (.int .i64 m)).setCell ⟨w.heap.size + 1 + 1, 4, none⟩ (.int .i64 s)).setCell ⟨w.heap.size + 1 + 1, 5, none⟩ (.slice (some ⟨g5, 0, none⟩) k cap5)).setCell ⟨w.heap.size + 1 + 1, 6, none⟩ (.slice a6 n6 e6) = WF := ⟨_, rfl⟩
      rw [hWF]
      have hf : WF.heap[w.heap.size + 1 + 1]? = some (.cells #[.int .i64 id, .int .i64 r, .int .i64 c, .int .i64 m, .int .i64 s, .slice (some ⟨g5, 0, none⟩) k cap5, .slice a6 n6 e6] 40 (0, 0)) := by
        rw [← hWF]
        exact res_set hres (by omega)
      have hb3 : Below w.heap.size w WF := by
        rw [← hWF]
        exact (((((((b2.setCell (p := ⟨w.heap.size + 3, 6, none⟩) (by simp) _).setCell (p := ⟨w.heap.size + 1 + 1, 0, none⟩) (by simp; omega) _).setCell (p := ⟨w.heap.size + 1 + 1, 1, none⟩) (by simp; omega) _).setCell (p := ⟨w.heap.size + 1 + 1, 2, none⟩) (by simp; omega) _).setCell (p := ⟨w.heap.size + 1 + 1, 3, none⟩) (by simp; omega) _).setCell (p := ⟨w.heap.size + 1 + 1, 4, none⟩) (by simp; omega) _).setCell (p := ⟨w.heap.size + 1 + 1, 5, none⟩) (by simp; omega) _).setCell (p := ⟨w.heap.size + 1 + 1, 6, none⟩) (by simp; omega) _
      have hO3 : WF.ownsRow (w.heap.size + 4) 82 5 (.slice (some ⟨g5, 0, none⟩) k cap5) k (rowG F k) := by
        rw [← hWF]
        exact own_other (own_other (own_other (own_other (own_other (own_other (own_other (own_other hO2 (by omega)) (by omega)) (by omega)) (by omega)) (by omega)) (by omega)) (by omega)) (by omega)
      have hS2 := RK.out w2 _ hR
      have hM3 : SlM WF (.slice a6 n6 e6) (shM k sh true M) := by
        rw [← hWF]
        refine slm_set (slm_set (slm_set (slm_set (slm_set (slm_set (slm_set (slm_set hS2 ?_) ?_) ?_) ?_) ?_) ?_) ?_) ?_
        all_goals intro p n' c' h
        all_goals have := hbl p n' c' h
        all_goals omega
      have hl := run_loadVar_mid (P := Tryz.prog) _ (w.heap.size + 1 + 1) 0 40 [.int .i64 id, .int .i64 r, .int .i64 c, .int .i64 m, .int .i64 s, .slice (some ⟨g5, 0, none⟩) k cap5, .slice a6 n6 e6] _ (range_of hf) Tryz.underlying40 rfl (by kernel_rfl)
      refine bodyPost_ret (results_cell (fn := Tryz.f31) rfl _ (by rfl) hl) rfl ?_
      exact ⟨_, _, rfl, hO3, hM3, fun p n' c' h => (by have := hbl p n' c' h; omega), hb3⟩

end Go.Proofs.YtkmcboincjohlaaGreat
