/- The abstract machine, part SB. -/
import Derived.Test.YtiommdfelnkibaaGreatSA
import Derived.Test.YtiommdfelnkibaaGreatLF
import Derived.Test.YtiommdfelnkibaaGreatT9
import Derived.Test.YtiommdfelnkibaaGreatLP
import Derived.Test.YtiommdfelnkibaaGreatH0
import Derived.Test.YtiommdfelnkibaaGreatRG
/- Walks: shared and common of the program. -/
namespace Go.Proofs.YtiommdfelnkibaaGreat
open Go Go.RowKit Go.Proofs Go.Abs

set_option maxRecDepth 100000 in
set_option maxHeartbeats 2000000 in
theorem shared_any (a b c d : Int) (w : World) :
    Calls Tryz.prog 108 #[spn a b, spn c d] w fun e w' => e = .returned (spn (max a c) (min b d)) ∧ Below w.heap.size w w' := by
  obtain ⟨W0, hW0⟩ : ∃ W0, ((w.alloc (spnObj a b)).alloc (spnObj c d)).alloc (.cells #[.int .i64 0, .int .i64 0] 81) = W0 := ⟨_, rfl⟩
  have s0 : Sp W0 w.heap.size a b := by rw [← hW0]; exact ((Sp.new w a b).alloc _).alloc _
  have s1 : Sp W0 (w.heap.size + 1) c d := by
    rw [← hW0]
    have := (Sp.new (w.alloc (spnObj a b)) c d).alloc (.cells #[.int .i64 0, .int .i64 0] 81)
    rwa [World.size_alloc] at this
  have s2 : Sp W0 (w.heap.size + 1 + 1) 0 0 := by
    rw [← hW0]
    have := Sp.new ((w.alloc (spnObj a b)).alloc (spnObj c d)) 0 0
    rwa [World.size_alloc, World.size_alloc] at this
  have bb : Below w.heap.size w W0 := by rw [← hW0]; exact (((Below.refl _ _).alloc (Nat.le_refl _) _).alloc (by simp) _).alloc (by simp; omega) _
  have d0 := s0.c0
  have d1 := s0.c1
  have e0 := s1.c0
  have e1 := s1.c1
  have f0 := s2.c0
  have f1 := s2.c1
  have z0 := s2.f 0
  have z1 := s2.f 1
  go_enter Tryz.func108, Tryz.ntmps108
  go_wp2_with fail
  refine bodyPost_ret (results_cell (p := ⟨w.heap.size + 1 + 1, 0, none⟩) rfl _ rfl (Sp.load (s2.set _ _))) rfl ⟨rfl, ?_⟩
  exact (bb.setCell (p := ⟨w.heap.size + 1 + 1, 0, none⟩) (by simp; omega) _).setCell (p := ⟨w.heap.size + 1 + 1, 1, none⟩) (by simp; omega) _

theorem resG {W : World} {N : Nat} {a0 a1 a2 a3 a4 b0 b1 b2 b3 b4 : Value} (h : W.heap[N]? = some (.cells #[a0, a1, a2, a3, a4] 83 (0, 0))) :
    (((((W.setCell ⟨N, 0, none⟩ b0).setCell ⟨N, 1, none⟩ b1).setCell ⟨N, 2, none⟩ b2).setCell ⟨N, 3, none⟩ b3).setCell ⟨N, 4, none⟩ b4).heap[N]? = some (.cells #[b0, b1, b2, b3, b4] 83 (0, 0)) := by
  unfold World.setCell
  simp only [Array.getElem?_modify, if_true, h, Option.map_some]
  rfl

/-- What the operations of common yield. -/
def ComV (g h : G5) (ce : Int) (B : Nat) : Nat → Value → World → Prop
  | 0, v, _ => v = .pointer (some ⟨B, 0, none⟩)
  | 1, v, _ => v = spn g.a g.b
  | 2, v, _ => v = .pointer (some ⟨B + 1, 0, none⟩)
  | 3, v, _ => v = spn h.a h.b
  | 4, v, _ => v = spn (max g.a h.a) (min g.b h.b)
  | 5, v, _ => v = .pointer (some ⟨B, 2, none⟩)
  | 6, v, _ => v = spn g.c g.d
  | 7, v, _ => v = .pointer (some ⟨B + 1, 2, none⟩)
  | 8, v, _ => v = spn h.c h.d
  | 9, v, _ => v = spn (max g.c h.c) (min g.d h.d)
  | 10, v, _ => v = .pointer (some ⟨B, 4, none⟩)
  | 11, v, _ => v = .int .i64 g.e
  | 12, v, _ => v = .pointer (some ⟨B + 1, 4, none⟩)
  | 13, v, _ => v = .int .i64 h.e
  | 14, v, W => ∃ p, v = .slice (some ⟨p, 0, none⟩) 2 2 ∧ W.cell? ⟨p, 0, none⟩ = some (.int .i64 g.e) ∧ W.cell? ⟨p, 1, none⟩ = some (.int .i64 h.e)
  | 15, v, _ => v = .int .i64 ce
  | _, v, _ => v = gg (max g.a h.a) (min g.b h.b) (max g.c h.c) (min g.d h.d) ce

theorem ComV.keep {g h : G5} {ce : Int} {B : Nat} : ∀ i v W W', ComV g h ce B i v W → Below W.heap.size W W' → ComV g h ce B i v W'
  | 0, _, _, _, h, _ => h
  | 1, _, _, _, h, _ => h
  | 2, _, _, _, h, _ => h
  | 3, _, _, _, h, _ => h
  | 4, _, _, _, h, _ => h
  | 5, _, _, _, h, _ => h
  | 6, _, _, _, h, _ => h
  | 7, _, _, _, h, _ => h
  | 8, _, _, _, h, _ => h
  | 9, _, _, _, h, _ => h
  | 10, _, _, _, h, _ => h
  | 11, _, _, _, h, _ => h
  | 12, _, _, _, h, _ => h
  | 13, _, _, _, h, _ => h
  | 14, _, _, _, ⟨p, h1, h2, h3⟩, hb => ⟨p, h1, keep_cell hb h2, keep_cell hb h3⟩
  | 15, _, _, _, h, _ => h
  | _ + 16, _, _, _, h, _ => h

set_option maxRecDepth 100000 in
set_option maxHeartbeats 4000000 in
theorem common_any (g h : G5) (w : World) :
    Calls Tryz.prog 58 #[gg g.a g.b g.c g.d g.e, gg h.a h.b h.c h.d h.e] w fun e w' => e = .returned (gg (comG g h).a (comG g h).b (comG g h).c (comG g h).d (comG g h).e) ∧ Below w.heap.size w w' := by
  obtain ⟨W0, hW0⟩ : ∃ W0, ((w.alloc (.cells #[.int .i64 g.a, .int .i64 g.b, .int .i64 g.c, .int .i64 g.d, .int .i64 g.e] 83)).alloc (.cells #[.int .i64 h.a, .int .i64 h.b, .int .i64 h.c, .int .i64 h.d, .int .i64 h.e] 83)).alloc (.cells #[.int .i64 0, .int .i64 0, .int .i64 0, .int .i64 0, .int .i64 0] 83) = W0 := ⟨_, rfl⟩
  have x0 : W0.heap[w.heap.size]? = some (.cells #[.int .i64 g.a, .int .i64 g.b, .int .i64 g.c, .int .i64 g.d, .int .i64 g.e] 83) := by
    rw [← hW0]; exact (alloc_heap_old _ _ (by simp; omega)).trans ((alloc_heap_old _ _ (by simp)).trans (alloc_heap_new _ _))
  have x1 : W0.heap[w.heap.size + 1]? = some (.cells #[.int .i64 h.a, .int .i64 h.b, .int .i64 h.c, .int .i64 h.d, .int .i64 h.e] 83) := by
    rw [← hW0]
    have := alloc_heap_new (w.alloc (.cells #[.int .i64 g.a, .int .i64 g.b, .int .i64 g.c, .int .i64 g.d, .int .i64 g.e] 83)) (.cells #[.int .i64 h.a, .int .i64 h.b, .int .i64 h.c, .int .i64 h.d, .int .i64 h.e] 83)
    rw [World.size_alloc] at this
    exact (alloc_heap_old _ _ (by simp)).trans this
  have x2 : W0.heap[w.heap.size + 2]? = some (.cells #[.int .i64 0, .int .i64 0, .int .i64 0, .int .i64 0, .int .i64 0] 83) := by
    rw [← hW0]
    have := alloc_heap_new ((w.alloc (.cells #[.int .i64 g.a, .int .i64 g.b, .int .i64 g.c, .int .i64 g.d, .int .i64 g.e] 83)).alloc (.cells #[.int .i64 h.a, .int .i64 h.b, .int .i64 h.c, .int .i64 h.d, .int .i64 h.e] 83)) (.cells #[.int .i64 0, .int .i64 0, .int .i64 0, .int .i64 0, .int .i64 0] 83)
    rwa [World.size_alloc, World.size_alloc] at this
  have bb : Below w.heap.size w W0 := by rw [← hW0]; exact (((Below.refl _ _).alloc (Nat.le_refl _) _).alloc (by simp) _).alloc (by simp; omega) _
  have HCO := Lib.hid (fun W p (p0 : W.cell? ⟨p, 0, none⟩ = some (.int .i64 g.e)) (p1 : W.cell? ⟨p, 1, none⟩ = some (.int .i64 h.e)) => or2_any g.e h.e W p 2 p0 p1)
  change Calls Tryz.prog 58 _ w fun e w' => e = .returned (gg (max g.a h.a) (min g.b h.b) (max g.c h.c) (min g.d h.d) (if g.e = 0 then h.e else g.e)) ∧ Below w.heap.size w w'
  generalize (if g.e = 0 then h.e else g.e) = ce at HCO ⊢
  go_enter Tryz.func58, Tryz.ntmps58
  go_wp2_with fail
  clear hW0
  refine wp_region_valsT 17 (ComV g h ce w.heap.size) (by kernel_rfl) (by kernel_rfl) ComV.keep ?_ ?_
  · simp only [List.take_succ_cons, List.take_zero]
    intro i o ho a' W hW hfr hdep
    have f2 : a'.tmps[2]?.getD undef = .pointer (some ⟨w.heap.size, 0, none⟩) := Array.getD_eq_getD_getElem?.symm.trans (hfr 2 rfl)
    have f3 : a'.tmps[3]?.getD undef = .pointer (some ⟨w.heap.size + 1, 0, none⟩) := Array.getD_eq_getD_getElem?.symm.trans (hfr 3 rfl)
    have y0 := (hW.block _ (Array.getElem?_eq_some_iff.1 x0).1).trans x0
    have y1 := (hW.block _ (Array.getElem?_eq_some_iff.1 x1).1).trans x1
    clear hfr
    have hi : i < 17 := by have := (List.getElem?_eq_some_iff.1 ho).1; simpa using this
    obtain rfl | rfl | rfl | rfl | rfl | rfl | rfl | rfl | rfl | rfl | rfl | rfl | rfl | rfl | rfl | rfl | rfl : i = 0 ∨ i = 1 ∨ i = 2 ∨ i = 3 ∨ i = 4 ∨ i = 5 ∨ i = 6 ∨ i = 7 ∨ i = 8 ∨ i = 9 ∨ i = 10 ∨ i = 11 ∨ i = 12 ∨ i = 13 ∨ i = 14 ∨ i = 15 ∨ i = 16 := by omega
    all_goals simp only [List.getElem?_cons_zero, List.getElem?_cons_succ, Option.some.injEq] at ho
    all_goals subst ho
    · clear hdep y0 y1
      refine .inl ⟨_, W, ?_, Below.refl _ _, rfl⟩
      go_simp
    · have d0 : a'.tmps[5]?.getD undef = .pointer (some ⟨w.heap.size, 0, none⟩) := Array.getD_eq_getD_getElem?.symm.trans (hdep ⟨0, .data⟩ (by simp) rfl 5 rfl)
      have c0 : W.cell? ⟨w.heap.size, 0, none⟩ = some (.int .i64 g.a) := cell_of y0 rfl
      have c1 : W.cell? ⟨w.heap.size, 1, none⟩ = some (.int .i64 g.b) := cell_of y0 rfl
      clear hdep y0 y1
      refine .inl ⟨_, W, ?_, Below.refl _ _, rfl⟩
      go_simp
    · clear hdep y0 y1
      refine .inl ⟨_, W, ?_, Below.refl _ _, rfl⟩
      go_simp
    · have d2 : a'.tmps[7]?.getD undef = .pointer (some ⟨w.heap.size + 1, 0, none⟩) := Array.getD_eq_getD_getElem?.symm.trans (hdep ⟨2, .data⟩ (by simp) rfl 7 rfl)
      have c0 : W.cell? ⟨w.heap.size + 1, 0, none⟩ = some (.int .i64 h.a) := cell_of y1 rfl
      have c1 : W.cell? ⟨w.heap.size + 1, 1, none⟩ = some (.int .i64 h.b) := cell_of y1 rfl
      clear hdep y0 y1
      refine .inl ⟨_, W, ?_, Below.refl _ _, rfl⟩
      go_simp
    · have d1 : a'.tmps[6]?.getD undef = spn g.a g.b := Array.getD_eq_getD_getElem?.symm.trans (hdep ⟨1, .data⟩ (by simp) rfl 6 rfl)
      have d3 : a'.tmps[8]?.getD undef = spn h.a h.b := Array.getD_eq_getD_getElem?.symm.trans (hdep ⟨3, .data⟩ (by simp) rfl 8 rfl)
      clear hdep y0 y1
      refine .inr ⟨108, #[spn g.a g.b, spn h.a h.b], W, ?_, Below.refl _ _, (shared_any g.a g.b h.a h.b W).mono ?_⟩
      · go_simp
      · rintro e W' ⟨rfl, hb⟩
        exact ⟨_, rfl, hb, rfl⟩
    · clear hdep y0 y1
      refine .inl ⟨_, W, ?_, Below.refl _ _, rfl⟩
      go_simp
    · have d5 : a'.tmps[10]?.getD undef = .pointer (some ⟨w.heap.size, 2, none⟩) := Array.getD_eq_getD_getElem?.symm.trans (hdep ⟨5, .data⟩ (by simp) rfl 10 rfl)
      have c0 : W.cell? ⟨w.heap.size, 2, none⟩ = some (.int .i64 g.c) := cell_of y0 rfl
      have c1 : W.cell? ⟨w.heap.size, 3, none⟩ = some (.int .i64 g.d) := cell_of y0 rfl
      clear hdep y0 y1
      refine .inl ⟨_, W, ?_, Below.refl _ _, rfl⟩
      go_simp
    · clear hdep y0 y1
      refine .inl ⟨_, W, ?_, Below.refl _ _, rfl⟩
      go_simp
    · have d7 : a'.tmps[12]?.getD undef = .pointer (some ⟨w.heap.size + 1, 2, none⟩) := Array.getD_eq_getD_getElem?.symm.trans (hdep ⟨7, .data⟩ (by simp) rfl 12 rfl)
      have c0 : W.cell? ⟨w.heap.size + 1, 2, none⟩ = some (.int .i64 h.c) := cell_of y1 rfl
      have c1 : W.cell? ⟨w.heap.size + 1, 3, none⟩ = some (.int .i64 h.d) := cell_of y1 rfl
      clear hdep y0 y1
      refine .inl ⟨_, W, ?_, Below.refl _ _, rfl⟩
      go_simp
    · have d6 : a'.tmps[11]?.getD undef = spn g.c g.d := Array.getD_eq_getD_getElem?.symm.trans (hdep ⟨6, .data⟩ (by simp) rfl 11 rfl)
      have d8 : a'.tmps[13]?.getD undef = spn h.c h.d := Array.getD_eq_getD_getElem?.symm.trans (hdep ⟨8, .data⟩ (by simp) rfl 13 rfl)
      clear hdep y0 y1
      refine .inr ⟨108, #[spn g.c g.d, spn h.c h.d], W, ?_, Below.refl _ _, (shared_any g.c g.d h.c h.d W).mono ?_⟩
      · go_simp
      · rintro e W' ⟨rfl, hb⟩
        exact ⟨_, rfl, hb, rfl⟩
    · clear hdep y0 y1
      refine .inl ⟨_, W, ?_, Below.refl _ _, rfl⟩
      go_simp
    · have d10 : a'.tmps[15]?.getD undef = .pointer (some ⟨w.heap.size, 4, none⟩) := Array.getD_eq_getD_getElem?.symm.trans (hdep ⟨10, .data⟩ (by simp) rfl 15 rfl)
      have c0 : W.cell? ⟨w.heap.size, 4, none⟩ = some (.int .i64 g.e) := cell_of y0 rfl
      clear hdep y0 y1
      refine .inl ⟨_, W, ?_, Below.refl _ _, rfl⟩
      go_simp
    · clear hdep y0 y1
      refine .inl ⟨_, W, ?_, Below.refl _ _, rfl⟩
      go_simp
    · have d12 : a'.tmps[17]?.getD undef = .pointer (some ⟨w.heap.size + 1, 4, none⟩) := Array.getD_eq_getD_getElem?.symm.trans (hdep ⟨12, .data⟩ (by simp) rfl 17 rfl)
      have c0 : W.cell? ⟨w.heap.size + 1, 4, none⟩ = some (.int .i64 h.e) := cell_of y1 rfl
      clear hdep y0 y1
      refine .inl ⟨_, W, ?_, Below.refl _ _, rfl⟩
      go_simp
    · have d11 : a'.tmps[16]?.getD undef = .int .i64 g.e := Array.getD_eq_getD_getElem?.symm.trans (hdep ⟨11, .data⟩ (by simp) rfl 16 rfl)
      have d13 : a'.tmps[18]?.getD undef = .int .i64 h.e := Array.getD_eq_getD_getElem?.symm.trans (hdep ⟨13, .data⟩ (by simp) rfl 18 rfl)
      clear hdep y0 y1
      refine .inl ⟨.slice (some ⟨W.heap.size, 0, none⟩) 2 2, W.alloc (.cells #[.int .i64 g.e, .int .i64 h.e] 3), ?_, (Below.refl _ _).alloc (Nat.le_refl _) _, W.heap.size, rfl, ?_, ?_⟩
      · go_simp
      · go_simp
      · go_simp
    · obtain ⟨p, d14', p0, p1⟩ := hdep ⟨14, .data⟩ (by simp) rfl 19 rfl
      have d14 : a'.tmps[19]?.getD undef = .slice (some ⟨p, 0, none⟩) 2 2 := Array.getD_eq_getD_getElem?.symm.trans d14'
      clear hdep y0 y1
      refine .inr ⟨109, #[.slice (some ⟨p, 0, none⟩) 2 2], W, ?_, Below.refl _ _, (HCO.out W p p0 p1).mono ?_⟩
      · go_simp
      · rintro e W' ⟨rfl, rfl⟩
        exact ⟨_, rfl, Below.refl _ _, rfl⟩
    · have d4 : a'.tmps[9]?.getD undef = spn (max g.a h.a) (min g.b h.b) := Array.getD_eq_getD_getElem?.symm.trans (hdep ⟨4, .data⟩ (by simp) rfl 9 rfl)
      have d9 : a'.tmps[14]?.getD undef = spn (max g.c h.c) (min g.d h.d) := Array.getD_eq_getD_getElem?.symm.trans (hdep ⟨9, .data⟩ (by simp) rfl 14 rfl)
      have d15 : a'.tmps[20]?.getD undef = .int .i64 ce := Array.getD_eq_getD_getElem?.symm.trans (hdep ⟨15, .data⟩ (by simp) rfl 20 rfl)
      clear hdep y0 y1
      refine .inl ⟨_, W, ?_, Below.refl _ _, rfl⟩
      go_simp
  · intro W hW
    have b3 := keep_below bb hW
    have hR := (hW.block _ (Array.getElem?_eq_some_iff.1 x2).1).trans x2
    simp only [List.take_succ_cons, List.take_zero, List.map_cons, List.map_nil, VQ]
    rintro _ rfl _ rfl _ rfl _ rfl _ rfl _ rfl _ rfl _ rfl _ rfl _ rfl _ rfl _ rfl _ rfl _ rfl v14 ⟨p, rfl, -, -⟩ _ rfl _ rfl
    simp only [List.setIfInBounds_toArray, List.set_cons_zero, List.set_cons_succ, List.length_cons, List.length_nil, Nat.reduceAdd, Nat.reduceSub, ledList, List.replicate, List.cons_append, List.nil_append]
    obtain ⟨r0, r1, r2, r3, r4⟩ := And.intro (cell_of hR (k := 0) rfl) (And.intro (cell_of hR (k := 1) rfl) (And.intro (cell_of hR (k := 2) rfl) (And.intro (cell_of hR (k := 3) rfl) (cell_of hR (k := 4) rfl))))
    have q0 : W.frozen? ⟨w.heap.size + 2, 0, none⟩ = false := frozen_of hR
    have q1 : W.frozen? ⟨w.heap.size + 2, 1, none⟩ = false := frozen_of hR
    have q2 : W.frozen? ⟨w.heap.size + 2, 2, none⟩ = false := frozen_of hR
    have q3 : W.frozen? ⟨w.heap.size + 2, 3, none⟩ = false := frozen_of hR
    have q4 : W.frozen? ⟨w.heap.size + 2, 4, none⟩ = false := frozen_of hR
    clear x0 x1 x2 bb hW
    refine wpAny_ready (rs := [17]) (by kernel_rfl) (by simp) (AllReady.cons rfl (fun K hK => ?_) AllReady.nil)
    simp only [List.getElem_toArray, List.getElem_cons_succ, List.getElem_cons_zero]
    rw [if_pos (show Region.wanted _ _ = true from rfl)]
    have HK := Lib.hid hK
    clear hK
    go_wp2_with fail
    refine HK.out _ _ ?_
    clear HK K
    refine wpAny_done (by kernel_rfl) ?_ _
    simp only [Exit.then]
    go_at_K
    go_wp2
    obtain ⟨WF, hWF⟩ : ∃ WF, ((((W.setCell ⟨w.heap.size + 1 + 1, 0, none⟩ (.int .i64 (max g.a h.a))).setCell ⟨w.heap.size + 1 + 1, 1, none⟩ (.int .i64 (min g.b h.b))).setCell ⟨w.heap.size + 1 + 1, 2, none⟩ (.int .i64 (max g.c h.c))).setCell ⟨w.heap.size + 1 + 1, 3, none⟩ (.int .i64 (min g.d h.d))).setCell ⟨w.heap.size + 1 + 1, 4, none⟩ (.int .i64 ce) = WF := ⟨_, rfl⟩
    rw [hWF]
    have hf : WF.heap[w.heap.size + 1 + 1]? = some (.cells #[.int .i64 (max g.a h.a), .int .i64 (min g.b h.b), .int .i64 (max g.c h.c), .int .i64 (min g.d h.d), .int .i64 ce] 83 (0, 0)) := by
      rw [← hWF]
      exact resG hR
    have hb4 : Below w.heap.size w WF := by
      rw [← hWF]
      exact ((((b3.setCell (p := ⟨w.heap.size + 1 + 1, 0, none⟩) (by simp; omega) _).setCell (p := ⟨w.heap.size + 1 + 1, 1, none⟩) (by simp; omega) _).setCell (p := ⟨w.heap.size + 1 + 1, 2, none⟩) (by simp; omega) _).setCell (p := ⟨w.heap.size + 1 + 1, 3, none⟩) (by simp; omega) _).setCell (p := ⟨w.heap.size + 1 + 1, 4, none⟩) (by simp; omega) _
    have hl := run_loadVar_mid (P := Tryz.prog) _ (w.heap.size + 1 + 1) 0 83 [.int .i64 (max g.a h.a), .int .i64 (min g.b h.b), .int .i64 (max g.c h.c), .int .i64 (min g.d h.d), .int .i64 ce] _ (range_of hf) Tryz.underlying83 rfl (by kernel_rfl)
    refine bodyPost_ret (results_cell (fn := Tryz.f58) rfl _ (by rfl) hl) rfl ?_
    exact ⟨rfl, hb4⟩

end Go.Proofs.YtiommdfelnkibaaGreat

/- Walks: compatible. -/
namespace Go.Proofs.YtiommdfelnkibaaGreat
open Go Go.RowKit Go.Proofs Go.Abs

set_option maxRecDepth 100000 in
set_option maxHeartbeats 8000000 in
theorem compat_any (g h : G5) (w : World) :
    Calls Tryz.prog 105 #[gg g.a g.b g.c g.d g.e, gg h.a h.b h.c h.d h.e] w fun e w' => e = .returned (.bool (cmpG g h)) ∧ Below w.heap.size w w' := by
  have CC := fun W => common_any g h W
  have hc : cmpG g h = (decide ((comG g h).a ≤ (comG g h).b) && (decide ((comG g h).c ≤ (comG g h).d) && ((g.e == h.e) || ((g.e == 0) || (h.e == 0))))) := rfl
  rw [hc]
  clear hc
  generalize comG g h = k at CC ⊢
  obtain ⟨A, B, C, D, E⟩ := k
  simp only at CC ⊢
  obtain ⟨ga, gb, gc, gd, ge⟩ := g
  obtain ⟨ha, hb, hc, hd, he⟩ := h
  simp only at CC ⊢
  obtain ⟨x1, j1⟩ : ∃ x, decide (A ≤ B) = x := ⟨_, rfl⟩
  obtain ⟨x2, j2⟩ : ∃ x, decide (C ≤ D) = x := ⟨_, rfl⟩
  obtain ⟨x3, j3⟩ : ∃ x, (ge == he) = x := ⟨_, rfl⟩
  obtain ⟨x4, j4⟩ : ∃ x, (ge == 0) = x := ⟨_, rfl⟩
  obtain ⟨x5, j5⟩ : ∃ x, (he == 0) = x := ⟨_, rfl⟩
  rw [j1, j2, j3, j4, j5]
  obtain ⟨W0, hW0⟩ : ∃ W0, (w.alloc (.cells #[.int .i64 ga, .int .i64 gb, .int .i64 gc, .int .i64 gd, .int .i64 ge] 83)).alloc (.cells #[.int .i64 ha, .int .i64 hb, .int .i64 hc, .int .i64 hd, .int .i64 he] 83) = W0 := ⟨_, rfl⟩
  have y0 : W0.heap[w.heap.size]? = some (.cells #[.int .i64 ga, .int .i64 gb, .int .i64 gc, .int .i64 gd, .int .i64 ge] 83) := by
    rw [← hW0]; exact (alloc_heap_old _ _ (by simp)).trans (alloc_heap_new _ _)
  have y1 : W0.heap[w.heap.size + 1]? = some (.cells #[.int .i64 ha, .int .i64 hb, .int .i64 hc, .int .i64 hd, .int .i64 he] 83) := by
    rw [← hW0]
    have := alloc_heap_new (w.alloc (.cells #[.int .i64 ga, .int .i64 gb, .int .i64 gc, .int .i64 gd, .int .i64 ge] 83)) (.cells #[.int .i64 ha, .int .i64 hb, .int .i64 hc, .int .i64 hd, .int .i64 he] 83)
    rwa [World.size_alloc] at this
  have bb : Below w.heap.size w W0 := by rw [← hW0]; exact ((Below.refl _ _).alloc (Nat.le_refl _) _).alloc (by simp) _
  obtain ⟨p0, p1, p2, p3, p4⟩ := And.intro (cell_of y0 (k := 0) rfl) (And.intro (cell_of y0 (k := 1) rfl) (And.intro (cell_of y0 (k := 2) rfl) (And.intro (cell_of y0 (k := 3) rfl) (cell_of y0 (k := 4) rfl))))
  obtain ⟨q0, q1, q2, q3, q4⟩ := And.intro (cell_of y1 (k := 0) rfl) (And.intro (cell_of y1 (k := 1) rfl) (And.intro (cell_of y1 (k := 2) rfl) (And.intro (cell_of y1 (k := 3) rfl) (cell_of y1 (k := 4) rfl))))
  go_enter Tryz.func105, Tryz.ntmps105
  go_wp2_with fail
  refine (CC _).mono ?_
  rintro e w1 ⟨rfl, hb1⟩
  have b1 := keep_below bb hb1
  have b2 := b1.alloc b1.size (.cells #[.int .i64 A, .int .i64 B, .int .i64 C, .int .i64 D, .int .i64 E] 83)
  have bN : Below w1.heap.size w1 (w1.alloc (.cells #[.int .i64 A, .int .i64 B, .int .i64 C, .int .i64 D, .int .i64 E] 83)) := (Below.refl _ _).alloc (Nat.le_refl _) _
  replace p4 := keep_cell bN (keep_cell hb1 p4)
  replace q4 := keep_cell bN (keep_cell hb1 q4)
  clear p0 p1 p2 p3 q0 q1 q2 q3 hW0 y0 y1 CC bb b1 hb1 bN
  cases x1
  case' true => cases x2
  case' true.true => cases x3
  case' true.true.false => cases x4
  case' true.true.false.false => cases x5
  all_goals go_wp2
  all_goals (go_ret; exact ⟨rfl, b2⟩)

end Go.Proofs.YtiommdfelnkibaaGreat

/- Walks: whether lists of marks are equal, by the program (slices.Equal) and by the reference (SameMarks). -/
namespace Go.Proofs.YtiommdfelnkibaaGreat
open Go Go.RowKit Go.Proofs Go.Abs

def eq3 (M N : List M3) (k : Nat) : Bool := (mq M k).x == (mq N k).x && ((mq M k).y == (mq N k).y && (mq M k).z == (mq N k).z)

theorem run_mk_neqG (a b c x y z : Int) (w : World) : (binOp .neq 78 (mk a b c) (mk x y z)).run Tryz.prog w = .ok (.bool (!(a == x && (b == y && c == z)))) w := by
  by_cases h1 : a = x <;> by_cases h2 : b = y <;> by_cases h3 : c = z <;> go_simp

theorem eqM_len {M N : List M3} (h : M.length ≠ N.length) : eqM M N = false := by
  unfold eqM; rw [decide_eq_false h]; rfl
theorem eqM_no {M N : List M3} {k : Nat} (_hk : k < M.length) (h : eq3 M N k = false) : eqM M N = false := by
  cases he : eqM M N with
  | false => rfl
  | true =>
    rw [eqM_iff] at he
    subst he
    unfold eq3 at h
    simp at h
theorem eqM_yes {M N : List M3} (hl : M.length = N.length) (h : ∀ k, k < M.length → eq3 M N k = true) : eqM M N = true := by
  unfold eqM
  rw [decide_eq_true hl, Bool.true_and, List.all_eq_true]
  intro k hk
  have := h k (List.mem_range.1 hk)
  unfold eq3 at this
  simpa using this

set_option maxRecDepth 100000 in
set_option maxHeartbeats 4000000 in
theorem eqMarks103_any {M N : List M3} {v1 v2 : Value} (w : World) (h1 : SlM w v1 M) (h2 : SlM w v2 N) (hl : M.length ≤ 1000) (_hl2 : N.length ≤ 1000) :
    Calls Tryz.prog 103 #[v1, v2] w fun e w' => e = .returned (.bool (eqM M N)) ∧ Below w.heap.size w w' := by
  obtain ⟨a1, c1, rfl, hl1, H1⟩ := h1
  obtain ⟨a2, c2, rfl, hl2', H2⟩ := h2
  by_cases hn : M.length = N.length
  · have HC1 := Lib.hid H1
    have HC2 := Lib.hid H2
    have NO := Lib.hid (fun (k : Nat) (hk : k < M.length) (h : eq3 M N k = false) => eqM_no hk h)
    have YES := Lib.hid (fun (h : ∀ k, k < M.length → eq3 M N k = true) => eqM_yes hn h)
    obtain ⟨r, hr⟩ : ∃ r, eqM M N = r := ⟨_, rfl⟩
    rw [hr] at NO YES ⊢
    clear H1 H2 hr _hl2 hl2' hl1
    rw [← hn] at HC2 ⊢
    clear hn
    obtain ⟨n, hn⟩ : ∃ n, M.length = n := ⟨_, rfl⟩
    rw [hn] at HC1 HC2 NO YES hl ⊢
    clear hn
    go_enter Tryz.func103, Tryz.ntmps103
    go_wp2_with fail
    go_loopw [13] (fun i wr => ∃ k : Nat, k ≤ n ∧ i = .int .i64 k ∧ Hid (∀ j, j < k → eq3 M N j = true) ∧ Below w.heap.size w wr) (fun i _ => n - (intOf i).toNat)
    case atStart => exact ⟨0, Nat.zero_le _, rfl, Lib.hid (fun j h => absurd h (Nat.not_lt_zero j)), Below.refl _ _⟩
    case round =>
      obtain ⟨k, hk, rfl, HK, hbel⟩ := hrel
      by_cases hlt : k < n
      · have j1 : (k : Int) < (n : Int) := by omega
        obtain ⟨b1, o1, rfl, x0, x1, x2⟩ := HC1.out k hlt
        obtain ⟨b2, o2, rfl, y0, y1, y2⟩ := HC2.out k hlt
        have NOk := Lib.hid (NO.out k hlt)
        obtain ⟨t, ht⟩ : ∃ t, eq3 M N k = t := ⟨_, rfl⟩
        have HT := Lib.hid ht
        have hq := run_mk_neqG (mq M k).x (mq M k).y (mq M k).z (mq N k).x (mq N k).y (mq N k).z
        unfold eq3 at ht
        rw [ht] at hq
        clear ht
        generalize (mq M k).x = a at x0 hq
        generalize (mq M k).y = b at x1 hq
        generalize (mq M k).z = c at x2 hq
        generalize (mq N k).x = a' at y0 hq
        generalize (mq N k).y = b' at y1 hq
        generalize (mq N k).z = c' at y2 hq
        have G0 := grow_cell (keep_cell hbel x0)
        have G1 := grow_cell (keep_cell hbel x1)
        have G2 := grow_cell (keep_cell hbel x2)
        have G5 := grow_cell (keep_cell hbel y0)
        have G6 := grow_cell (keep_cell hbel y1)
        have G7 := grow_cell (keep_cell hbel y2)
        clear x0 x1 x2 y0 y1 y2
        go_wp2_with fail
        refine wp_region_grow (by kernel_rfl) (by kernel_rfl) ?_
        repeat (go_big_quiet_step (fail))
        refine wpQuiet_nil ?_
        rintro w4 ⟨z, hz⟩
        have hb : Below wr.heap.size wr w4 := by rw [hz]; exact z.b
        clear hz z G0 G1 G2 G5 G6 G7 hq
        have bel4 := keep_below hbel hb
        clear hb
        cases t
        · go_wp2
          go_ret
          obtain rfl : r = false := NOk.out HT.out
          exact ⟨rfl, bel4⟩
        · go_wp2
          exact ⟨⟨k + 1, by omega, by simp, Lib.hid (fun j hj => (by
            by_cases e : j = k
            · subst e; exact HT.out
            · exact HK.out j (by omega))), bel4⟩, by simp [intOf]; omega⟩
      · obtain rfl : k = n := by omega
        go_wp2
        go_ret
        obtain rfl : r = true := YES.out HK.out
        exact ⟨rfl, hbel⟩
  · rw [eqM_len hn]
    obtain ⟨n, hn1⟩ : ∃ n, M.length = n := ⟨_, rfl⟩
    obtain ⟨l, hn2⟩ : ∃ l, N.length = l := ⟨_, rfl⟩
    rw [hn1] at hn ⊢
    rw [hn2] at hn ⊢
    clear H1 H2 hl _hl2 hl1 hl2' hn1 hn2
    have j1 : ¬ (n : Int) = (l : Int) := by omega
    go_enter Tryz.func103, Tryz.ntmps103
    go_wp2
    go_ret
    exact ⟨rfl, Below.refl _ _⟩

end Go.Proofs.YtiommdfelnkibaaGreat

/- Walks: EqualFunc of gauges by compatible; alike. -/
namespace Go.Proofs.YtiommdfelnkibaaGreat
open Go Go.RowKit Go.Proofs Go.Abs

theorem cmpL_len {G H : List G5} (h : G.length ≠ H.length) : cmpL G H = false := by
  unfold cmpL; rw [decide_eq_false h]; rfl
theorem cmpL_no {G H : List G5} {k : Nat} (hk : k < G.length) (h : cmpG (gz G k) (gz H k) = false) : cmpL G H = false := by
  unfold cmpL
  rw [Bool.and_eq_false_iff]
  right
  rw [List.all_eq_false]
  exact ⟨k, List.mem_range.2 hk, by rw [h]; simp⟩
theorem cmpL_yes {G H : List G5} (hl : G.length = H.length) (h : ∀ k, k < G.length → cmpG (gz G k) (gz H k) = true) : cmpL G H = true := by
  unfold cmpL
  rw [decide_eq_true hl, Bool.true_and, List.all_eq_true]
  intro k hk
  exact h k (List.mem_range.1 hk)

set_option maxRecDepth 100000 in
set_option maxHeartbeats 8000000 in
theorem eqFunc104_any {G H : List G5} {v1 v2 : Value} (w : World) (h1 : SlG w v1 G) (h2 : SlG w v2 H) (hl : G.length ≤ 1000) (_hl2 : H.length ≤ 1000) :
    Calls Tryz.prog 104 #[v1, v2, .func (.func 105) #[] #[]] w fun e w' => e = .returned (.bool (cmpL G H)) ∧ Below w.heap.size w w' := by
  obtain ⟨a1, c1, rfl, hl1, H1⟩ := h1
  obtain ⟨a2, c2, rfl, hl2', H2⟩ := h2
  by_cases hn : G.length = H.length
  · have HC1 := Lib.hid H1
    have HC2 := Lib.hid H2
    have NO := Lib.hid (fun (k : Nat) (hk : k < G.length) (h : cmpG (gz G k) (gz H k) = false) => cmpL_no hk h)
    have YES := Lib.hid (fun (h : ∀ k, k < G.length → cmpG (gz G k) (gz H k) = true) => cmpL_yes hn h)
    have CC := Lib.hid (fun (k : Nat) W => compat_any (gz G k) (gz H k) W)
    obtain ⟨cf, hcf⟩ : ∃ cf : Nat → Bool, cf = fun k => cmpG (gz G k) (gz H k) := ⟨_, rfl⟩
    have ecf : ∀ k, cmpG (gz G k) (gz H k) = cf k := fun k => by rw [hcf]
    simp only [ecf] at NO YES CC
    obtain ⟨r, hr⟩ : ∃ r, cmpL G H = r := ⟨_, rfl⟩
    rw [hr] at NO YES ⊢
    clear H1 H2 hr _hl2 hl2' hl1 ecf hcf
    rw [← hn] at HC2 ⊢
    clear hn
    obtain ⟨n, hn⟩ : ∃ n, G.length = n := ⟨_, rfl⟩
    rw [hn] at HC1 HC2 NO YES hl ⊢
    clear hn
    go_enter Tryz.func104, Tryz.ntmps104
    go_wp2_with fail
    go_loopw [17] (fun i wr => ∃ k : Nat, k ≤ n ∧ i = .int .i64 k ∧ Hid (∀ j, j < k → cf j = true) ∧ Below w.heap.size w wr) (fun i _ => n - (intOf i).toNat)
    case atStart => exact ⟨0, Nat.zero_le _, rfl, Lib.hid (fun j h => absurd h (Nat.not_lt_zero j)), Below.refl _ _⟩
    case round =>
      obtain ⟨k, hk, rfl, HK, hbel⟩ := hrel
      by_cases hlt : k < n
      · have j1 : (k : Int) < (n : Int) := by omega
        obtain ⟨b1, o1, rfl, x0, x1, x2, x3, x4⟩ := HC1.out k hlt
        obtain ⟨b2, o2, rfl, y0, y1, y2, y3, y4⟩ := HC2.out k hlt
        have NOk := Lib.hid (NO.out k hlt)
        have C := CC.out k
        obtain ⟨t, ht⟩ : ∃ t, cf k = t := ⟨_, rfl⟩
        have HT := Lib.hid ht
        rw [ht] at C
        clear ht
        obtain ⟨g, hg⟩ : ∃ g, gz G k = g := ⟨_, rfl⟩
        rw [hg] at x0 x1 x2 x3 x4 C
        clear hg
        obtain ⟨h, hg⟩ : ∃ h, gz H k = h := ⟨_, rfl⟩
        rw [hg] at y0 y1 y2 y3 y4 C
        clear hg
        replace x0 := keep_cell hbel x0
        replace x1 := keep_cell hbel x1
        replace x2 := keep_cell hbel x2
        replace x3 := keep_cell hbel x3
        replace x4 := keep_cell hbel x4
        replace y0 := keep_cell hbel y0
        replace y1 := keep_cell hbel y1
        replace y2 := keep_cell hbel y2
        replace y3 := keep_cell hbel y3
        replace y4 := keep_cell hbel y4
        have bA : Below wr.heap.size wr (wr.alloc (.cells #[.int .i64 g.a, .int .i64 g.b, .int .i64 g.c, .int .i64 g.d, .int .i64 g.e] 83)) := (Below.refl _ _).alloc (Nat.le_refl _) _
        have bel2 : Below w.heap.size w ((wr.alloc (.cells #[.int .i64 g.a, .int .i64 g.b, .int .i64 g.c, .int .i64 g.d, .int .i64 g.e] 83)).alloc (.cells #[.int .i64 h.a, .int .i64 h.b, .int .i64 h.c, .int .i64 h.d, .int .i64 h.e] 83)) := (hbel.alloc hbel.size _).alloc (by simp; have := hbel.size; omega) _
        have z0 := keep_cell bA y0
        have z1 := keep_cell bA y1
        have z2 := keep_cell bA y2
        have z3 := keep_cell bA y3
        have z4 := keep_cell bA y4
        clear bA
        go_wp2_with fail
        refine (C _).mono ?_
        rintro e w2 ⟨rfl, hb⟩
        have bel3 := keep_below bel2 hb
        clear hb bel2 x0 x1 x2 x3 x4 y0 y1 y2 y3 y4 z0 z1 z2 z3 z4 C
        cases t
        · go_wp2
          go_ret
          obtain rfl : r = false := NOk.out HT.out
          exact ⟨rfl, bel3⟩
        · go_wp2
          exact ⟨⟨k + 1, by omega, by simp, Lib.hid (fun j hj => (by
            by_cases e : j = k
            · subst e; exact HT.out
            · exact HK.out j (by omega))), bel3⟩, by simp [intOf]; omega⟩
      · obtain rfl : k = n := by omega
        go_wp2
        go_ret
        obtain rfl : r = true := YES.out HK.out
        exact ⟨rfl, hbel⟩
  · rw [cmpL_len hn]
    obtain ⟨n, hn1⟩ : ∃ n, G.length = n := ⟨_, rfl⟩
    obtain ⟨l, hn2⟩ : ∃ l, H.length = l := ⟨_, rfl⟩
    rw [hn1] at hn ⊢
    rw [hn2] at hn ⊢
    clear H1 H2 hl _hl2 hl1 hl2' hn1 hn2
    have j1 : ¬ (n : Int) = (l : Int) := by omega
    go_enter Tryz.func104, Tryz.ntmps104
    go_wp2
    go_ret
    exact ⟨rfl, Below.refl _ _⟩

end Go.Proofs.YtiommdfelnkibaaGreat

/- Walks: alike. -/
namespace Go.Proofs.YtiommdfelnkibaaGreat
open Go Go.RowKit Go.Proofs Go.Abs

set_option maxRecDepth 100000 in
set_option maxHeartbeats 8000000 in
theorem alike_walk (i c r m s i' c' r' m' s' : Int) (ag am ag' am' : Option Addr) (n gc n' gc' l mc l' mc' : Nat) (w : World) (x5 x6 : Bool)
    (CM : Hid (∀ W, Below w.heap.size w W → Calls Tryz.prog 103 #[.slice am l mc, .slice am' l' mc'] W fun e w' => e = .returned (.bool x5) ∧ Below W.heap.size W w'))
    (CG : Hid (∀ W, Below w.heap.size w W → Calls Tryz.prog 104 #[.slice ag n gc, .slice ag' n' gc', .func (.func 105) #[] #[]] W fun e w' => e = .returned (.bool x6) ∧ Below W.heap.size W w')) :
    Calls Tryz.prog 54 #[pcs i c r m s (.slice ag n gc) (.slice am l mc), pcs i' c' r' m' s' (.slice ag' n' gc') (.slice am' l' mc')] w fun e w' => e = .returned (.bool ((c == c') && ((r == r') && ((m == m') && ((s == s') && (x5 && x6)))))) ∧ Below w.heap.size w w' := by
  have hp : ((w.alloc (pcsObj i c r m s (.slice ag n gc) (.slice am l mc))).alloc (pcsObj i' c' r' m' s' (.slice ag' n' gc') (.slice am' l' mc'))).heap[w.heap.size]? = some (pcsObj i c r m s (.slice ag n gc) (.slice am l mc)) := (alloc_heap_old _ _ (by simp)).trans (alloc_heap_new _ _)
  have hq : ((w.alloc (pcsObj i c r m s (.slice ag n gc) (.slice am l mc))).alloc (pcsObj i' c' r' m' s' (.slice ag' n' gc') (.slice am' l' mc'))).heap[w.heap.size + 1]? = some (pcsObj i' c' r' m' s' (.slice ag' n' gc') (.slice am' l' mc')) := by
    have := alloc_heap_new (w.alloc (pcsObj i c r m s (.slice ag n gc) (.slice am l mc))) (pcsObj i' c' r' m' s' (.slice ag' n' gc') (.slice am' l' mc')); rwa [World.size_alloc] at this
  have b0 : Below w.heap.size w ((w.alloc (pcsObj i c r m s (.slice ag n gc) (.slice am l mc))).alloc (pcsObj i' c' r' m' s' (.slice ag' n' gc') (.slice am' l' mc'))) := ((Below.refl _ _).alloc (Nat.le_refl _) _).alloc (by simp) _
  obtain ⟨W0, hW0⟩ : ∃ W0, (w.alloc (pcsObj i c r m s (.slice ag n gc) (.slice am l mc))).alloc (pcsObj i' c' r' m' s' (.slice ag' n' gc') (.slice am' l' mc')) = W0 := ⟨_, rfl⟩
  rw [hW0] at hp hq b0
  obtain ⟨p0, p1, p2, p3, p4, p5, p6⟩ := And.intro (cell_of hp (k := 0) rfl) (And.intro (cell_of hp (k := 1) rfl) (And.intro (cell_of hp (k := 2) rfl) (And.intro (cell_of hp (k := 3) rfl) (And.intro (cell_of hp (k := 4) rfl) (And.intro (cell_of hp (k := 5) rfl) (cell_of hp (k := 6) rfl))))))
  obtain ⟨q0, q1, q2, q3, q4, q5, q6⟩ := And.intro (cell_of hq (k := 0) rfl) (And.intro (cell_of hq (k := 1) rfl) (And.intro (cell_of hq (k := 2) rfl) (And.intro (cell_of hq (k := 3) rfl) (And.intro (cell_of hq (k := 4) rfl) (And.intro (cell_of hq (k := 5) rfl) (cell_of hq (k := 6) rfl))))))
  clear hp hq
  obtain ⟨x1, j1⟩ : ∃ x, (c == c') = x := ⟨_, rfl⟩
  obtain ⟨x2, j2⟩ : ∃ x, (r == r') = x := ⟨_, rfl⟩
  obtain ⟨x3, j3⟩ : ∃ x, (m == m') = x := ⟨_, rfl⟩
  obtain ⟨x4, j4⟩ : ∃ x, (s == s') = x := ⟨_, rfl⟩
  rw [j1, j2, j3, j4]
  cases x1
  case' true => cases x2
  case' true.true => cases x3
  case' true.true.true => cases x4
  case' true.true.true.true => cases x5
  case' true.true.true.true.true => cases x6
  case true.true.true.true.false =>
    go_enter Tryz.func54, Tryz.ntmps54
    go_wp2_with (go_at_call 103; with_reducible refine (CM.out _ b0).mono ?_; rintro e w1 ⟨rfl, hb⟩)
    go_ret
    exact ⟨rfl, keep_below b0 hb⟩
  case true.true.true.true.true.false =>
    go_enter Tryz.func54, Tryz.ntmps54
    go_wp2_with (first
      | (go_at_call 103; with_reducible refine (CM.out _ b0).mono ?_; rintro e w1 ⟨rfl, hb⟩
         have b1 := keep_below b0 hb
         replace p5 := keep_cell hb p5
         replace q5 := keep_cell hb q5)
      | (go_at_call 104; with_reducible refine (CG.out _ b1).mono ?_; rintro e w2 ⟨rfl, hb2⟩))
    go_ret
    exact ⟨rfl, keep_below b1 hb2⟩
  case true.true.true.true.true.true =>
    go_enter Tryz.func54, Tryz.ntmps54
    go_wp2_with (first
      | (go_at_call 103; with_reducible refine (CM.out _ b0).mono ?_; rintro e w1 ⟨rfl, hb⟩
         have b1 := keep_below b0 hb
         replace p5 := keep_cell hb p5
         replace q5 := keep_cell hb q5)
      | (go_at_call 104; with_reducible refine (CG.out _ b1).mono ?_; rintro e w2 ⟨rfl, hb2⟩))
    go_ret
    exact ⟨rfl, keep_below b1 hb2⟩
  all_goals
    go_enter Tryz.func54, Tryz.ntmps54
    go_wp2
    go_ret
    exact ⟨rfl, b0⟩

/-- A piece of the size of a valid one. -/
def PcD.sm (d : PcD) : Prop := d.G.length ≤ 1000 ∧ d.M.length ≤ 1000

theorem alike_any {r q : PcD} {v1 v2 : Value} {B1 B2 : Nat} (w : World) (h1 : PcV w B1 v1 r) (h2 : PcV w B2 v2 q) (hr : r.sm) (hq : q.sm) :
    Calls Tryz.prog 54 #[v1, v2] w fun e w' => e = .returned (.bool (alk r q)) ∧ Below w.heap.size w w' := by
  obtain ⟨ag, gc, am, mc, rfl, g1, m1, -⟩ := h1.shape
  obtain ⟨ag', gc', am', mc', rfl, g2, m2, -⟩ := h2.shape
  exact alike_walk r.id r.c r.r r.m r.s q.id q.c q.r q.m q.s ag am ag' am' r.G.length gc q.G.length gc' r.M.length mc q.M.length mc' w (eqM r.M q.M) (cmpL r.G q.G)
    (Lib.hid fun W hW => eqMarks103_any W (m1.keep hW) (m2.keep hW) hr.2 hq.2)
    (Lib.hid fun W hW => eqFunc104_any W (g1.keep hW) (g2.keep hW) hr.1 hq.1)

end Go.Proofs.YtiommdfelnkibaaGreat
