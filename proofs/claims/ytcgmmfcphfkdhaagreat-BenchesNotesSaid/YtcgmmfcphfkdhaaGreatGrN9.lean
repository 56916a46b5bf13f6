/- The abstract machine, part GrN9. -/
import Derived.Test.YtcgmmfcphfkdhaaGreatGrN8
import Derived.Test.YtcgmmfcphfkdhaaGreatVG
/- The notes that the reference calls good are those of the program. -/
namespace Go.Proofs.YtcgmmfcphfkdhaaGreat
open Go Go.RowKit Go.Proofs

def GR (N : Nt) : Prop := vSt N = true ∧ ((¬ (N.k = 9 ∨ N.k = 10) ∧ GA N) ∨ ((N.k = 9 ∨ N.k = 10) ∧ GB N))

theorem con_kind {N : Nt} {k : Int} (h : Con N k) : 1 ≤ k ∧ k ≤ 8 := by
  unfold Con at h
  omega

theorem con_item {N : Nt} {k : Int} (h : Con N k) : N.X = It0 ∨ 1 ≤ N.X.id := by
  by_cases h2 : k = 2
  · subst h2
    right
    unfold Con at h
    have h : Con2 N := by simpa using h
    have := h.1
    unfold vRc wi at this
    simp only [Bool.and_eq_true, decide_eq_true_iff] at this
    omega
  · left
    unfold Con at h
    rcases h with ⟨_, h⟩ | ⟨e, _⟩ | ⟨_, h⟩ | ⟨_, h⟩ | ⟨_, h⟩ | ⟨_, h⟩ | ⟨_, h⟩ | ⟨_, h⟩
    · exact ((blN_iff _).1 h.2).2.2.2.2.2.2.2.2.2.2.2
    · exact absurd e h2
    · exact ((blN_iff _).1 h.2).2.2.2.2.2.2.2.2.2.2.2
    · exact ((blN_iff _).1 h.2).2.2.2.2.2.2.2.2.2.2.2
    · exact ((blN_iff _).1 h.2).2.2.2.2.2.2.2.2.2.2.2
    · exact ((blN_iff _).1 h.2).2.2.2.2.2.2.2.2.2.2.2
    · exact ((blN_iff _).1 h.2).2.2.2.2.2.2.2.2.2.2.2
    · exact ((blN_iff _).1 h.2).2.2.2.2.2.2.2.2.2.2.2

theorem ids_own {N : Nt} (h : N.X = It0 ∨ 1 ≤ N.X.id) : Own N ↔ Ids N := by
  have h1 : ¬ foE N.b N.D ↔ ∀ k, k < N.D.length → ownB N.b (pz N.D k).id = true := by
    unfold foE
    constructor
    · intro h k hk
      cases e : ownB N.b (pz N.D k).id with
      | true => rfl
      | false => exact absurd ⟨k, hk, e⟩ h
    · rintro h ⟨k, hk, e⟩
      rw [h k hk] at e
      cases e
  have h2 : N.X.id = 0 ↔ N.X = It0 := by
    constructor
    · intro e
      rcases h with h | h
      · exact h
      · omega
    · intro e; rw [e]
  unfold Own Ids
  rw [h1, h2]

theorem rst_onl (N : Nt) : rst N = onl N ↔ N.f = 0 ∧ blN (rst N) = true := by
  rw [blN_iff]
  obtain ⟨a0, a1, a2, a3, a4, a5, a6, a7, a8, a9, a10, a11, a12, a13, a14, a15, a16, a17⟩ := N
  simp [rst, onl, z0, Nt.mk.injEq]

theorem own_blank {N : Nt} (h : blN (rst N) = true) : Own N := by
  rw [blN_iff] at h
  obtain ⟨_, _, _, _, _, _, _, _, _, _, hD, hX⟩ := h
  have hD : N.D = [] := hD
  have hX : N.X = It0 := hX
  refine ⟨?_, .inl (by rw [hX])⟩
  rintro ⟨k, hk, -⟩
  rw [hD] at hk
  exact absurd hk (Nat.not_lt_zero k)

theorem gr_gd (N : Nt) : GR N ↔ Gd N := by
  unfold GR Gd Kn
  constructor
  · rintro ⟨hs, ⟨hj, h⟩ | ⟨hj, h⟩⟩
    · obtain ⟨hk, hf, hc, hi⟩ := h
      exact ⟨hs, .inl ⟨hj, hf, hc⟩, (ids_own (con_item hc)).2 hi⟩
    · obtain ⟨hv, ⟨hk, hr⟩ | ⟨hk, hf, h5, hc, hi⟩⟩ := h
      · have := (rst_onl N).1 hr
        exact ⟨hs, .inr ⟨hj, hv, .inl ⟨hk, this⟩⟩, own_blank this.2⟩
      · exact ⟨hs, .inr ⟨hj, hv, .inr ⟨hk, h5, hc⟩⟩, (ids_own (show N.X = It0 ∨ 1 ≤ N.X.id from con_item (N := rst N) hc)).2 hi⟩
  · rintro ⟨hs, h, ho⟩
    refine ⟨hs, ?_⟩
    rcases h with ⟨hj, hf, hc⟩ | ⟨hj, hv, ⟨hk, hf, hb⟩ | ⟨hk, h5, hc⟩⟩
    · exact .inl ⟨hj, con_kind hc, hf, hc, (ids_own (con_item hc)).1 ho⟩
    · exact .inr ⟨hj, hv, .inl ⟨hk, (rst_onl N).2 ⟨hf, hb⟩⟩⟩
    · exact .inr ⟨hj, hv, .inr ⟨hk, con_kind hc, h5, hc, (ids_own (show N.X = It0 ∨ 1 ≤ N.X.id from con_item (N := rst N) hc)).1 ho⟩⟩

theorem good56_any (x : Nv) (w : World) (h : NV w x) : Calls Tryz.prog 56 #[.agg x.arr] w fun e w' => Say e (Gd x.N) ∧ Below w.heap.size w w' := by
  rw [← gr_gd]
  by_cases hs : vSt x.N = true
  · by_cases hj : x.N.k = 9 ∨ x.N.k = 10
    · refine (good56_b x hs hj w h).mono ?_
      rintro e w1 ⟨k, hb⟩
      exact ⟨say_mono k (by unfold GR; simp [hs, hj]), hb⟩
    · refine (good56_a x hs hj w h).mono ?_
      rintro e w1 ⟨k, hb⟩
      exact ⟨say_mono k (by unfold GR; simp [hs, hj]), hb⟩
  · refine (good56_s x hs w).mono ?_
    rintro e w1 ⟨rfl, hb⟩
    exact ⟨say_no (fun k => hs k.1), hb⟩

set_option maxRecDepth 100000 in
set_option maxHeartbeats 4000000 in
theorem check14 (x : Nv) (w : World) (h : NV w x) : Calls Tryz.prog 14 #[.agg x.arr] w fun e w' => e = .returned (.int .i64 (gdE x.N)) ∧ Below w.heap.size w w' := by
  obtain ⟨m, hm, ⟨hm0, hm1, hm2⟩, hs40⟩ := m40.out
  have n0 := NB.new w x.arr 40
  have b0 : Below w.heap.size w (w.alloc (.cells x.arr 40)) := (Below.refl _ _).alloc (Nat.le_refl _) _
  have l0 := n0.load (m := m) ((arr_size x).trans hm)
  have C1 := good56_any x (w.alloc (.cells x.arr 40)) (h.keep b0)
  have G1 : Hid (Gd x.N → gdE x.N = 0) := Lib.hid fun h => if_pos h
  have G2 : Hid (¬ Gd x.N → gdE x.N = 90) := Lib.hid fun h => if_neg h
  generalize gdE x.N = ge at *
  generalize Gd x.N = G at *
  generalize x.arr = V at *
  have B0 := Lib.hid b0
  clear n0 b0 h hm
  go_enter Tryz.func14, Tryz.ntmps14
  go_wp2_with fail
  refine C1.mono ?_
  rintro e w1 ⟨⟨r, hr, rfl⟩, hb⟩
  have HR := Lib.hid hr
  have HB := Lib.hid (B0.out.trans (hb.mono B0.out.size))
  clear hb hr C1 l0 B0
  cases r
  · go_wp2_with fail
    go_ret
    exact ⟨by rw [G2.out (fun h => by have := HR.out.2 h; simp at this)]; rfl, HB.out⟩
  · go_wp2_with fail
    go_ret
    exact ⟨by rw [G1.out (HR.out.1 (by simp))]; rfl, HB.out⟩

end Go.Proofs.YtcgmmfcphfkdhaaGreat

/- Walks: the order of references and of notes. -/
namespace Go.Proofs.YtcgmmfcphfkdhaaGreat
open Go Go.RowKit Go.Proofs Go.Torn Go.Abs

def or2 (x y : Int) : Int := if x = 0 then y else x

set_option maxHeartbeats 1000000 in
theorem or2_any (x y : Int) (w : World) (b : Nat) (cap : Nat) (h0 : w.cell? ⟨b, 0, none⟩ = some (.int .i64 x)) (h1 : w.cell? ⟨b, 1, none⟩ = some (.int .i64 y)) :
    Calls Tryz.prog 108 #[.slice (some ⟨b, 0, none⟩) 2 cap] w fun e w' => e = .returned (.int .i64 (or2 x y)) ∧ w' = w := by
  obtain ⟨r, hr⟩ : ∃ r, or2 x y = r := ⟨_, rfl⟩
  rw [hr]
  unfold or2 at hr
  have R := Lib.hid hr
  clear hr
  go_enter Tryz.func108, Tryz.ntmps108
  go_wp2_with fail
  go_loop [8] (fun i => i = .int .i64 0 ∨ (i = .int .i64 1 ∧ x = 0) ∨ (i = .int .i64 2 ∧ x = 0 ∧ y = 0)) (fun i => (2 - intOf i).toNat)
  case atStart => exact .inl rfl
  case round =>
    rcases hrel with rfl | ⟨rfl, hx⟩ | ⟨rfl, hx, hy⟩
    · by_cases hx : x = 0
      · go_wp2
        all_goals first
          | (exfalso; simp_all; done)
          | (go_round
             case rel => exact .inr (.inl ⟨rfl, hx⟩)
             case measure => simp [intOf])
      · go_wp2
        all_goals first
          | (exfalso; simp_all; done)
          | (go_ret; exact ⟨ret_int (by rw [← R.out, if_neg hx]), rfl⟩)
    · have HX := Lib.hid hx
      clear hx
      by_cases hy : y = 0
      · go_wp2
        all_goals first
          | (exfalso; simp_all; done)
          | (go_round
             case rel => exact .inr (.inr ⟨rfl, HX.out, hy⟩)
             case measure => simp [intOf])
      · go_wp2
        all_goals first
          | (exfalso; simp_all; done)
          | (go_ret; exact ⟨ret_int (by rw [← R.out, if_pos HX.out]), rfl⟩)
    · have HX := Lib.hid hx
      have HY := Lib.hid hy
      clear hx hy
      go_wp2
      go_ret
      exact ⟨ret_int (by rw [← R.out, if_pos HX.out, HY.out]), rfl⟩

def OrS (W : World) (v : Value) (x y : Int) : Prop := ∃ b, v = .slice (some ⟨b, 0, none⟩) 2 2 ∧ W.cell? ⟨b, 0, none⟩ = some (.int .i64 x) ∧ W.cell? ⟨b, 1, none⟩ = some (.int .i64 y)
theorem OrS.keep {W W' : World} {v : Value} {x y : Int} (h : OrS W v x y) (hb : Below W.heap.size W W') : OrS W' v x y := by
  obtain ⟨b, rfl, h0, h1⟩ := h
  exact ⟨b, rfl, keep_cell hb h0, keep_cell hb h1⟩

def cmR (b n b' n' : Int) : Int := or2 (Lib.compareInt b b') (Lib.compareInt n n')

def CrV (A : Nat) (b n b' n' u0 u1 : Int) : Nat → Value → World → Prop
  | 0, v, _ => v = .pointer (some ⟨A, 0, none⟩)
  | 1, v, _ => v = .int .i64 b
  | 2, v, _ => v = .pointer (some ⟨A + 1, 0, none⟩)
  | 3, v, _ => v = .int .i64 b'
  | 4, v, _ => v = .int .i64 u0
  | 5, v, _ => v = .pointer (some ⟨A, 1, none⟩)
  | 6, v, _ => v = .int .i64 n
  | 7, v, _ => v = .pointer (some ⟨A + 1, 1, none⟩)
  | 8, v, _ => v = .int .i64 n'
  | 9, v, _ => v = .int .i64 u1
  | 10, v, W => OrS W v u0 u1
  | 11, v, _ => v = .int .i64 (or2 u0 u1)
  | 12, v, _ => v = .int .i64 (or2 u0 u1)
  | _, v, _ => v = .bool false
theorem CrV.keep {A : Nat} {b n b' n' u0 u1 : Int} : ∀ i v W W', CrV A b n b' n' u0 u1 i v W → Below W.heap.size W W' → CrV A b n b' n' u0 u1 i v W'
  | 0, _, _, _, h, _ => h
  | 1, _, _, _, h, _ => h
  | 2, _, _, _, h, _ => h
  | 3, _, _, _, h, _ => h
  | 4, _, _, _, h, _ => h
  | 5, _, _, _, h, _ => h
  | 6, _, _, _, h, _ => h
  | 7, _, _, _, h, _ => h
  | 8, _, _, _, h, _ => h
  | 9, _, _, _, h, _ => h
  | 10, _, _, _, h, hb => OrS.keep h hb
  | 11, _, _, _, h, _ => h
  | 12, _, _, _, h, _ => h
  | _ + 13, _, _, _, h, _ => h

set_option maxRecDepth 100000 in
set_option maxHeartbeats 8000000 in
theorem refs54 (b n b' n' : Int) (w : World) : Calls Tryz.prog 54 #[rfv b n, rfv b' n'] w fun e w' => e = .returned (.int .i64 (cmR b n b' n')) ∧ Below w.heap.size w w' := by
  have C0 := fun w => compare_any b b' w
  have C1 := fun w => compare_any n n' w
  unfold cmR
  generalize Lib.compareInt b b' = u0 at C0 ⊢
  generalize Lib.compareInt n n' = u1 at C1 ⊢
  have b0 := ((Below.refl w.heap.size w).alloc (Nat.le_refl _) (.cells #[.int .i64 b, .int .i64 n] 31)).alloc (by simp) (.cells #[.int .i64 b', .int .i64 n'] 31)
  have n0 := (NB.new w #[.int .i64 b, .int .i64 n] 31).alloc (.cells #[.int .i64 b', .int .i64 n'] 31)
  have n1 := nb1 w (.cells #[.int .i64 b, .int .i64 n] 31) #[.int .i64 b', .int .i64 n'] 31
  obtain ⟨W0, hW0⟩ : ∃ W0, (w.alloc (.cells #[.int .i64 b, .int .i64 n] 31)).alloc (.cells #[.int .i64 b', .int .i64 n'] 31) = W0 := ⟨_, rfl⟩
  rw [hW0] at b0 n0 n1
  have KA := Lib.hid (fun W (hb : Below W0.heap.size W0 W) => And.intro ((n0.keep hb).c (k := 0) (v := .int .i64 b) rfl) ((n0.keep hb).c (k := 1) (v := .int .i64 n) rfl))
  have KB := Lib.hid (fun W (hb : Below W0.heap.size W0 W) => And.intro ((n1.keep hb).c (k := 0) (v := .int .i64 b') rfl) ((n1.keep hb).c (k := 1) (v := .int .i64 n') rfl))
  have B0 := Lib.hid b0
  have HW := Lib.hid hW0
  clear b0 n0 n1 hW0
  go_enter Tryz.func54, Tryz.ntmps54
  go_wp2_with fail
  rw [HW.out]
  clear HW
  refine wp_region_valsG (CrV w.heap.size b n b' n' u0 u1) (by kernel_rfl) (by kernel_rfl) CrV.keep ?_ ?_ ?_
  · intro i o g bb ho hg v W hv
    have hi : i < 13 := by have := (List.getElem?_eq_some_iff.1 ho).1; simpa using this
    obtain rfl | rfl | rfl | rfl | rfl | rfl | rfl | rfl | rfl | rfl | rfl | rfl | rfl : i = 0 ∨ i = 1 ∨ i = 2 ∨ i = 3 ∨ i = 4 ∨ i = 5 ∨ i = 6 ∨ i = 7 ∨ i = 8 ∨ i = 9 ∨ i = 10 ∨ i = 11 ∨ i = 12 := by omega
    all_goals simp only [List.getElem?_cons_zero, List.getElem?_cons_succ, Option.some.injEq] at ho
    all_goals subst ho
    all_goals simp only [reduceCtorEq] at hg
  · intro i o ho a' W hW hfr hdep
    have f2 : a'.tmps[2]?.getD undef = .pointer (some ⟨w.heap.size, 0, none⟩) := Array.getD_eq_getD_getElem?.symm.trans (hfr 2 rfl)
    have f3 : a'.tmps[3]?.getD undef = .pointer (some ⟨w.heap.size + 1, 0, none⟩) := Array.getD_eq_getD_getElem?.symm.trans (hfr 3 rfl)
    clear hfr
    have hi : i < 13 := by have := (List.getElem?_eq_some_iff.1 ho).1; simpa using this
    obtain rfl | rfl | rfl | rfl | rfl | rfl | rfl | rfl | rfl | rfl | rfl | rfl | rfl : i = 0 ∨ i = 1 ∨ i = 2 ∨ i = 3 ∨ i = 4 ∨ i = 5 ∨ i = 6 ∨ i = 7 ∨ i = 8 ∨ i = 9 ∨ i = 10 ∨ i = 11 ∨ i = 12 := by omega
    all_goals simp only [List.getElem?_cons_zero, List.getElem?_cons_succ, Option.some.injEq] at ho
    all_goals subst ho
    · clear hdep
      refine .inl ⟨_, W, ?_, Below.refl _ _, rfl⟩
      go_simp
    · have d0 : a'.tmps[5]?.getD undef = .pointer (some ⟨w.heap.size, 0, none⟩) := Array.getD_eq_getD_getElem?.symm.trans (hdep ⟨0, .data⟩ (by simp) rfl 5 rfl)
      clear hdep
      have c := (KA.out W hW).1
      refine .inl ⟨_, W, ?_, Below.refl _ _, rfl⟩
      go_simp
    · clear hdep
      refine .inl ⟨_, W, ?_, Below.refl _ _, rfl⟩
      go_simp
    · have d2 : a'.tmps[7]?.getD undef = .pointer (some ⟨w.heap.size + 1, 0, none⟩) := Array.getD_eq_getD_getElem?.symm.trans (hdep ⟨2, .data⟩ (by simp) rfl 7 rfl)
      clear hdep
      have c := (KB.out W hW).1
      refine .inl ⟨_, W, ?_, Below.refl _ _, rfl⟩
      go_simp
    · have d1 : a'.tmps[6]?.getD undef = .int .i64 b := Array.getD_eq_getD_getElem?.symm.trans (hdep ⟨1, .data⟩ (by simp) rfl 6 rfl)
      have d3 : a'.tmps[8]?.getD undef = .int .i64 b' := Array.getD_eq_getD_getElem?.symm.trans (hdep ⟨3, .data⟩ (by simp) rfl 8 rfl)
      clear hdep
      refine .inr ⟨109, #[.int .i64 b, .int .i64 b'], W, ?_, Below.refl _ _, (C0 W).mono ?_⟩
      · go_simp
      · rintro e W' ⟨rfl, rfl⟩
        exact ⟨_, rfl, Below.refl _ _, rfl⟩
    · clear hdep
      refine .inl ⟨_, W, ?_, Below.refl _ _, rfl⟩
      go_simp
    · have d5 : a'.tmps[10]?.getD undef = .pointer (some ⟨w.heap.size, 1, none⟩) := Array.getD_eq_getD_getElem?.symm.trans (hdep ⟨5, .data⟩ (by simp) rfl 10 rfl)
      clear hdep
      have c := (KA.out W hW).2
      refine .inl ⟨_, W, ?_, Below.refl _ _, rfl⟩
      go_simp
    · clear hdep
      refine .inl ⟨_, W, ?_, Below.refl _ _, rfl⟩
      go_simp
    · have d7 : a'.tmps[12]?.getD undef = .pointer (some ⟨w.heap.size + 1, 1, none⟩) := Array.getD_eq_getD_getElem?.symm.trans (hdep ⟨7, .data⟩ (by simp) rfl 12 rfl)
      clear hdep
      have c := (KB.out W hW).2
      refine .inl ⟨_, W, ?_, Below.refl _ _, rfl⟩
      go_simp
    · have d6 : a'.tmps[11]?.getD undef = .int .i64 n := Array.getD_eq_getD_getElem?.symm.trans (hdep ⟨6, .data⟩ (by simp) rfl 11 rfl)
      have d8 : a'.tmps[13]?.getD undef = .int .i64 n' := Array.getD_eq_getD_getElem?.symm.trans (hdep ⟨8, .data⟩ (by simp) rfl 13 rfl)
      clear hdep
      refine .inr ⟨109, #[.int .i64 n, .int .i64 n'], W, ?_, Below.refl _ _, (C1 W).mono ?_⟩
      · go_simp
      · rintro e W' ⟨rfl, rfl⟩
        exact ⟨_, rfl, Below.refl _ _, rfl⟩
    · have d4 : a'.tmps[9]?.getD undef = .int .i64 u0 := Array.getD_eq_getD_getElem?.symm.trans (hdep ⟨4, .data⟩ (by simp) rfl 9 rfl)
      have d9 : a'.tmps[14]?.getD undef = .int .i64 u1 := Array.getD_eq_getD_getElem?.symm.trans (hdep ⟨9, .data⟩ (by simp) rfl 14 rfl)
      clear hdep
      refine .inl ⟨.slice (some ⟨W.heap.size, 0, none⟩) 2 2, W.alloc (.cells #[.int .i64 u0, .int .i64 u1] 3), ?_, (Below.refl _ _).alloc (Nat.le_refl _) _, ⟨W.heap.size, rfl, ?_, ?_⟩⟩
      · go_simp
      · go_simp
      · go_simp
    · obtain ⟨sb, d10, sc0, sc1⟩ : OrS W (a'.tmps[15]?.getD undef) u0 u1 := by have := hdep ⟨10, .data⟩ (by simp) rfl 15 rfl; rw [← Array.getD_eq_getD_getElem?]; exact this
      clear hdep
      refine .inr ⟨108, #[.slice (some ⟨sb, 0, none⟩) 2 2], W, ?_, Below.refl _ _, (or2_any u0 u1 W sb 2 sc0 sc1).mono ?_⟩
      · go_simp
      · rintro e W' ⟨rfl, rfl⟩
        exact ⟨_, rfl, Below.refl _ _, rfl⟩
    · have d11 : a'.tmps[16]?.getD undef = .int .i64 (or2 u0 u1) := Array.getD_eq_getD_getElem?.symm.trans (hdep ⟨11, .data⟩ (by simp) rfl 16 rfl)
      clear hdep
      refine .inl ⟨_, W, ?_, Below.refl _ _, rfl⟩
      go_simp
  · intro W hW
    simp only [List.map_cons, List.map_nil, VQG, CrV]
    rintro _ rfl _ rfl _ rfl _ rfl _ rfl _ rfl _ rfl _ rfl _ rfl _ rfl v10 s10 _ rfl _ rfl
    simp only [List.setIfInBounds_toArray, List.set_cons_succ, List.set_cons_zero]
    have HF := Lib.hid (B0.out.trans (hW.mono B0.out.size))
    clear hW s10 KA KB C0 C1 B0
    go_wp2
    go_ret
    exact ⟨rfl, HF.out⟩


end Go.Proofs.YtcgmmfcphfkdhaaGreat

/- Walks: the order of notes. -/
namespace Go.Proofs.YtcgmmfcphfkdhaaGreat
open Go Go.RowKit Go.Proofs Go.Torn Go.Abs

def CcV (A : Nat) (V U : Array Value) (b n b' n' c c' u0 u1 : Int) : Nat → Value → World → Prop
  | 0, v, _ => v = .pointer (some ⟨A, 2, none⟩)
  | 1, v, _ => v = .int .i64 c
  | 2, v, _ => v = .pointer (some ⟨A + 1, 2, none⟩)
  | 3, v, _ => v = .int .i64 c'
  | 4, v, _ => v = .int .i64 u0
  | 5, v, _ => v = .agg V
  | 6, v, _ => v = rfv b n
  | 7, v, _ => v = .agg U
  | 8, v, _ => v = rfv b' n'
  | 9, v, _ => v = .int .i64 u1
  | 10, v, W => OrS W v u0 u1
  | 11, v, _ => v = .int .i64 (or2 u0 u1)
  | 12, v, _ => v = .int .i64 (or2 u0 u1)
  | _, v, _ => v = .bool false
theorem CcV.keep {A : Nat} {V U : Array Value} {b n b' n' c c' u0 u1 : Int} : ∀ i v W W', CcV A V U b n b' n' c c' u0 u1 i v W → Below W.heap.size W W' → CcV A V U b n b' n' c c' u0 u1 i v W'
  | 0, _, _, _, h, _ => h
  | 1, _, _, _, h, _ => h
  | 2, _, _, _, h, _ => h
  | 3, _, _, _, h, _ => h
  | 4, _, _, _, h, _ => h
  | 5, _, _, _, h, _ => h
  | 6, _, _, _, h, _ => h
  | 7, _, _, _, h, _ => h
  | 8, _, _, _, h, _ => h
  | 9, _, _, _, h, _ => h
  | 10, _, _, _, h, hb => OrS.keep h hb
  | 11, _, _, _, h, _ => h
  | 12, _, _, _, h, _ => h
  | _ + 13, _, _, _, h, _ => h

def cmC (X Y : Nt) : Int := or2 (Lib.compareInt X.c Y.c) (cmR X.b X.n Y.b Y.n)
def cmE (X Y : Nt) : Int := or2 (Lib.compareInt X.y Y.y) (cmC X Y)

set_option maxRecDepth 100000 in
set_option maxHeartbeats 8000000 in
theorem clocks120 (x y : Nv) (w : World) : Calls Tryz.prog 120 #[.agg x.arr, .agg y.arr] w fun e w' => e = .returned (.int .i64 (cmC x.N y.N)) ∧ Below w.heap.size w w' := by
  obtain ⟨m, hm, ⟨hm0, hm1, hm2⟩, hs40⟩ := m40.out
  obtain ⟨FS, hu40, fs0, fs1, fs2, fs3, fs4, fs5, fs6, fs7, fs8, fs9, fs10, fs11, fs12, fs13, fs14, fs15⟩ := f40.out
  have b0 := ((Below.refl w.heap.size w).alloc (Nat.le_refl _) (.cells x.arr 40)).alloc (by simp) (.cells y.arr 40)
  have n0 := (NB.new w x.arr 40).alloc (.cells y.arr 40)
  have n1 := nb1 w (.cells x.arr 40) y.arr 40
  obtain ⟨W0, hW0⟩ : ∃ W0, (w.alloc (.cells x.arr 40)).alloc (.cells y.arr 40) = W0 := ⟨_, rfl⟩
  rw [hW0] at b0 n0 n1
  have LA := Lib.hid (fun W (hb : Below W0.heap.size W0 W) => (n0.keep hb).load (m := m) ((arr_size x).trans hm))
  have LB := Lib.hid (fun W (hb : Below W0.heap.size W0 W) => (n1.keep hb).load (m := m) ((arr_size y).trans hm))
  have KA := Lib.hid (fun W (hb : Below W0.heap.size W0 W) => (n0.keep hb).c (k := 2) (v := .int .i64 x.N.c) rfl)
  have KB := Lib.hid (fun W (hb : Below W0.heap.size W0 W) => (n1.keep hb).c (k := 2) (v := .int .i64 y.N.c) rfl)
  have C0 := fun w => compare_any x.N.c y.N.c w
  have C1 := fun w => refs54 x.N.b x.N.n y.N.b y.N.n w
  have CA := Lib.hid (fun w => refOf55 x w)
  have CB := Lib.hid (fun w => refOf55 y w)
  unfold cmC
  generalize Lib.compareInt x.N.c y.N.c = u0 at C0 ⊢
  generalize cmR x.N.b x.N.n y.N.b y.N.n = u1 at C1 ⊢
  have B0 := Lib.hid b0
  have HW := Lib.hid hW0
  clear b0 n0 n1 hW0 hm
  generalize x.arr = V at *
  generalize y.arr = U at *
  generalize x.N.b = b at *
  generalize x.N.n = n at *
  generalize x.N.c = c at *
  generalize y.N.b = b' at *
  generalize y.N.n = n' at *
  generalize y.N.c = c' at *
  go_enter Tryz.func120, Tryz.ntmps120
  go_wp2_with fail
  rw [HW.out]
  clear HW
  refine wp_region_valsG (CcV w.heap.size V U b n b' n' c c' u0 u1) (by kernel_rfl) (by kernel_rfl) CcV.keep ?_ ?_ ?_
  · intro i o g bb ho hg v W hv
    have hi : i < 13 := by have := (List.getElem?_eq_some_iff.1 ho).1; simpa using this
    obtain rfl | rfl | rfl | rfl | rfl | rfl | rfl | rfl | rfl | rfl | rfl | rfl | rfl : i = 0 ∨ i = 1 ∨ i = 2 ∨ i = 3 ∨ i = 4 ∨ i = 5 ∨ i = 6 ∨ i = 7 ∨ i = 8 ∨ i = 9 ∨ i = 10 ∨ i = 11 ∨ i = 12 := by omega
    all_goals simp only [List.getElem?_cons_zero, List.getElem?_cons_succ, Option.some.injEq] at ho
    all_goals subst ho
    all_goals simp only [reduceCtorEq] at hg
  · intro i o ho a' W hW hfr hdep
    have f2 : a'.tmps[2]?.getD undef = .pointer (some ⟨w.heap.size, 0, none⟩) := Array.getD_eq_getD_getElem?.symm.trans (hfr 2 rfl)
    have f3 : a'.tmps[3]?.getD undef = .pointer (some ⟨w.heap.size + 1, 0, none⟩) := Array.getD_eq_getD_getElem?.symm.trans (hfr 3 rfl)
    clear hfr
    have hi : i < 13 := by have := (List.getElem?_eq_some_iff.1 ho).1; simpa using this
    obtain rfl | rfl | rfl | rfl | rfl | rfl | rfl | rfl | rfl | rfl | rfl | rfl | rfl : i = 0 ∨ i = 1 ∨ i = 2 ∨ i = 3 ∨ i = 4 ∨ i = 5 ∨ i = 6 ∨ i = 7 ∨ i = 8 ∨ i = 9 ∨ i = 10 ∨ i = 11 ∨ i = 12 := by omega
    all_goals simp only [List.getElem?_cons_zero, List.getElem?_cons_succ, Option.some.injEq] at ho
    all_goals subst ho
    · clear hdep
      refine .inl ⟨_, W, ?_, Below.refl _ _, rfl⟩
      go_simp
    · have d0 : a'.tmps[5]?.getD undef = .pointer (some ⟨w.heap.size, 2, none⟩) := Array.getD_eq_getD_getElem?.symm.trans (hdep ⟨0, .data⟩ (by simp) rfl 5 rfl)
      clear hdep
      have c := KA.out W hW
      refine .inl ⟨_, W, ?_, Below.refl _ _, rfl⟩
      go_simp
    · clear hdep
      refine .inl ⟨_, W, ?_, Below.refl _ _, rfl⟩
      go_simp
    · have d2 : a'.tmps[7]?.getD undef = .pointer (some ⟨w.heap.size + 1, 2, none⟩) := Array.getD_eq_getD_getElem?.symm.trans (hdep ⟨2, .data⟩ (by simp) rfl 7 rfl)
      clear hdep
      have c := KB.out W hW
      refine .inl ⟨_, W, ?_, Below.refl _ _, rfl⟩
      go_simp
    · have d1 : a'.tmps[6]?.getD undef = .int .i64 c := Array.getD_eq_getD_getElem?.symm.trans (hdep ⟨1, .data⟩ (by simp) rfl 6 rfl)
      have d3 : a'.tmps[8]?.getD undef = .int .i64 c' := Array.getD_eq_getD_getElem?.symm.trans (hdep ⟨3, .data⟩ (by simp) rfl 8 rfl)
      clear hdep
      refine .inr ⟨109, #[.int .i64 c, .int .i64 c'], W, ?_, Below.refl _ _, (C0 W).mono ?_⟩
      · go_simp
      · rintro e W' ⟨rfl, rfl⟩
        exact ⟨_, rfl, Below.refl _ _, rfl⟩
    · clear hdep
      have l := LA.out W hW
      refine .inl ⟨_, W, ?_, Below.refl _ _, rfl⟩
      go_simp
    · have d5 : a'.tmps[10]?.getD undef = .agg V := Array.getD_eq_getD_getElem?.symm.trans (hdep ⟨5, .data⟩ (by simp) rfl 10 rfl)
      clear hdep
      refine .inr ⟨55, #[.agg V], W, ?_, Below.refl _ _, (CA.out W).mono ?_⟩
      · go_simp
      · rintro e W' ⟨rfl, hb⟩
        exact ⟨_, rfl, hb, rfl⟩
    · clear hdep
      have l := LB.out W hW
      refine .inl ⟨_, W, ?_, Below.refl _ _, rfl⟩
      go_simp
    · have d7 : a'.tmps[12]?.getD undef = .agg U := Array.getD_eq_getD_getElem?.symm.trans (hdep ⟨7, .data⟩ (by simp) rfl 12 rfl)
      clear hdep
      refine .inr ⟨55, #[.agg U], W, ?_, Below.refl _ _, (CB.out W).mono ?_⟩
      · go_simp
      · rintro e W' ⟨rfl, hb⟩
        exact ⟨_, rfl, hb, rfl⟩
    · have d6 : a'.tmps[11]?.getD undef = rfv b n := Array.getD_eq_getD_getElem?.symm.trans (hdep ⟨6, .data⟩ (by simp) rfl 11 rfl)
      have d8 : a'.tmps[13]?.getD undef = rfv b' n' := Array.getD_eq_getD_getElem?.symm.trans (hdep ⟨8, .data⟩ (by simp) rfl 13 rfl)
      clear hdep
      refine .inr ⟨54, #[rfv b n, rfv b' n'], W, ?_, Below.refl _ _, (C1 W).mono ?_⟩
      · go_simp
      · rintro e W' ⟨rfl, hb⟩
        exact ⟨_, rfl, hb, rfl⟩
    · have d4 : a'.tmps[9]?.getD undef = .int .i64 u0 := Array.getD_eq_getD_getElem?.symm.trans (hdep ⟨4, .data⟩ (by simp) rfl 9 rfl)
      have d9 : a'.tmps[14]?.getD undef = .int .i64 u1 := Array.getD_eq_getD_getElem?.symm.trans (hdep ⟨9, .data⟩ (by simp) rfl 14 rfl)
      clear hdep
      refine .inl ⟨.slice (some ⟨W.heap.size, 0, none⟩) 2 2, W.alloc (.cells #[.int .i64 u0, .int .i64 u1] 3), ?_, (Below.refl _ _).alloc (Nat.le_refl _) _, ⟨W.heap.size, rfl, ?_, ?_⟩⟩
      · go_simp
      · go_simp
      · go_simp
    · obtain ⟨sb, d10, sc0, sc1⟩ : OrS W (a'.tmps[15]?.getD undef) u0 u1 := by have := hdep ⟨10, .data⟩ (by simp) rfl 15 rfl; rw [← Array.getD_eq_getD_getElem?]; exact this
      clear hdep
      refine .inr ⟨108, #[.slice (some ⟨sb, 0, none⟩) 2 2], W, ?_, Below.refl _ _, (or2_any u0 u1 W sb 2 sc0 sc1).mono ?_⟩
      · go_simp
      · rintro e W' ⟨rfl, rfl⟩
        exact ⟨_, rfl, Below.refl _ _, rfl⟩
    · have d11 : a'.tmps[16]?.getD undef = .int .i64 (or2 u0 u1) := Array.getD_eq_getD_getElem?.symm.trans (hdep ⟨11, .data⟩ (by simp) rfl 16 rfl)
      clear hdep
      refine .inl ⟨_, W, ?_, Below.refl _ _, rfl⟩
      go_simp
  · intro W hW
    simp only [List.map_cons, List.map_nil, VQG, CcV]
    rintro _ rfl _ rfl _ rfl _ rfl _ rfl _ rfl _ rfl _ rfl _ rfl _ rfl v10 s10 _ rfl _ rfl
    simp only [List.setIfInBounds_toArray, List.set_cons_succ, List.set_cons_zero]
    have HF := Lib.hid (B0.out.trans (hW.mono B0.out.size))
    clear hW s10 KA KB LA LB C0 B0
    go_wp2
    go_ret
    exact ⟨rfl, HF.out⟩

def CeV (A : Nat) (V U : Array Value) (c c' u0 u1 : Int) : Nat → Value → World → Prop
  | 0, v, _ => v = .pointer (some ⟨A, 3, none⟩)
  | 1, v, _ => v = .int .i64 c
  | 2, v, _ => v = .pointer (some ⟨A + 1, 3, none⟩)
  | 3, v, _ => v = .int .i64 c'
  | 4, v, _ => v = .int .i64 u0
  | 5, v, _ => v = .agg V
  | 6, v, _ => v = .agg U
  | 7, v, _ => v = .int .i64 u1
  | 8, v, W => OrS W v u0 u1
  | 9, v, _ => v = .int .i64 (or2 u0 u1)
  | 10, v, _ => v = .int .i64 (or2 u0 u1)
  | _, v, _ => v = .bool false
theorem CeV.keep {A : Nat} {V U : Array Value} {c c' u0 u1 : Int} : ∀ i v W W', CeV A V U c c' u0 u1 i v W → Below W.heap.size W W' → CeV A V U c c' u0 u1 i v W'
  | 0, _, _, _, h, _ => h
  | 1, _, _, _, h, _ => h
  | 2, _, _, _, h, _ => h
  | 3, _, _, _, h, _ => h
  | 4, _, _, _, h, _ => h
  | 5, _, _, _, h, _ => h
  | 6, _, _, _, h, _ => h
  | 7, _, _, _, h, _ => h
  | 8, _, _, _, h, hb => OrS.keep h hb
  | 9, _, _, _, h, _ => h
  | 10, _, _, _, h, _ => h
  | _ + 11, _, _, _, h, _ => h

set_option maxRecDepth 100000 in
set_option maxHeartbeats 8000000 in
theorem effects62 (x y : Nv) (w : World) : Calls Tryz.prog 62 #[.agg x.arr, .agg y.arr] w fun e w' => e = .returned (.int .i64 (cmE x.N y.N)) ∧ Below w.heap.size w w' := by
  obtain ⟨m, hm, ⟨hm0, hm1, hm2⟩, hs40⟩ := m40.out
  obtain ⟨FS, hu40, fs0, fs1, fs2, fs3, fs4, fs5, fs6, fs7, fs8, fs9, fs10, fs11, fs12, fs13, fs14, fs15⟩ := f40.out
  have b0 := ((Below.refl w.heap.size w).alloc (Nat.le_refl _) (.cells x.arr 40)).alloc (by simp) (.cells y.arr 40)
  have n0 := (NB.new w x.arr 40).alloc (.cells y.arr 40)
  have n1 := nb1 w (.cells x.arr 40) y.arr 40
  obtain ⟨W0, hW0⟩ : ∃ W0, (w.alloc (.cells x.arr 40)).alloc (.cells y.arr 40) = W0 := ⟨_, rfl⟩
  rw [hW0] at b0 n0 n1
  have LA := Lib.hid (fun W (hb : Below W0.heap.size W0 W) => (n0.keep hb).load (m := m) ((arr_size x).trans hm))
  have LB := Lib.hid (fun W (hb : Below W0.heap.size W0 W) => (n1.keep hb).load (m := m) ((arr_size y).trans hm))
  have KA := Lib.hid (fun W (hb : Below W0.heap.size W0 W) => (n0.keep hb).c (k := 3) (v := .int .i64 x.N.y) rfl)
  have KB := Lib.hid (fun W (hb : Below W0.heap.size W0 W) => (n1.keep hb).c (k := 3) (v := .int .i64 y.N.y) rfl)
  have C0 := fun w => compare_any x.N.y y.N.y w
  have CC := Lib.hid (fun w => clocks120 x y w)
  unfold cmE
  generalize Lib.compareInt x.N.y y.N.y = u0 at C0 ⊢
  generalize cmC x.N y.N = u1 at CC ⊢
  have B0 := Lib.hid b0
  have HW := Lib.hid hW0
  clear b0 n0 n1 hW0 hm
  generalize x.arr = V at *
  generalize y.arr = U at *
  generalize x.N.y = c at *
  generalize y.N.y = c' at *
  go_enter Tryz.func62, Tryz.ntmps62
  go_wp2_with fail
  rw [HW.out]
  clear HW
  refine wp_region_valsG (CeV w.heap.size V U c c' u0 u1) (by kernel_rfl) (by kernel_rfl) CeV.keep ?_ ?_ ?_
  · intro i o g bb ho hg v W hv
    have hi : i < 11 := by have := (List.getElem?_eq_some_iff.1 ho).1; simpa using this
    obtain rfl | rfl | rfl | rfl | rfl | rfl | rfl | rfl | rfl | rfl | rfl : i = 0 ∨ i = 1 ∨ i = 2 ∨ i = 3 ∨ i = 4 ∨ i = 5 ∨ i = 6 ∨ i = 7 ∨ i = 8 ∨ i = 9 ∨ i = 10 := by omega
    all_goals simp only [List.getElem?_cons_zero, List.getElem?_cons_succ, Option.some.injEq] at ho
    all_goals subst ho
    all_goals simp only [reduceCtorEq] at hg
  · intro i o ho a' W hW hfr hdep
    have f2 : a'.tmps[2]?.getD undef = .pointer (some ⟨w.heap.size, 0, none⟩) := Array.getD_eq_getD_getElem?.symm.trans (hfr 2 rfl)
    have f3 : a'.tmps[3]?.getD undef = .pointer (some ⟨w.heap.size + 1, 0, none⟩) := Array.getD_eq_getD_getElem?.symm.trans (hfr 3 rfl)
    clear hfr
    have hi : i < 11 := by have := (List.getElem?_eq_some_iff.1 ho).1; simpa using this
    obtain rfl | rfl | rfl | rfl | rfl | rfl | rfl | rfl | rfl | rfl | rfl : i = 0 ∨ i = 1 ∨ i = 2 ∨ i = 3 ∨ i = 4 ∨ i = 5 ∨ i = 6 ∨ i = 7 ∨ i = 8 ∨ i = 9 ∨ i = 10 := by omega
    all_goals simp only [List.getElem?_cons_zero, List.getElem?_cons_succ, Option.some.injEq] at ho
    all_goals subst ho
    · clear hdep
      refine .inl ⟨_, W, ?_, Below.refl _ _, rfl⟩
      go_simp
    · have d0 : a'.tmps[5]?.getD undef = .pointer (some ⟨w.heap.size, 3, none⟩) := Array.getD_eq_getD_getElem?.symm.trans (hdep ⟨0, .data⟩ (by simp) rfl 5 rfl)
      clear hdep
      have c := KA.out W hW
      refine .inl ⟨_, W, ?_, Below.refl _ _, rfl⟩
      go_simp
    · clear hdep
      refine .inl ⟨_, W, ?_, Below.refl _ _, rfl⟩
      go_simp
    · have d2 : a'.tmps[7]?.getD undef = .pointer (some ⟨w.heap.size + 1, 3, none⟩) := Array.getD_eq_getD_getElem?.symm.trans (hdep ⟨2, .data⟩ (by simp) rfl 7 rfl)
      clear hdep
      have c := KB.out W hW
      refine .inl ⟨_, W, ?_, Below.refl _ _, rfl⟩
      go_simp
    · have d1 : a'.tmps[6]?.getD undef = .int .i64 c := Array.getD_eq_getD_getElem?.symm.trans (hdep ⟨1, .data⟩ (by simp) rfl 6 rfl)
      have d3 : a'.tmps[8]?.getD undef = .int .i64 c' := Array.getD_eq_getD_getElem?.symm.trans (hdep ⟨3, .data⟩ (by simp) rfl 8 rfl)
      clear hdep
      refine .inr ⟨109, #[.int .i64 c, .int .i64 c'], W, ?_, Below.refl _ _, (C0 W).mono ?_⟩
      · go_simp
      · rintro e W' ⟨rfl, rfl⟩
        exact ⟨_, rfl, Below.refl _ _, rfl⟩
    · clear hdep
      have l := LA.out W hW
      refine .inl ⟨_, W, ?_, Below.refl _ _, rfl⟩
      go_simp
    · clear hdep
      have l := LB.out W hW
      refine .inl ⟨_, W, ?_, Below.refl _ _, rfl⟩
      go_simp
    · have d5 : a'.tmps[10]?.getD undef = .agg V := Array.getD_eq_getD_getElem?.symm.trans (hdep ⟨5, .data⟩ (by simp) rfl 10 rfl)
      have d6 : a'.tmps[11]?.getD undef = .agg U := Array.getD_eq_getD_getElem?.symm.trans (hdep ⟨6, .data⟩ (by simp) rfl 11 rfl)
      clear hdep
      refine .inr ⟨120, #[.agg V, .agg U], W, ?_, Below.refl _ _, (CC.out W).mono ?_⟩
      · go_simp
      · rintro e W' ⟨rfl, hb⟩
        exact ⟨_, rfl, hb, rfl⟩
    · have d4 : a'.tmps[9]?.getD undef = .int .i64 u0 := Array.getD_eq_getD_getElem?.symm.trans (hdep ⟨4, .data⟩ (by simp) rfl 9 rfl)
      have d7 : a'.tmps[12]?.getD undef = .int .i64 u1 := Array.getD_eq_getD_getElem?.symm.trans (hdep ⟨7, .data⟩ (by simp) rfl 12 rfl)
      clear hdep
      refine .inl ⟨.slice (some ⟨W.heap.size, 0, none⟩) 2 2, W.alloc (.cells #[.int .i64 u0, .int .i64 u1] 3), ?_, (Below.refl _ _).alloc (Nat.le_refl _) _, ⟨W.heap.size, rfl, ?_, ?_⟩⟩
      · go_simp
      · go_simp
      · go_simp
    · obtain ⟨sb, d8, sc0, sc1⟩ : OrS W (a'.tmps[13]?.getD undef) u0 u1 := by have := hdep ⟨8, .data⟩ (by simp) rfl 13 rfl; rw [← Array.getD_eq_getD_getElem?]; exact this
      clear hdep
      refine .inr ⟨108, #[.slice (some ⟨sb, 0, none⟩) 2 2], W, ?_, Below.refl _ _, (or2_any u0 u1 W sb 2 sc0 sc1).mono ?_⟩
      · go_simp
      · rintro e W' ⟨rfl, rfl⟩
        exact ⟨_, rfl, Below.refl _ _, rfl⟩
    · have d9 : a'.tmps[14]?.getD undef = .int .i64 (or2 u0 u1) := Array.getD_eq_getD_getElem?.symm.trans (hdep ⟨9, .data⟩ (by simp) rfl 14 rfl)
      clear hdep
      refine .inl ⟨_, W, ?_, Below.refl _ _, rfl⟩
      go_simp
  · intro W hW
    simp only [List.map_cons, List.map_nil, VQG, CeV]
    rintro _ rfl _ rfl _ rfl _ rfl _ rfl _ rfl _ rfl _ rfl v8 s8 _ rfl _ rfl
    simp only [List.setIfInBounds_toArray, List.set_cons_succ, List.set_cons_zero]
    have HF := Lib.hid (B0.out.trans (hW.mono B0.out.size))
    clear hW s8 KA KB LA LB C0 B0
    go_wp2
    go_ret
    exact ⟨rfl, HF.out⟩

set_option maxRecDepth 100000 in
set_option maxHeartbeats 4000000 in
theorem before15 (x y : Nv) (w : World) : Calls Tryz.prog 15 #[.agg x.arr, .agg y.arr] w fun e w' => e = .returned (.bool (decide (cmE x.N y.N < 0))) ∧ Below w.heap.size w w' := by
  obtain ⟨m, hm, ⟨hm0, hm1, hm2⟩, hs40⟩ := m40.out
  obtain ⟨FS, hu40, fs0, fs1, fs2, fs3, fs4, fs5, fs6, fs7, fs8, fs9, fs10, fs11, fs12, fs13, fs14, fs15⟩ := f40.out
  have b0 := ((Below.refl w.heap.size w).alloc (Nat.le_refl _) (.cells x.arr 40)).alloc (by simp) (.cells y.arr 40)
  have n0 := (NB.new w x.arr 40).alloc (.cells y.arr 40)
  have n1 := nb1 w (.cells x.arr 40) y.arr 40
  obtain ⟨W0, hW0⟩ : ∃ W0, (w.alloc (.cells x.arr 40)).alloc (.cells y.arr 40) = W0 := ⟨_, rfl⟩
  rw [hW0] at b0 n0 n1
  have LA := Lib.hid (fun W (hb : Below W0.heap.size W0 W) => (n0.keep hb).load (m := m) ((arr_size x).trans hm))
  have LB := Lib.hid (fun W (hb : Below W0.heap.size W0 W) => (n1.keep hb).load (m := m) ((arr_size y).trans hm))
  have CC := Lib.hid (fun w => effects62 x y w)
  have l1 := n0.load (m := m) ((arr_size x).trans hm)
  have l2 := n1.load (m := m) ((arr_size y).trans hm)
  rw [← hW0] at l1 l2
  generalize cmE x.N y.N = u1 at *
  have B0 := Lib.hid b0
  have HW := Lib.hid hW0
  clear b0 n0 n1 hW0 hm
  generalize x.arr = V at *
  generalize y.arr = U at *
  go_enter Tryz.func15, Tryz.ntmps15
  go_wp2_with fail
  rw [HW.out]
  clear HW l1 l2
  refine (CC.out W0).mono ?_
  rintro e w1 ⟨rfl, hb⟩
  have HB := Lib.hid (B0.out.trans (hb.mono B0.out.size))
  clear hb CC B0 LA LB
  go_wp2_with fail
  go_ret
  exact ⟨rfl, HB.out⟩

end Go.Proofs.YtcgmmfcphfkdhaaGreat

/- Walks: the reference's order of notes. -/
namespace Go.Proofs.YtcgmmfcphfkdhaaGreat
open Go Go.RowKit Go.Proofs

def lsR (b n b' n' : Int) : Bool := decide (b < b') || (b == b' && decide (n < n'))

theorem cmR_lt (b n b' n' : Int) : decide (cmR b n b' n' < 0) = lsR b n b' n' := by
  unfold cmR or2 Lib.compareInt lsR
  repeat' split
  all_goals first
    | (simp; omega)
    | (simp [*]; done)
    | (simp [*]; omega)

theorem cmR_zero (b n b' n' : Int) : cmR b n b' n' = 0 ↔ b = b' ∧ n = n' := by
  unfold cmR or2 Lib.compareInt
  repeat' split
  all_goals first
    | omega
    | (simp; omega)

def bfS (X Y : Nt) : Bool := if X.y = Y.y then (if X.c = Y.c then lsR X.b X.n Y.b Y.n else decide (X.c < Y.c)) else decide (X.y < Y.y)

theorem cmE_lt (X Y : Nt) : decide (cmE X Y < 0) = bfS X Y := by
  unfold bfS cmE cmC
  rw [← cmR_lt]
  generalize cmR X.b X.n Y.b Y.n = u
  unfold or2 Lib.compareInt
  repeat' split
  all_goals first
    | rfl
    | (simp; omega)
    | omega

set_option maxHeartbeats 2000000 in
theorem less58 (b n b' n' : Int) (w : World) : Calls Tryz.prog 58 #[rfv b n, rfv b' n'] w fun e w' => e = .returned (.bool (lsR b n b' n')) ∧ Below w.heap.size w w' := by
  have b0 := ((Below.refl w.heap.size w).alloc (Nat.le_refl _) (.cells #[.int .i64 b, .int .i64 n] 31)).alloc (by simp) (.cells #[.int .i64 b', .int .i64 n'] 31)
  unfold lsR
  by_cases h1 : b < b'
  · have d1 : decide (b < b') = true := decide_eq_true h1
    go_enter Tryz.func58, Tryz.ntmps58
    go_wp2
    go_ret
    exact ⟨by rw [d1]; rfl, b0⟩
  · have d1 : decide (b < b') = false := decide_eq_false h1
    have H1 := Lib.hid h1
    clear h1
    by_cases h2 : b = b'
    · subst h2
      go_enter Tryz.func58, Tryz.ntmps58
      go_wp2
      go_ret
      exact ⟨rfl, b0⟩
    · have d2 : (b == b') = false := by simp [h2]
      have H2 := Lib.hid h2
      clear h2
      go_enter Tryz.func58, Tryz.ntmps58
      go_wp2
      go_ret
      exact ⟨rfl, b0⟩

set_option maxRecDepth 100000 in
set_option maxHeartbeats 4000000 in
theorem before16 (x y : Nv) (w : World) : Calls Tryz.prog 16 #[.agg x.arr, .agg y.arr] w fun e w' => e = .returned (.bool (decide (cmE x.N y.N < 0))) ∧ Below w.heap.size w w' := by
  rw [cmE_lt]
  obtain ⟨m, hm, ⟨hm0, hm1, hm2⟩, hs40⟩ := m40.out
  obtain ⟨FS, hu40, fs0, fs1, fs2, fs3, fs4, fs5, fs6, fs7, fs8, fs9, fs10, fs11, fs12, fs13, fs14, fs15⟩ := f40.out
  have b0 := ((Below.refl w.heap.size w).alloc (Nat.le_refl _) (.cells x.arr 40)).alloc (by simp) (.cells y.arr 40)
  have n0 := (NB.new w x.arr 40).alloc (.cells y.arr 40)
  have n1 := nb1 w (.cells x.arr 40) y.arr 40
  obtain ⟨W0, hW0⟩ : ∃ W0, (w.alloc (.cells x.arr 40)).alloc (.cells y.arr 40) = W0 := ⟨_, rfl⟩
  have a2 := n0.c (k := 2) (v := .int .i64 x.N.c) rfl
  have a3 := n0.c (k := 3) (v := .int .i64 x.N.y) rfl
  have c2 := n1.c (k := 2) (v := .int .i64 y.N.c) rfl
  have c3 := n1.c (k := 3) (v := .int .i64 y.N.y) rfl
  have v2 : x.arr[2]? = some (.int .i64 x.N.c) := rfl
  have v3 : x.arr[3]? = some (.int .i64 x.N.y) := rfl
  have u2 : y.arr[2]? = some (.int .i64 y.N.c) := rfl
  have u3 : y.arr[3]? = some (.int .i64 y.N.y) := rfl
  rw [hW0] at b0 n0 n1
  have LA := Lib.hid (fun z : Grow W0 => (n0.keep z.b).load (m := m) ((arr_size x).trans hm))
  have LB := Lib.hid (fun z : Grow W0 => (n1.keep z.b).load (m := m) ((arr_size y).trans hm))
  have CA := Lib.hid (fun w => refOf57 x w)
  have CB := Lib.hid (fun w => refOf57 y w)
  have CL := Lib.hid (fun w => less58 x.N.b x.N.n y.N.b y.N.n w)
  have HW := Lib.hid hW0
  have B0 := Lib.hid b0
  rw [← hW0] at b0
  unfold bfS
  generalize lsR x.N.b x.N.n y.N.b y.N.n = lr at *
  clear n0 n1 hW0 hm
  generalize x.arr = V at *
  generalize y.arr = U at *
  generalize x.N.b = b at *
  generalize x.N.n = n at *
  generalize x.N.c = c at *
  generalize x.N.y = yy at *
  generalize y.N.b = b' at *
  generalize y.N.n = n' at *
  generalize y.N.c = c' at *
  generalize y.N.y = yy' at *
  by_cases h1 : yy = yy'
  · subst h1
    rw [if_pos rfl]
    by_cases h2 : c = c'
    · subst h2
      rw [if_pos rfl]
      go_enter Tryz.func16, Tryz.ntmps16
      go_wp2_with fail
      rw [HW.out]
      have L1 := LA.out
      have L2 := LB.out
      have C1 := CA.out
      have C2 := CB.out
      have C3 := CL.out
      clear LA LB CA CB CL a2 a3 c2 c3 v2 v3 u2 u3 b0
      refine wp_region_grow (by kernel_rfl) (by kernel_rfl) ?_
      repeat (go_big_quiet_step (first | (go_at_call 57; with_reducible exact calls_grow (C1 _)) | (go_at_call 57; with_reducible exact calls_grow (C2 _)) | (go_at_call 58; with_reducible exact calls_grow (C3 _))))
      refine wpQuiet_nil ?_
      rintro w2 ⟨z, rfl⟩
      have HB2 := Lib.hid (B0.out.trans (z.b.mono B0.out.size))
      clear L1 L2 C1 C2 C3
      generalize z.w = w2 at *
      go_wp2_with fail
      go_ret
      exact ⟨rfl, HB2.out⟩
    · have d2 : (c != c') = true := by simp [h2]
      rw [if_neg h2]
      go_enter Tryz.func16, Tryz.ntmps16
      go_wp2_with fail
      go_ret
      exact ⟨rfl, b0⟩
  · have d1 : (yy != yy') = true := by simp [h1]
    rw [if_neg h1]
    go_enter Tryz.func16, Tryz.ntmps16
    go_wp2_with fail
    go_ret
    exact ⟨rfl, b0⟩

end Go.Proofs.YtcgmmfcphfkdhaaGreat
