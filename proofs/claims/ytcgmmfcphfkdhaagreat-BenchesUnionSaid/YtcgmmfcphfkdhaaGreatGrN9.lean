/- The abstract machine, part GrN9. -/
import Derived.Test.YtcgmmfcphfkdhaaGreatGrN8
import Derived.Test.YtcgmmfcphfkdhaaGreatVG
/- The notes that the reference calls good are those of the program. -/
namespace Go.Proofs.YtcgmmfcphfkdhaaGreat
open Go Go.RowKit Go.Proofs

def GR (N : Nt) : Prop := vSt N = true ∧ ((¬ (N.k = 9 ∨ N.k = 10) ∧ GA N) ∨ ((N.k = 9 ∨ N.k = 10) ∧ GB N))

theorem con_kind {N : Nt} {k : Int} (h : Con N k) : 1 ≤ k ∧ k ≤ 8 := by
 unfold Con at h
 omega

theorem con_item {N : Nt} {k : Int} (h : Con N k) : N.X = It0 ∨ 1 ≤ N.X.id := by
 by_cases h2 : k = 2
 ·subst h2
  right
  unfold Con at h
  have h : Con2 N := by simpa using h
  have := h.1
  unfold vRc wi at this
  simp only [Bool.and_eq_true, decide_eq_true_iff] at this
  omega
 ·left
  unfold Con at h
  rcases h with ⟨_, h⟩ | ⟨e, _⟩ | ⟨_, h⟩ | ⟨_, h⟩ | ⟨_, h⟩ | ⟨_, h⟩ | ⟨_, h⟩ | ⟨_, h⟩
  ·exact ((blN_iff _).1 h.2).2.2.2.2.2.2.2.2.2.2.2
  ·exact absurd e h2
  ·exact ((blN_iff _).1 h.2).2.2.2.2.2.2.2.2.2.2.2
  ·exact ((blN_iff _).1 h.2).2.2.2.2.2.2.2.2.2.2.2
  ·exact ((blN_iff _).1 h.2).2.2.2.2.2.2.2.2.2.2.2
  ·exact ((blN_iff _).1 h.2).2.2.2.2.2.2.2.2.2.2.2
  ·exact ((blN_iff _).1 h.2).2.2.2.2.2.2.2.2.2.2.2
  ·exact ((blN_iff _).1 h.2).2.2.2.2.2.2.2.2.2.2.2

theorem ids_own {N : Nt} (h : N.X = It0 ∨ 1 ≤ N.X.id) : Own N ↔ Ids N := by
 have h1 : ¬ foE N.b N.D ↔ ∀ k, k < N.D.length → ownB N.b (pz N.D k).id = true := by
  unfold foE
  constructor
  ·intro h k hk
   cases e : ownB N.b (pz N.D k).id with
   | true => rfl
   | false => exact absurd ⟨k, hk, e⟩ h
  ·rintro h ⟨k, hk, e⟩
   rw [h k hk] at e
   cases e
 have h2 : N.X.id = 0 ↔ N.X = It0 := by
  constructor
  ·intro e
   rcases h with h | h
   ·exact h
   ·omega
  ·intro e; rw [e]
 unfold Own Ids
 rw [h1, h2]

theorem rst_onl (N : Nt) : rst N = onl N ↔ N.f = 0 ∧ blN (rst N) = true := by
 rw [blN_iff]
 obtain ⟨a0, a1, a2, a3, a4, a5, a6, a7, a8, a9, a10, a11, a12, a13, a14, a15, a16, a17⟩ := N
 simp [rst, onl, z0, Nt.mk.injEq]

theorem own_blank {N : Nt} (h : blN (rst N) = true) : Own N := by
 rw [blN_iff] at h
 obtain ⟨_, _, _, _, _, _, _, _, _, _, hD, hX⟩ := h
 have hD : N.D = [] := hD
 have hX : N.X = It0 := hX
 refine ⟨?_, .inl (by rw [hX])⟩
 rintro ⟨k, hk, -⟩
 rw [hD] at hk
 exact absurd hk (Nat.not_lt_zero k)

theorem gr_gd (N : Nt) : GR N ↔ Gd N := by
 unfold GR Gd Kn
 constructor
 ·rintro ⟨hs, ⟨hj, h⟩ | ⟨hj, h⟩⟩
  ·obtain ⟨hk, hf, hc, hi⟩ := h
   exact ⟨hs, .inl ⟨hj, hf, hc⟩, (ids_own (con_item hc)).2 hi⟩
  ·obtain ⟨hv, ⟨hk, hr⟩ | ⟨hk, hf, h5, hc, hi⟩⟩ := h
   ·have := (rst_onl N).1 hr
    exact ⟨hs, .inr ⟨hj, hv, .inl ⟨hk, this⟩⟩, own_blank this.2⟩
   ·exact ⟨hs, .inr ⟨hj, hv, .inr ⟨hk, h5, hc⟩⟩, (ids_own (show N.X = It0 ∨ 1 ≤ N.X.id from con_item (N := rst N) hc)).2 hi⟩
 ·rintro ⟨hs, h, ho⟩
  refine ⟨hs, ?_⟩
  rcases h with ⟨hj, hf, hc⟩ | ⟨hj, hv, ⟨hk, hf, hb⟩ | ⟨hk, h5, hc⟩⟩
  ·exact .inl ⟨hj, con_kind hc, hf, hc, (ids_own (con_item hc)).1 ho⟩
  ·exact .inr ⟨hj, hv, .inl ⟨hk, (rst_onl N).2 ⟨hf, hb⟩⟩⟩
  ·exact .inr ⟨hj, hv, .inr ⟨hk, con_kind hc, h5, hc, (ids_own (show N.X = It0 ∨ 1 ≤ N.X.id from con_item (N := rst N) hc)).1 ho⟩⟩

theorem good56_any (x : Nv) (w : World) (h : NV w x) : Calls Tryz.prog 56 #[.agg x.arr] w fun e w' => Say e (Gd x.N) ∧ Below w.heap.size w w' := by
 rw [← gr_gd]
 by_cases hs : vSt x.N = true
 ·by_cases hj : x.N.k = 9 ∨ x.N.k = 10
  ·refine (good56_b x hs hj w h).mono ?_
   rintro e w1 ⟨k, hb⟩
   exact ⟨say_mono k (by unfold GR; simp [hs, hj]), hb⟩
  ·refine (good56_a x hs hj w h).mono ?_
   rintro e w1 ⟨k, hb⟩
   exact ⟨say_mono k (by unfold GR; simp [hs, hj]), hb⟩
 ·refine (good56_s x hs w).mono ?_
  rintro e w1 ⟨rfl, hb⟩
  exact ⟨say_no (fun k => hs k.1), hb⟩

end Go.Proofs.YtcgmmfcphfkdhaaGreat

/- Walks: the order of references and of notes. -/
namespace Go.Proofs.YtcgmmfcphfkdhaaGreat
open Go Go.RowKit Go.Proofs Go.Torn Go.Abs

def or2 (x y : Int) : Int := if x = 0 then y else x

set_option maxHeartbeats 1000000 in
theorem or2_any (x y : Int) (w : World) (b : Nat) (cap : Nat) (h0 : w.cell? ⟨b, 0, none⟩ = some (.int .i64 x)) (h1 : w.cell? ⟨b, 1, none⟩ = some (.int .i64 y)) :
    Calls Tryz.prog 108 #[.slice (some ⟨b, 0, none⟩) 2 cap] w fun e w' => e = .returned (.int .i64 (or2 x y)) ∧ w' = w := by
  obtain ⟨r, hr⟩ : ∃ r, or2 x y = r := ⟨_, rfl⟩
  rw [hr]
  unfold or2 at hr
  have R := Lib.hid hr
  clear hr
  go_enter Tryz.func108, Tryz.ntmps108
  go_wp2_with fail
  go_loop [8] (fun i => i = .int .i64 0 ∨ (i = .int .i64 1 ∧ x = 0) ∨ (i = .int .i64 2 ∧ x = 0 ∧ y = 0)) (fun i => (2 - intOf i).toNat)
  case atStart => exact .inl rfl
  case round =>
    rcases hrel with rfl | ⟨rfl, hx⟩ | ⟨rfl, hx, hy⟩
    · by_cases hx : x = 0
      · go_wp2
        all_goals first
          | (exfalso; simp_all; done)
          | (go_round
             case rel => exact .inr (.inl ⟨rfl, hx⟩)
             case measure => simp [intOf])
      · go_wp2
        all_goals first
          | (exfalso; simp_all; done)
          | (go_ret; exact ⟨ret_int (by rw [← R.out, if_neg hx]), rfl⟩)
    · have HX := Lib.hid hx
      clear hx
      by_cases hy : y = 0
      · go_wp2
        all_goals first
          | (exfalso; simp_all; done)
          | (go_round
             case rel => exact .inr (.inr ⟨rfl, HX.out, hy⟩)
             case measure => simp [intOf])
      · go_wp2
        all_goals first
          | (exfalso; simp_all; done)
          | (go_ret; exact ⟨ret_int (by rw [← R.out, if_pos HX.out]), rfl⟩)
    · have HX := Lib.hid hx
      have HY := Lib.hid hy
      clear hx hy
      go_wp2
      go_ret
      exact ⟨ret_int (by rw [← R.out, if_pos HX.out, HY.out]), rfl⟩

def OrS (W : World) (v : Value) (x y : Int) : Prop := ∃ b, v = .slice (some ⟨b, 0, none⟩) 2 2 ∧ W.cell? ⟨b, 0, none⟩ = some (.int .i64 x) ∧ W.cell? ⟨b, 1, none⟩ = some (.int .i64 y)
theorem OrS.keep {W W' : World} {v : Value} {x y : Int} (h : OrS W v x y) (hb : Below W.heap.size W W') : OrS W' v x y := by
  obtain ⟨b, rfl, h0, h1⟩ := h
  exact ⟨b, rfl, keep_cell hb h0, keep_cell hb h1⟩

def cmR (b n b' n' : Int) : Int := or2 (Lib.compareInt b b') (Lib.compareInt n n')

def CrV (A : Nat) (b n b' n' u0 u1 : Int) : Nat → Value → World → Prop
  | 0, v, _ => v = .pointer (some ⟨A, 0, none⟩)
  | 1, v, _ => v = .int .i64 b
  | 2, v, _ => v = .pointer (some ⟨A + 1, 0, none⟩)
  | 3, v, _ => v = .int .i64 b'
  | 4, v, _ => v = .int .i64 u0
  | 5, v, _ => v = .pointer (some ⟨A, 1, none⟩)
  | 6, v, _ => v = .int .i64 n
  | 7, v, _ => v = .pointer (some ⟨A + 1, 1, none⟩)
  | 8, v, _ => v = .int .i64 n'
  | 9, v, _ => v = .int .i64 u1
  | 10, v, W => OrS W v u0 u1
  | 11, v, _ => v = .int .i64 (or2 u0 u1)
  | 12, v, _ => v = .int .i64 (or2 u0 u1)
  | _, v, _ => v = .bool false
theorem CrV.keep {A : Nat} {b n b' n' u0 u1 : Int} : ∀ i v W W', CrV A b n b' n' u0 u1 i v W → Below W.heap.size W W' → CrV A b n b' n' u0 u1 i v W'
  | 0, _, _, _, h, _ => h
  | 1, _, _, _, h, _ => h
  | 2, _, _, _, h, _ => h
  | 3, _, _, _, h, _ => h
  | 4, _, _, _, h, _ => h
  | 5, _, _, _, h, _ => h
  | 6, _, _, _, h, _ => h
  | 7, _, _, _, h, _ => h
  | 8, _, _, _, h, _ => h
  | 9, _, _, _, h, _ => h
  | 10, _, _, _, h, hb => OrS.keep h hb
  | 11, _, _, _, h, _ => h
  | 12, _, _, _, h, _ => h
  | _ + 13, _, _, _, h, _ => h

set_option maxRecDepth 100000 in
set_option maxHeartbeats 8000000 in
theorem refs54 (b n b' n' : Int) (w : World) : Calls Tryz.prog 54 #[rfv b n, rfv b' n'] w fun e w' => e = .returned (.int .i64 (cmR b n b' n')) ∧ Below w.heap.size w w' := by
  have C0 := fun w => compare_any b b' w
  have C1 := fun w => compare_any n n' w
  unfold cmR
  generalize Lib.compareInt b b' = u0 at C0 ⊢
  generalize Lib.compareInt n n' = u1 at C1 ⊢
  have b0 := ((Below.refl w.heap.size w).alloc (Nat.le_refl _) (.cells #[.int .i64 b, .int .i64 n] 31)).alloc (by simp) (.cells #[.int .i64 b', .int .i64 n'] 31)
  have n0 := (NB.new w #[.int .i64 b, .int .i64 n] 31).alloc (.cells #[.int .i64 b', .int .i64 n'] 31)
  have n1 := nb1 w (.cells #[.int .i64 b, .int .i64 n] 31) #[.int .i64 b', .int .i64 n'] 31
  obtain ⟨W0, hW0⟩ : ∃ W0, (w.alloc (.cells #[.int .i64 b, .int .i64 n] 31)).alloc (.cells #[.int .i64 b', .int .i64 n'] 31) = W0 := ⟨_, rfl⟩
  rw [hW0] at b0 n0 n1
  have KA := Lib.hid (fun W (hb : Below W0.heap.size W0 W) => And.intro ((n0.keep hb).c (k := 0) (v := .int .i64 b) rfl) ((n0.keep hb).c (k := 1) (v := .int .i64 n) rfl))
  have KB := Lib.hid (fun W (hb : Below W0.heap.size W0 W) => And.intro ((n1.keep hb).c (k := 0) (v := .int .i64 b') rfl) ((n1.keep hb).c (k := 1) (v := .int .i64 n') rfl))
  have B0 := Lib.hid b0
  have HW := Lib.hid hW0
  clear b0 n0 n1 hW0
  go_enter Tryz.func54, Tryz.ntmps54
  go_wp2_with fail
  rw [HW.out]
  clear HW
  refine wp_region_valsG (CrV w.heap.size b n b' n' u0 u1) (by kernel_rfl) (by kernel_rfl) CrV.keep ?_ ?_ ?_
  · intro i o g bb ho hg v W hv
    have hi : i < 13 := by have := (List.getElem?_eq_some_iff.1 ho).1; simpa using this
    obtain rfl | rfl | rfl | rfl | rfl | rfl | rfl | rfl | rfl | rfl | rfl | rfl | rfl : i = 0 ∨ i = 1 ∨ i = 2 ∨ i = 3 ∨ i = 4 ∨ i = 5 ∨ i = 6 ∨ i = 7 ∨ i = 8 ∨ i = 9 ∨ i = 10 ∨ i = 11 ∨ i = 12 := by omega
    all_goals simp only [List.getElem?_cons_zero, List.getElem?_cons_succ, Option.some.injEq] at ho
    all_goals subst ho
    all_goals simp only [reduceCtorEq] at hg
  · intro i o ho a' W hW hfr hdep
    have f2 : a'.tmps[2]?.getD undef = .pointer (some ⟨w.heap.size, 0, none⟩) := Array.getD_eq_getD_getElem?.symm.trans (hfr 2 rfl)
    have f3 : a'.tmps[3]?.getD undef = .pointer (some ⟨w.heap.size + 1, 0, none⟩) := Array.getD_eq_getD_getElem?.symm.trans (hfr 3 rfl)
    clear hfr
    have hi : i < 13 := by have := (List.getElem?_eq_some_iff.1 ho).1; simpa using this
    obtain rfl | rfl | rfl | rfl | rfl | rfl | rfl | rfl | rfl | rfl | rfl | rfl | rfl : i = 0 ∨ i = 1 ∨ i = 2 ∨ i = 3 ∨ i = 4 ∨ i = 5 ∨ i = 6 ∨ i = 7 ∨ i = 8 ∨ i = 9 ∨ i = 10 ∨ i = 11 ∨ i = 12 := by omega
    all_goals simp only [List.getElem?_cons_zero, List.getElem?_cons_succ, Option.some.injEq] at ho
    all_goals subst ho
    · clear hdep
      refine .inl ⟨_, W, ?_, Below.refl _ _, rfl⟩
      go_simp
    · have d0 : a'.tmps[5]?.getD undef = .pointer (some ⟨w.heap.size, 0, none⟩) := Array.getD_eq_getD_getElem?.symm.trans (hdep ⟨0, .data⟩ (by simp) rfl 5 rfl)
      clear hdep
      have c := (KA.out W hW).1
      refine .inl ⟨_, W, ?_, Below.refl _ _, rfl⟩
      go_simp
    · clear hdep
      refine .inl ⟨_, W, ?_, Below.refl _ _, rfl⟩
      go_simp
    · have d2 : a'.tmps[7]?.getD undef = .pointer (some ⟨w.heap.size + 1, 0, none⟩) := Array.getD_eq_getD_getElem?.symm.trans (hdep ⟨2, .data⟩ (by simp) rfl 7 rfl)
      clear hdep
      have c := (KB.out W hW).1
      refine .inl ⟨_, W, ?_, Below.refl _ _, rfl⟩
      go_simp
    · have d1 : a'.tmps[6]?.getD undef = .int .i64 b := Array.getD_eq_getD_getElem?.symm.trans (hdep ⟨1, .data⟩ (by simp) rfl 6 rfl)
      have d3 : a'.tmps[8]?.getD undef = .int .i64 b' := Array.getD_eq_getD_getElem?.symm.trans (hdep ⟨3, .data⟩ (by simp) rfl 8 rfl)
      clear hdep
      refine .inr ⟨109, #[.int .i64 b, .int .i64 b'], W, ?_, Below.refl _ _, (C0 W).mono ?_⟩
      · go_simp
      · rintro e W' ⟨rfl, rfl⟩
        exact ⟨_, rfl, Below.refl _ _, rfl⟩
    · clear hdep
      refine .inl ⟨_, W, ?_, Below.refl _ _, rfl⟩
      go_simp
    · have d5 : a'.tmps[10]?.getD undef = .pointer (some ⟨w.heap.size, 1, none⟩) := Array.getD_eq_getD_getElem?.symm.trans (hdep ⟨5, .data⟩ (by simp) rfl 10 rfl)
      clear hdep
      have c := (KA.out W hW).2
      refine .inl ⟨_, W, ?_, Below.refl _ _, rfl⟩
      go_simp
    · clear hdep
      refine .inl ⟨_, W, ?_, Below.refl _ _, rfl⟩
      go_simp
    · have d7 : a'.tmps[12]?.getD undef = .pointer (some ⟨w.heap.size + 1, 1, none⟩) := Array.getD_eq_getD_getElem?.symm.trans (hdep ⟨7, .data⟩ (by simp) rfl 12 rfl)
      clear hdep
      have c := (KB.out W hW).2
      refine .inl ⟨_, W, ?_, Below.refl _ _, rfl⟩
      go_simp
    · have d6 : a'.tmps[11]?.getD undef = .int .i64 n := Array.getD_eq_getD_getElem?.symm.trans (hdep ⟨6, .data⟩ (by simp) rfl 11 rfl)
      have d8 : a'.tmps[13]?.getD undef = .int .i64 n' := Array.getD_eq_getD_getElem?.symm.trans (hdep ⟨8, .data⟩ (by simp) rfl 13 rfl)
      clear hdep
      refine .inr ⟨109, #[.int .i64 n, .int .i64 n'], W, ?_, Below.refl _ _, (C1 W).mono ?_⟩
      · go_simp
      · rintro e W' ⟨rfl, rfl⟩
        exact ⟨_, rfl, Below.refl _ _, rfl⟩
    · have d4 : a'.tmps[9]?.getD undef = .int .i64 u0 := Array.getD_eq_getD_getElem?.symm.trans (hdep ⟨4, .data⟩ (by simp) rfl 9 rfl)
      have d9 : a'.tmps[14]?.getD undef = .int .i64 u1 := Array.getD_eq_getD_getElem?.symm.trans (hdep ⟨9, .data⟩ (by simp) rfl 14 rfl)
      clear hdep
      refine .inl ⟨.slice (some ⟨W.heap.size, 0, none⟩) 2 2, W.alloc (.cells #[.int .i64 u0, .int .i64 u1] 3), ?_, (Below.refl _ _).alloc (Nat.le_refl _) _, ⟨W.heap.size, rfl, ?_, ?_⟩⟩
      · go_simp
      · go_simp
      · go_simp
    · obtain ⟨sb, d10, sc0, sc1⟩ : OrS W (a'.tmps[15]?.getD undef) u0 u1 := by have := hdep ⟨10, .data⟩ (by simp) rfl 15 rfl; rw [← Array.getD_eq_getD_getElem?]; exact this
      clear hdep
      refine .inr ⟨108, #[.slice (some ⟨sb, 0, none⟩) 2 2], W, ?_, Below.refl _ _, (or2_any u0 u1 W sb 2 sc0 sc1).mono ?_⟩
      · go_simp
      · rintro e W' ⟨rfl, rfl⟩
        exact ⟨_, rfl, Below.refl _ _, rfl⟩
    · have d11 : a'.tmps[16]?.getD undef = .int .i64 (or2 u0 u1) := Array.getD_eq_getD_getElem?.symm.trans (hdep ⟨11, .data⟩ (by simp) rfl 16 rfl)
      clear hdep
      refine .inl ⟨_, W, ?_, Below.refl _ _, rfl⟩
      go_simp
  · intro W hW
    simp only [List.map_cons, List.map_nil, VQG, CrV]
    rintro _ rfl _ rfl _ rfl _ rfl _ rfl _ rfl _ rfl _ rfl _ rfl _ rfl v10 s10 _ rfl _ rfl
    simp only [List.setIfInBounds_toArray, List.set_cons_succ, List.set_cons_zero]
    have HF := Lib.hid (B0.out.trans (hW.mono B0.out.size))
    clear hW s10 KA KB C0 C1 B0
    go_wp2
    go_ret
    exact ⟨rfl, HF.out⟩


end Go.Proofs.YtcgmmfcphfkdhaaGreat

/- Walks: the order of notes. -/
namespace Go.Proofs.YtcgmmfcphfkdhaaGreat
open Go Go.RowKit Go.Proofs Go.Torn Go.Abs

end Go.Proofs.YtcgmmfcphfkdhaaGreat

/- Walks: the reference's order of notes. -/
namespace Go.Proofs.YtcgmmfcphfkdhaaGreat
open Go Go.RowKit Go.Proofs

def lsR (b n b' n' : Int) : Bool := decide (b < b') || (b == b' && decide (n < n'))

theorem cmR_lt (b n b' n' : Int) : decide (cmR b n b' n' < 0) = lsR b n b' n' := by
 unfold cmR or2 Lib.compareInt lsR
 repeat' split
 all_goals first
  | (simp; omega)
  | (simp [*]; done)
  | (simp [*]; omega)

theorem cmR_zero (b n b' n' : Int) : cmR b n b' n' = 0 ↔ b = b' ∧ n = n' := by
 unfold cmR or2 Lib.compareInt
 repeat' split
 all_goals first
  | omega
  | (simp; omega)

set_option maxHeartbeats 2000000 in
theorem less58 (b n b' n' : Int) (w : World) : Calls Tryz.prog 58 #[rfv b n, rfv b' n'] w fun e w' => e = .returned (.bool (lsR b n b' n')) ∧ Below w.heap.size w w' := by
 have b0 := ((Below.refl w.heap.size w).alloc (Nat.le_refl _) (.cells #[.int .i64 b, .int .i64 n] 31)).alloc (by simp) (.cells #[.int .i64 b', .int .i64 n'] 31)
 unfold lsR
 by_cases h1 : b < b'
 ·have d1 : decide (b < b') = true := decide_eq_true h1
  go_enter Tryz.func58, Tryz.ntmps58
  go_wp2
  go_ret
  exact ⟨by rw [d1]; rfl, b0⟩
 ·have d1 : decide (b < b') = false := decide_eq_false h1
  have H1 := Lib.hid h1
  clear h1
  by_cases h2 : b = b'
  ·subst h2
   go_enter Tryz.func58, Tryz.ntmps58
   go_wp2
   go_ret
   exact ⟨rfl, b0⟩
  ·have d2 : (b == b') = false := by simp [h2]
   have H2 := Lib.hid h2
   clear h2
   go_enter Tryz.func58, Tryz.ntmps58
   go_wp2
   go_ret
   exact ⟨rfl, b0⟩

end Go.Proofs.YtcgmmfcphfkdhaaGreat
