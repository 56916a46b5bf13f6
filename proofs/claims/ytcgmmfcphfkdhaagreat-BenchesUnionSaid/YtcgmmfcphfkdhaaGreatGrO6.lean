/- The abstract machine, part GrO6. -/
import Derived.Test.YtcgmmfcphfkdhaaGreatGrO5
import Derived.Test.YtcgmmfcphfkdhaaGreatGrVX
import Derived.Test.YtcgmmfcphfkdhaaGreatGrN6
import Derived.Test.YtcgmmfcphfkdhaaGreatGrO4
/- Walks: an item is cloned. -/
namespace Go.Proofs.YtcgmmfcphfkdhaaGreat
open Go Go.RowKit Go.Proofs Go.Torn Go.Abs

def CiV (B C : Nat) (g1 : Option Addr) (n1 c1 : Nat) (g2 : Option Addr) (n2 c2 : Nat) (g3 : Option Addr) (n3 c3 : Nat) (P Q : List Int) (S : List S8) : Nat → Value → World → Prop
 | 0, v, _ => v = .pointer (some ⟨B, 7, none⟩)
 | 1, v, _ => v = .slice g1 n1 c1
 | 2, v, W => Lst C W (fun W => SlI W v P)
 | 3, v, _ => v = .pointer (some ⟨B, 8, none⟩)
 | 4, v, _ => v = .slice g2 n2 c2
 | 5, v, W => Lst C W (fun W => SlI W v Q)
 | 6, v, _ => v = .pointer (some ⟨B, 11, none⟩)
 | 7, v, _ => v = .slice g3 n3 c3
 | 8, v, W => Lst C W (fun W => SlS W v S)
 | _, v, _ => v = .pointer (some ⟨B, 7, none⟩)
theorem CiV.keep {B C : Nat} {g1 : Option Addr} {n1 c1 : Nat} {g2 : Option Addr} {n2 c2 : Nat} {g3 : Option Addr} {n3 c3 : Nat} {P Q : List Int} {S : List S8} : ∀ i v W W', CiV B C g1 n1 c1 g2 n2 c2 g3 n3 c3 P Q S i v W → Below W.heap.size W W' → CiV B C g1 n1 c1 g2 n2 c2 g3 n3 c3 P Q S i v W'
 | 0, _, _, _, h, _ => h
 | 1, _, _, _, h, _ => h
 | 2, _, _, _, h, hb => Lst.keep h hb
 | 3, _, _, _, h, _ => h
 | 4, _, _, _, h, _ => h
 | 5, _, _, _, h, hb => Lst.keep h hb
 | 6, _, _, _, h, _ => h
 | 7, _, _, _, h, _ => h
 | 8, _, _, _, h, hb => Lst.keep h hb
 | _ + 9, _, _, _, h, _ => h

theorem z38 : Hid (∃ Z : Array Value, (∀ w, (zeroValue 38).run Tryz.prog w = .ok (.agg Z) w) ∧ Z.size = 12) := Lib.hid ⟨#[.int .i64 0, .int .i64 0, .int .i64 0, .int .i64 0, .int .i64 0, .int .i64 0, .int .i64 0, .slice none 0 0, .slice none 0 0, .int .i64 0, .int .i64 0, .slice none 0 0], fun w => Tryz.zeroValue38 w, rfl⟩

theorem f38 : Hid (∃ FS : Array Field, (∀ w, (underlying 38).run Tryz.prog w = .ok (.struct FS) w) ∧ FS[7]? = some { name := "Panes", type := 32, offset := 7, embedded := false, tag := "", pkgPath := "", byteOffset := 56 } ∧ FS[8]? = some { name := "Colours", type := 32, offset := 8, embedded := false, tag := "", pkgPath := "", byteOffset := 80 } ∧ FS[10]? = some { name := "Sights", type := 36, offset := 11, embedded := false, tag := "", pkgPath := "", byteOffset := 120 }) :=
 Lib.hid ⟨_, run_underlying Tryz.underlying38, rfl, rfl, rfl⟩

theorem NB.sets {W : World} {b : Nat} {Z U : Array Value} {t : TypeId} (h : NB W b Z t) (hs : Z.size = U.size) : NB (W.setCells b 0 U.toList) b U t := by
 obtain ⟨cs, hc, hcs⟩ : ∃ cs, (W.setCells b 0 U.toList).heap[b]? = some (.cells cs t (0, 0)) ∧ cs.size = Z.size := by
  have gen : ∀ (l : List Value) (o : Nat) (W : World) (Z : Array Value), NB W b Z t → ∃ cs, (W.setCells b o l).heap[b]? = some (.cells cs t (0, 0)) ∧ cs.size = Z.size := by
   intro l
   induction l with
   | nil => intro o W Z h; exact ⟨Z, h, rfl⟩
   | cons v l ih =>
    intro o W Z h
    obtain ⟨cs, h1, h2⟩ := ih (o + 1) _ _ (h.set o v)
    exact ⟨cs, h1, by rw [h2]; simp⟩
  exact gen _ _ _ _ h
 have hr := World.rangeAt_setCells_same W b 0 U.toList (there_of h (o := 0) (n := U.toList.length) (by rw [Array.length_toList]; omega))
 have e : cs = U := by
  apply Array.ext_getElem?
  intro j
  by_cases hj : j < U.size
  ·have h1 := hr j U[j] (by simp [hj])
   unfold World.cell? at h1
   rw [Nat.zero_add] at h1
   simp only [hc, Option.isSome_none] at h1
   rw [show cs[j]? = some U[j] from by simpa using h1, Array.getElem?_eq_getElem hj]
  ·rw [Array.getElem?_eq_none (by omega), Array.getElem?_eq_none (by omega)]
 unfold NB
 rw [hc, e]
theorem chg_sets (b : Nat) : ∀ (l : List Value) (o : Nat) (W : World), Chg W (W.setCells b o l) (fun k => k = b)
 | [], _, _ => Chg.refl _ _
 | v :: l, o, _ => (Chg.set (fun k => k = b) b o v rfl).trans (chg_sets b l (o + 1) _) (fun _ _ e => e)

theorem store38 {w : World} {B : Nat} {V I : Array Value} (h : NB w B V 38) (hV : V.size = 12) (hI : I.size = 12) (h1 : I.all (·.oneCell') = true) : (storeCells ⟨B, 0, none⟩ I.toList 0).run Tryz.prog w = .ok () (w.setCells B 0 I.toList) := by
 have := run_storeVar_mid (P := Tryz.prog) w B 0 38 I (there_of h (by omega)) (by rw [hI]; kernel_rfl) h1
 simpa [storeVar, Tryz.sizeOf38, Value.cells, hI] using this

theorem IV.mk' {w : World} {y : Nv} (h : SlI w y.iP y.N.X.P ∧ SlI w y.iC y.N.X.C ∧ SlS w y.iS y.N.X.S) : IV w y := ⟨h.1, h.2.1, h.2.2⟩

set_option maxRecDepth 100000 in
set_option maxHeartbeats 4000000 in
theorem clone163 (x : Nv) (w : World) (h : IV w x) (hl1 : x.N.X.P.length ≤ 100000) (hl2 : x.N.X.C.length ≤ 100000) (hl3 : x.N.X.S.length ≤ 100000) :
  Calls Tryz.prog 163 #[.agg x.itm] w fun e w' => ∃ y : Nv, e = .returned (.agg y.itm) ∧ y.N.X = x.N.X ∧ Lst w.heap.size w' (fun W => IV W y) ∧ Below w.heap.size w w' := by
 obtain ⟨m, hm, ⟨hm0, hm1, hm2⟩, hs38⟩ := m38.out
 obtain ⟨Z, hz, hZ1⟩ := z38.out
 obtain ⟨FS, hu38, fs7, fs8, fs10⟩ := f38.out
 have hal : Below w.heap.size w ((w.alloc (.cells x.itm 38)).alloc (.cells Z 38)) := ((Below.refl _ _).alloc (Nat.le_refl _) _).alloc (by simp) _
 have hsz : ((w.alloc (.cells x.itm 38)).alloc (.cells Z 38)).heap.size = w.heap.size + 2 := by simp
 have n0 := (NB.new w x.itm 38).alloc (.cells Z 38)
 have n1' := nb1 w (.cells x.itm 38) Z 38
 have H1 := h.P.keep hal
 have H2 := h.C.keep hal
 have H3 := h.S.keep hal
 obtain ⟨g1, c1, e1, -, -⟩ := H1
 obtain ⟨g2, c2, e2, -, -⟩ := H2
 obtain ⟨g3, c3, e3, -, -⟩ := H3
 have H1 := Lib.hid (h.P.keep hal)
 have H2 := Lib.hid (h.C.keep hal)
 have H3 := Lib.hid (h.S.keep hal)
 rw [e1] at H1
 rw [e2] at H2
 rw [e3] at H3
 have v7 : Hid (x.itm[7]? = some (.slice g1 x.N.X.P.length c1)) := Lib.hid (by rw [← e1]; rfl)
 have v8 : Hid (x.itm[8]? = some (.slice g2 x.N.X.C.length c2)) := Lib.hid (by rw [← e2]; rfl)
 have v11 : Hid (x.itm[11]? = some (.slice g3 x.N.X.S.length c3)) := Lib.hid (by rw [← e3]; rfl)
 have hU : x.itm.size = m := (itm_size x).trans hm
 have HY := Lib.hid (show ∀ u0 u1 u2 W, NB W w.heap.size x.itm 38 → NB (((W.setCell ⟨w.heap.size, 7, none⟩ u0).setCell ⟨w.heap.size, 8, none⟩ u1).setCell ⟨w.heap.size, 11, none⟩ u2) w.heap.size (Nv.itm { x with iP := u0, iC := u1, iS := u2 }) 38 from fun u0 u1 u2 W n => ((n.set 7 u0).set 8 u1).set 11 u2)
 obtain ⟨X, hX⟩ : ∃ X, x.itm = X := ⟨_, rfl⟩
 rw [hX] at n0 n1' hal hsz v7 v8 v11 hU HY H1 H2 H3 ⊢
 clear e1 e2 e3 h hX
 have HM := Lib.hid hm
 go_enter Tryz.func163, Tryz.ntmps163
 go_wp2_with fail
 generalize hW0 : ((w.alloc (.cells X 38)).alloc (.cells Z 38)) = W0 at *
 clear hW0 hm
 have HC : Hid (W0.heap.size ≤ W0.heap.size) := Lib.hid (Nat.le_refl _)
 have HS := Lib.hid hsz
 have HA := Lib.hid hal
 have N0 := Lib.hid n0
 have N1 := Lib.hid n1'
 obtain ⟨B, hB⟩ : ∃ B, w.heap.size = B := ⟨_, rfl⟩
 have HB := Lib.hid hB
 rw [hB] at N0 N1 HS HA HY ⊢
 clear hsz hal n0 n1' hB
 obtain ⟨n1, hn1⟩ : ∃ n, x.N.X.P.length = n := ⟨_, rfl⟩
 obtain ⟨n2, hn2⟩ : ∃ n, x.N.X.C.length = n := ⟨_, rfl⟩
 obtain ⟨n3, hn3⟩ : ∃ n, x.N.X.S.length = n := ⟨_, rfl⟩
 have HL1 := Lib.hid hl1
 have HL2 := Lib.hid hl2
 have HL3 := Lib.hid hl3
 rw [hn1] at v7 H1
 rw [hn2] at v8 H2
 rw [hn3] at v11 H3
 clear hn1 hn2 hn3 hl1 hl2 hl3
 refine wp_region_valsT 10 (CiV B W0.heap.size g1 n1 c1 g2 n2 c2 g3 n3 c3 x.N.X.P x.N.X.C x.N.X.S) (by kernel_rfl) (by kernel_rfl) CiV.keep ?_ ?_
 ·simp only [List.take_succ_cons, List.take_zero]
  intro i o ho a' W hW hfr hdep
  have f1 : a'.tmps[1]?.getD undef = .pointer (some ⟨B, 0, none⟩) := Array.getD_eq_getD_getElem?.symm.trans (hfr 1 rfl)
  clear hfr
  have hi : i < 10 := by have := (List.getElem?_eq_some_iff.1 ho).1; simpa using this
  obtain rfl | rfl | rfl | rfl | rfl | rfl | rfl | rfl | rfl | rfl : i = 0 ∨ i = 1 ∨ i = 2 ∨ i = 3 ∨ i = 4 ∨ i = 5 ∨ i = 6 ∨ i = 7 ∨ i = 8 ∨ i = 9 := by omega
  all_goals simp only [List.getElem?_cons_zero, List.getElem?_cons_succ, Option.some.injEq] at ho
  all_goals subst ho
  ·clear hdep
   refine .inl ⟨_, W, ?_, Below.refl _ _, rfl⟩
   go_simp
  ·have d0 : a'.tmps[3]?.getD undef = .pointer (some ⟨B, 7, none⟩) := Array.getD_eq_getD_getElem?.symm.trans (hdep ⟨0, .data⟩ (by simp) rfl 3 rfl)
   clear hdep
   have c := (N0.out.keep hW).c v7.out
   refine .inl ⟨_, W, ?_, Below.refl _ _, rfl⟩
   go_simp
  ·have d0 : a'.tmps[4]?.getD undef = .slice g1 n1 c1 := Array.getD_eq_getD_getElem?.symm.trans (hdep ⟨1, .data⟩ (by simp) rfl 4 rfl)
   clear hdep
   refine .inr ⟨160, #[.slice g1 n1 c1], W, ?_, Below.refl _ _, (clone160 _ x.N.X.P HL1.out W (H1.out.keep hW)).mono ?_⟩
   ·go_simp
   ·rintro e W' ⟨u, rfl, hs, hb⟩
    exact ⟨_, rfl, hb, hs.mono (Nat.le_trans HC.out hW.size)⟩
  ·clear hdep
   refine .inl ⟨_, W, ?_, Below.refl _ _, rfl⟩
   go_simp
  ·have d0 : a'.tmps[6]?.getD undef = .pointer (some ⟨B, 8, none⟩) := Array.getD_eq_getD_getElem?.symm.trans (hdep ⟨3, .data⟩ (by simp) rfl 6 rfl)
   clear hdep
   have c := (N0.out.keep hW).c v8.out
   refine .inl ⟨_, W, ?_, Below.refl _ _, rfl⟩
   go_simp
  ·have d0 : a'.tmps[7]?.getD undef = .slice g2 n2 c2 := Array.getD_eq_getD_getElem?.symm.trans (hdep ⟨4, .data⟩ (by simp) rfl 7 rfl)
   clear hdep
   refine .inr ⟨160, #[.slice g2 n2 c2], W, ?_, Below.refl _ _, (clone160 _ x.N.X.C HL2.out W (H2.out.keep hW)).mono ?_⟩
   ·go_simp
   ·rintro e W' ⟨u, rfl, hs, hb⟩
    exact ⟨_, rfl, hb, hs.mono (Nat.le_trans HC.out hW.size)⟩
  ·clear hdep
   refine .inl ⟨_, W, ?_, Below.refl _ _, rfl⟩
   go_simp
  ·have d0 : a'.tmps[9]?.getD undef = .pointer (some ⟨B, 11, none⟩) := Array.getD_eq_getD_getElem?.symm.trans (hdep ⟨6, .data⟩ (by simp) rfl 9 rfl)
   clear hdep
   have c := (N0.out.keep hW).c v11.out
   refine .inl ⟨_, W, ?_, Below.refl _ _, rfl⟩
   go_simp
  ·have d0 : a'.tmps[10]?.getD undef = .slice g3 n3 c3 := Array.getD_eq_getD_getElem?.symm.trans (hdep ⟨7, .data⟩ (by simp) rfl 10 rfl)
   clear hdep
   refine .inr ⟨227, #[.slice g3 n3 c3], W, ?_, Below.refl _ _, (clone227 _ x.N.X.S HL3.out W (H3.out.keep hW)).mono ?_⟩
   ·go_simp
   ·rintro e W' ⟨u, rfl, hs, hb⟩
    exact ⟨_, rfl, hb, hs.mono (Nat.le_trans HC.out hW.size)⟩
  ·clear hdep
   refine .inl ⟨_, W, ?_, Below.refl _ _, rfl⟩
   go_simp
 ·intro W hW
  simp only [List.take_succ_cons, List.take_zero, List.map_cons, List.map_nil, VQ]
  rintro _ rfl _ rfl u0 s0 _ rfl _ rfl u1 s1 _ rfl _ rfl u2 s2 _ rfl
  have nW := N0.out.keep hW
  have f7 := nW.f 7
  have f8 := (nW.set 7 u0).f 8
  have f11 := ((nW.set 7 u0).set 8 u1).f 11
  have c7 : (W.cell? ⟨B, 7, none⟩) = some (.slice g1 n1 c1) := nW.c v7.out
  have c8 : (W.setCell ⟨B, 7, none⟩ u0).cell? ⟨B, 8, none⟩ = some (.slice g2 n2 c2) := by rw [World.cell?_setCell_other (h := by simp)]; exact nW.c v8.out
  have c11 : ((W.setCell ⟨B, 7, none⟩ u0).setCell ⟨B, 8, none⟩ u1).cell? ⟨B, 11, none⟩ = some (.slice g3 n3 c3) := by rw [World.cell?_setCell_other (h := by simp), World.cell?_setCell_other (h := by simp)]; exact nW.c v11.out
  have n2' := HY.out u0 u1 u2 W nW
  have n3' : NB (((W.setCell ⟨B, 7, none⟩ u0).setCell ⟨B, 8, none⟩ u1).setCell ⟨B, 11, none⟩ u2) (B + 1) Z 38 := (((N1.out.keep hW).other u0 (by omega)).other u1 (by omega)).other u2 (by omega)
  have ch : Chg W (((W.setCell ⟨B, 7, none⟩ u0).setCell ⟨B, 8, none⟩ u1).setCell ⟨B, 11, none⟩ u2) (fun k => k < W0.heap.size) := ((Chg.set (fun k => k < W0.heap.size) B 7 u0 (by have := HS.out; omega)).trans (Chg.set (fun k => k < W0.heap.size) B 8 u1 (by have := HS.out; omega)) (fun _ _ e => e)).trans (Chg.set (fun k => k < W0.heap.size) B 11 u2 (by have := HS.out; omega)) (fun _ _ e => e)
  have hL : Lst W0.heap.size (((W.setCell ⟨B, 7, none⟩ u0).setCell ⟨B, 8, none⟩ u1).setCell ⟨B, 11, none⟩ u2) (fun W => SlI W u0 x.N.X.P ∧ SlI W u1 x.N.X.C ∧ SlS W u2 x.N.X.S) := (Lst.chg s0 ch).and ((Lst.chg s1 ch).and (Lst.chg s2 ch))
  have bW : Below B w (((W.setCell ⟨B, 7, none⟩ u0).setCell ⟨B, 8, none⟩ u1).setCell ⟨B, 11, none⟩ u2) := HA.out.trans ((hW.mono (by have := HS.out; omega)).trans ⟨ch.os, ch.tape, ch.output, ch.size, fun k hk => ((heap_set (by omega)).trans (heap_set (by omega))).trans (heap_set (by omega))⟩)
  have h7 : SlI W u0 x.N.X.P := Lst.now s0
  have h8 : SlI W u1 x.N.X.C := Lst.now s1
  have h11 : SlS W u2 x.N.X.S := Lst.now s2
  obtain ⟨a7, k7, rfl, -, -⟩ := h7
  obtain ⟨a8, k8, rfl, -, -⟩ := h8
  obtain ⟨a11, k11, rfl, -, -⟩ := h11
  have HL4 := Lib.hid hL
  have HB2 := Lib.hid bW
  have N2 := Lib.hid n2'
  have N3 := Lib.hid n3'
  clear hW s0 s1 s2 nW ch hL bW H1 H2 H3 HL1 HL2 HL3 n2' n3'
  simp only [List.setIfInBounds_toArray, List.set_cons_zero, List.set_cons_succ, List.length_cons, List.length_nil, Nat.reduceAdd, Nat.reduceSub, ledList, List.replicate, List.cons_append, List.nil_append]
  refine wpAny_ready (rs := [10]) (by kernel_rfl) (by simp) (AllReady.cons rfl (fun K hK => ?_) AllReady.nil)
  simp only [List.getElem_toArray, List.getElem_cons_succ, List.getElem_cons_zero]
  rw [if_pos (show Region.wanted _ _ = true from rfl)]
  have HK := Lib.hid hK
  clear hK
  go_wp2_with fail
  refine HK.out _ _ ?_
  clear HK K
  refine wpAny_ready (rs := [11]) (by kernel_rfl) (by simp) (AllReady.cons rfl (fun K hK => ?_) AllReady.nil)
  simp only [List.getElem_toArray, List.getElem_cons_succ, List.getElem_cons_zero]
  rw [if_pos (show Region.wanted _ _ = true from rfl)]
  have HK := Lib.hid hK
  clear hK
  go_wp2_with fail
  refine HK.out _ _ ?_
  clear HK K
  refine wpAny_ready (rs := [12]) (by kernel_rfl) (by simp) (AllReady.cons rfl (fun K hK => ?_) AllReady.nil)
  simp only [List.getElem_toArray, List.getElem_cons_succ, List.getElem_cons_zero]
  rw [if_pos (show Region.wanted _ _ = true from rfl)]
  have HK := Lib.hid hK
  clear hK
  go_wp2_with fail
  refine HK.out _ _ ?_
  clear HK K
  refine wpAny_ready (rs := [13]) (by kernel_rfl) (by simp) (AllReady.cons rfl (fun K hK => ?_) AllReady.nil)
  simp only [List.getElem_toArray, List.getElem_cons_succ, List.getElem_cons_zero]
  rw [if_pos (show Region.wanted _ _ = true from rfl)]
  have HK := Lib.hid hK
  clear hK
  go_wp2_with fail
  refine HK.out _ _ ?_
  clear HK K
  refine wpAny_ready (rs := [14]) (by kernel_rfl) (by simp) (AllReady.cons rfl (fun K hK => ?_) AllReady.nil)
  simp only [List.getElem_toArray, List.getElem_cons_succ, List.getElem_cons_zero]
  rw [if_pos (show Region.wanted _ _ = true from rfl)]
  have HK := Lib.hid hK
  clear hK
  go_wp2_with fail
  refine HK.out _ _ ?_
  clear HK K
  refine wpAny_done (by kernel_rfl) ?_ _
  simp only [Exit.then]
  clear f7 f8 f11 c7 c8 c11
  generalize hWF : ((W.setCell ⟨B, 7, none⟩ (.slice a7 x.N.X.P.length k7)).setCell ⟨B, 8, none⟩ (.slice a8 x.N.X.C.length k8)).setCell ⟨B, 11, none⟩ (.slice a11 x.N.X.S.length k11) = WF at *
  clear hWF
  obtain ⟨y, hy⟩ : ∃ y : Nv, ({ x with iP := .slice a7 x.N.X.P.length k7, iC := .slice a8 x.N.X.C.length k8, iS := .slice a11 x.N.X.S.length k11 } : Nv) = y := ⟨_, rfl⟩
  have HI : Hid (Lst W0.heap.size WF (fun W => IV W y)) := Lib.hid (HL4.out.imp (fun W h => by rw [← hy]; exact IV.mk' h))
  have HYX : Hid (y.N.X = x.N.X) := Lib.hid (by rw [← hy])
  rw [hy] at N2
  clear hy
  have hUy : y.itm.size = m := (itm_size y).trans HM.out
  have h1 := itm_one HI.out.now
  have hld : (loadCellsFrom ⟨B, 0, none⟩ 0 m #[]).run Tryz.prog WF = .ok y.itm WF := N2.out.load hUy
  have hst : (storeCells ⟨B + 1, 0, none⟩ y.itm.toList 0).run Tryz.prog WF = .ok () (WF.setCells (B + 1) 0 y.itm.toList) := store38 N3.out hZ1 (itm_size y) h1
  have n5 : NB (WF.setCells (B + 1) 0 y.itm.toList) (B + 1) y.itm 38 := N3.out.sets (by rw [hZ1, itm_size])
  have LD := Lib.hid (any_load n5 Tryz.isAgg38 Tryz.sizeOf38 (itm_size y))
  have cS := chg_sets (B + 1) y.itm.toList 0 WF
  have fin : Hid (Lst w.heap.size (WF.setCells (B + 1) 0 y.itm.toList) (fun W => IV W y) ∧ Below w.heap.size w (WF.setCells (B + 1) 0 y.itm.toList)) := Lib.hid (by
   have hs := HS.out
   have hb := HB.out
   refine ⟨(HI.out.chg ⟨cS.os, cS.tape, cS.output, cS.size, fun k hk hn => cS.block k hk (fun e => hn (by omega))⟩).mono (by omega), ?_⟩
   rw [hb]
   exact HB2.out.trans (cS.below (Nat.le_trans (by omega) HB2.out.size) (fun k hk e => by omega)))
  clear n5 cS h1 HI N2 N3 HL4 HB2 HC HS HA v7 v8 v11
  obtain ⟨U, hYU⟩ : ∃ U, y.itm = U := ⟨_, rfl⟩
  have HYU := Lib.hid hYU
  rw [hYU] at hUy hld hst LD fin
  clear hYU
  go_at_K
  go_wp2_with fail
  exact bodyPost_ret (nres_cell (fn := Tryz.f163) rfl _ (by rfl) LD.out) rfl ⟨y, by rw [HYU.out], HYX.out, fin.out⟩

end Go.Proofs.YtcgmmfcphfkdhaaGreat

/- Walks: a note is cloned. -/
namespace Go.Proofs.YtcgmmfcphfkdhaaGreat
open Go Go.RowKit Go.Proofs Go.Torn Go.Abs

def CaV (B C : Nat) (g1 : Option Addr) (n1 c1 : Nat) (g2 : Option Addr) (n2 c2 : Nat) (P Q : List Int) : Nat → Value → World → Prop
 | 0, v, _ => v = .pointer (some ⟨B, 14, none⟩)
 | 1, v, _ => v = .slice g1 n1 c1
 | 2, v, W => Lst C W (fun W => SlI W v P)
 | 3, v, _ => v = .pointer (some ⟨B, 15, none⟩)
 | 4, v, _ => v = .slice g2 n2 c2
 | 5, v, W => Lst C W (fun W => SlI W v Q)
 | _, v, _ => v = .pointer (some ⟨B, 14, none⟩)
theorem CaV.keep {B C : Nat} {g1 : Option Addr} {n1 c1 : Nat} {g2 : Option Addr} {n2 c2 : Nat} {P Q : List Int} : ∀ i v W W', CaV B C g1 n1 c1 g2 n2 c2 P Q i v W → Below W.heap.size W W' → CaV B C g1 n1 c1 g2 n2 c2 P Q i v W'
 | 0, _, _, _, h, _ => h
 | 1, _, _, _, h, _ => h
 | 2, _, _, _, h, hb => Lst.keep h hb
 | 3, _, _, _, h, _ => h
 | 4, _, _, _, h, _ => h
 | 5, _, _, _, h, hb => Lst.keep h hb
 | _ + 6, _, _, _, h, _ => h

def CnV (B C : Nat) (g1 : Option Addr) (n1 c1 : Nat) (I : Array Value) (D : List Pc) (X : It) : Nat → Value → World → Prop
 | 0, v, _ => v = .pointer (some ⟨B, 16, none⟩)
 | 1, v, _ => v = .slice g1 n1 c1
 | 2, v, W => Lst C W (fun W => SlP W v D)
 | 3, v, _ => v = .pointer (some ⟨B, 17, none⟩)
 | 4, v, _ => v = .agg I
 | 5, v, W => ∃ y : Nv, v = .agg y.itm ∧ y.N.X = X ∧ Lst C W (fun W => IV W y)
 | _, v, _ => v = .pointer (some ⟨B, 16, none⟩)
theorem CnV.keep {B C : Nat} {g1 : Option Addr} {n1 c1 : Nat} {I : Array Value} {D : List Pc} {X : It} : ∀ i v W W', CnV B C g1 n1 c1 I D X i v W → Below W.heap.size W W' → CnV B C g1 n1 c1 I D X i v W'
 | 0, _, _, _, h, _ => h
 | 1, _, _, _, h, _ => h
 | 2, _, _, _, h, hb => Lst.keep h hb
 | 3, _, _, _, h, _ => h
 | 4, _, _, _, h, _ => h
 | 5, _, _, _, h, hb => by obtain ⟨y, h1, h2, h3⟩ := h; exact ⟨y, h1, h2, h3.keep hb⟩
 | _ + 6, _, _, _, h, _ => h

set_option maxRecDepth 100000 in
set_option maxHeartbeats 8000000 in
theorem clone91 (x : Nv) (w : World) (h : NV w x) (hl1 : x.N.P.length ≤ 100000) (hl2 : x.N.Q.length ≤ 100000) (hl3 : x.N.D.length ≤ 100000) (hl4 : ∀ p ∈ x.N.D, p.G.length ≤ 100000 ∧ p.M.length ≤ 100000) (hl5 : x.N.X.P.length ≤ 100000) (hl6 : x.N.X.C.length ≤ 100000) (hl7 : x.N.X.S.length ≤ 100000) :
  Calls Tryz.prog 91 #[.agg x.arr] w fun e w' => ∃ y : Nv, e = .returned (.agg y.arr) ∧ y.N = x.N ∧ Lst w.heap.size w' (fun W => NV W y) ∧ Below w.heap.size w w' := by
 obtain ⟨m, hm, ⟨hm0, hm1, hm2⟩, hs40⟩ := m40.out
 obtain ⟨m', hm', ⟨hm0', hm1', hm2'⟩, hs38⟩ := m38.out
 obtain ⟨Z, hz, hZ1, hZ2⟩ := z40.out
 obtain ⟨FS, hu40, fs0, fs1, fs2, fs3, fs4, fs5, fs6, fs7, fs8, fs9, fs10, fs11, fs12, fs13, fs14, fs15⟩ := f40.out
 clear fs0 fs1 fs2 fs3 fs4 fs5 fs6 fs7 fs8 fs9 fs10 fs11
 have hal : Below w.heap.size w ((w.alloc (.cells x.arr 40)).alloc (.cells Z 40)) := ((Below.refl _ _).alloc (Nat.le_refl _) _).alloc (by simp) _
 have hsz : ((w.alloc (.cells x.arr 40)).alloc (.cells Z 40)).heap.size = w.heap.size + 2 := by simp
 have n0 := (NB.new w x.arr 40).alloc (.cells Z 40)
 have n1' := nb1 w (.cells x.arr 40) Z 40
 obtain ⟨g1, c1, e1, -, -⟩ := h.P
 obtain ⟨g2, c2, e2, -, -⟩ := h.Q
 obtain ⟨g3, c3, e3, -, -⟩ := h.D
 have v14 : Hid (x.arr[14]? = some (.slice g1 x.N.P.length c1)) := Lib.hid (by rw [← e1]; rfl)
 have v15 : Hid (x.arr[15]? = some (.slice g2 x.N.Q.length c2)) := Lib.hid (by rw [← e2]; rfl)
 have H1 : Hid (SlI w (.slice g1 x.N.P.length c1) x.N.P) := Lib.hid (by rw [← e1]; exact h.P)
 have H2 : Hid (SlI w (.slice g2 x.N.Q.length c2) x.N.Q) := Lib.hid (by rw [← e2]; exact h.Q)
 have H3 : Hid (SlP w (.slice g3 x.N.D.length c3) x.N.D) := Lib.hid (by rw [← e3]; exact h.D)
 have H4 := Lib.hid h.X
 have hU : x.arr.size = m := (arr_size x).trans hm
 have HY := Lib.hid (show ∀ u0 u1 W, NB W w.heap.size x.arr 40 → NB ((W.setCell ⟨w.heap.size, 14, none⟩ u0).setCell ⟨w.heap.size, 15, none⟩ u1) w.heap.size (Nv.arr { x with uP := u0, uQ := u1 }) 40 from fun u0 u1 W n => (n.set 14 u0).set 15 u1)
 have HV16 : Hid (∀ u0 u1, (Nv.arr { x with uP := u0, uQ := u1 })[16]? = some (.slice g3 x.N.D.length c3)) := Lib.hid (fun u0 u1 => by rw [← e3]; rfl)
 have HX : Hid (∀ u0 u1 W b, NB W b (Nv.arr { x with uP := u0, uQ := u1 }) 40 → (loadCellsFrom ⟨b, 17, none⟩ 0 m' #[]).run Tryz.prog W = .ok x.itm W) := Lib.hid (fun u0 u1 W b n => n.loadX hm')
 obtain ⟨X, hX⟩ : ∃ X, x.arr = X := ⟨_, rfl⟩
 rw [hX] at n0 n1' hal hsz v14 v15 hU HY ⊢
 clear e1 e2 e3 h hX
 have HM := Lib.hid hm
 have HM' := Lib.hid hm'
 have HL1 := Lib.hid hl1
 have HL2 := Lib.hid hl2
 have HL3 := Lib.hid hl3
 have HL4 := Lib.hid hl4
 have HL5 := Lib.hid hl5
 have HL6 := Lib.hid hl6
 have HL7 := Lib.hid hl7
 clear hl1 hl2 hl3 hl4 hl5 hl6 hl7
 go_enter Tryz.func91, Tryz.ntmps91
 go_wp2_with fail
 generalize hW0 : ((w.alloc (.cells X 40)).alloc (.cells Z 40)) = W0 at *
 clear hW0 hm hm'
 have HC : Hid (w.heap.size ≤ W0.heap.size) := Lib.hid (by rw [hsz]; omega)
 have HS := Lib.hid hsz
 have HA := Lib.hid hal
 have N0 := Lib.hid n0
 have N1 := Lib.hid n1'
 obtain ⟨B, hB⟩ : ∃ B, w.heap.size = B := ⟨_, rfl⟩
 have HB := Lib.hid hB
 rw [hB] at N0 N1 HS HA HY ⊢
 clear hsz hal n0 n1' hB
 obtain ⟨n1, hn1⟩ : ∃ n, x.N.P.length = n := ⟨_, rfl⟩
 obtain ⟨n2, hn2⟩ : ∃ n, x.N.Q.length = n := ⟨_, rfl⟩
 rw [hn1] at v14 H1
 rw [hn2] at v15 H2
 clear hn1 hn2
 have HBW := Lib.hid (show ∀ W, Below W0.heap.size W0 W → Below w.heap.size w W from fun W hW => by rw [HB.out]; exact HA.out.trans (hW.mono (by have := HS.out; omega)))
 refine wp_region_valsT 7 (CaV B W0.heap.size g1 n1 c1 g2 n2 c2 x.N.P x.N.Q) (by kernel_rfl) (by kernel_rfl) CaV.keep ?_ ?_
 ·simp only [List.take_succ_cons, List.take_zero]
  intro i o ho a' W hW hfr hdep
  have f1 : a'.tmps[1]?.getD undef = .pointer (some ⟨B, 0, none⟩) := Array.getD_eq_getD_getElem?.symm.trans (hfr 1 rfl)
  clear hfr
  have hi : i < 7 := by have := (List.getElem?_eq_some_iff.1 ho).1; simpa using this
  obtain rfl | rfl | rfl | rfl | rfl | rfl | rfl : i = 0 ∨ i = 1 ∨ i = 2 ∨ i = 3 ∨ i = 4 ∨ i = 5 ∨ i = 6 := by omega
  all_goals simp only [List.getElem?_cons_zero, List.getElem?_cons_succ, Option.some.injEq] at ho
  all_goals subst ho
  ·clear hdep
   refine .inl ⟨_, W, ?_, Below.refl _ _, rfl⟩
   go_simp
  ·have d0 : a'.tmps[3]?.getD undef = .pointer (some ⟨B, 14, none⟩) := Array.getD_eq_getD_getElem?.symm.trans (hdep ⟨0, .data⟩ (by simp) rfl 3 rfl)
   clear hdep
   have c := (N0.out.keep hW).c v14.out
   refine .inl ⟨_, W, ?_, Below.refl _ _, rfl⟩
   go_simp
  ·have d0 : a'.tmps[4]?.getD undef = .slice g1 n1 c1 := Array.getD_eq_getD_getElem?.symm.trans (hdep ⟨1, .data⟩ (by simp) rfl 4 rfl)
   clear hdep
   refine .inr ⟨160, #[.slice g1 n1 c1], W, ?_, Below.refl _ _, (clone160 _ x.N.P HL1.out W (H1.out.keep (HBW.out W hW))).mono ?_⟩
   ·go_simp
   ·rintro e W' ⟨u, rfl, hs, hb⟩
    exact ⟨_, rfl, hb, hs.mono (hW.size)⟩
  ·clear hdep
   refine .inl ⟨_, W, ?_, Below.refl _ _, rfl⟩
   go_simp
  ·have d0 : a'.tmps[6]?.getD undef = .pointer (some ⟨B, 15, none⟩) := Array.getD_eq_getD_getElem?.symm.trans (hdep ⟨3, .data⟩ (by simp) rfl 6 rfl)
   clear hdep
   have c := (N0.out.keep hW).c v15.out
   refine .inl ⟨_, W, ?_, Below.refl _ _, rfl⟩
   go_simp
  ·have d0 : a'.tmps[7]?.getD undef = .slice g2 n2 c2 := Array.getD_eq_getD_getElem?.symm.trans (hdep ⟨4, .data⟩ (by simp) rfl 7 rfl)
   clear hdep
   refine .inr ⟨160, #[.slice g2 n2 c2], W, ?_, Below.refl _ _, (clone160 _ x.N.Q HL2.out W (H2.out.keep (HBW.out W hW))).mono ?_⟩
   ·go_simp
   ·rintro e W' ⟨u, rfl, hs, hb⟩
    exact ⟨_, rfl, hb, hs.mono (hW.size)⟩
  ·clear hdep
   refine .inl ⟨_, W, ?_, Below.refl _ _, rfl⟩
   go_simp
 ·intro W hW
  simp only [List.take_succ_cons, List.take_zero, List.map_cons, List.map_nil, VQ]
  rintro _ rfl _ rfl u0 s0 _ rfl _ rfl u1 s1 _ rfl
  have nW := N0.out.keep hW
  have f14 := nW.f 14
  have f15 := (nW.set 14 u0).f 15
  have c14 : W.cell? ⟨B, 14, none⟩ = some (.slice g1 n1 c1) := nW.c v14.out
  have c15 : (W.setCell ⟨B, 14, none⟩ u0).cell? ⟨B, 15, none⟩ = some (.slice g2 n2 c2) := by rw [World.cell?_setCell_other (h := by simp)]; exact nW.c v15.out
  have n2' := HY.out u0 u1 W nW
  have n3' : NB ((W.setCell ⟨B, 14, none⟩ u0).setCell ⟨B, 15, none⟩ u1) (B + 1) Z 40 := ((N1.out.keep hW).other u0 (by omega)).other u1 (by omega)
  have ch : Chg W ((W.setCell ⟨B, 14, none⟩ u0).setCell ⟨B, 15, none⟩ u1) (fun k => k < W0.heap.size) := (Chg.set (fun k => k < W0.heap.size) B 14 u0 (by have := HS.out; omega)).trans (Chg.set (fun k => k < W0.heap.size) B 15 u1 (by have := HS.out; omega)) (fun _ _ e => e)
  have hL : Lst W0.heap.size ((W.setCell ⟨B, 14, none⟩ u0).setCell ⟨B, 15, none⟩ u1) (fun W => SlI W u0 x.N.P ∧ SlI W u1 x.N.Q) := (Lst.chg s0 ch).and (Lst.chg s1 ch)
  have bW : Below B w ((W.setCell ⟨B, 14, none⟩ u0).setCell ⟨B, 15, none⟩ u1) := HA.out.trans ((hW.mono (by have := HS.out; omega)).trans ⟨ch.os, ch.tape, ch.output, ch.size, fun k hk => (heap_set (by omega)).trans (heap_set (by omega))⟩)
  have hsz1 : W0.heap.size ≤ ((W.setCell ⟨B, 14, none⟩ u0).setCell ⟨B, 15, none⟩ u1).heap.size := by rw [size_set, size_set]; exact hW.size
  have h14 : SlI W u0 x.N.P := Lst.now s0
  have h15 : SlI W u1 x.N.Q := Lst.now s1
  obtain ⟨a14, k14, rfl, -, -⟩ := h14
  obtain ⟨a15, k15, rfl, -, -⟩ := h15
  have HLA := Lib.hid hL
  have HB2 := Lib.hid bW
  have N2 := Lib.hid n2'
  have N3 := Lib.hid n3'
  have HZ1 := Lib.hid hsz1
  clear hW s0 s1 nW ch hL bW H1 H2 HL1 HL2 n2' n3' hsz1
  simp only [List.setIfInBounds_toArray, List.set_cons_zero, List.set_cons_succ, List.length_cons, List.length_nil, Nat.reduceAdd, Nat.reduceSub, ledList, List.replicate, List.cons_append, List.nil_append]
  refine wpAny_ready (rs := [7]) (by kernel_rfl) (by simp) (AllReady.cons rfl (fun K hK => ?_) AllReady.nil)
  simp only [List.getElem_toArray, List.getElem_cons_succ, List.getElem_cons_zero]
  rw [if_pos (show Region.wanted _ _ = true from rfl)]
  have HK := Lib.hid hK
  clear hK
  go_wp2_with fail
  refine HK.out _ _ ?_
  clear HK K
  refine wpAny_ready (rs := [8]) (by kernel_rfl) (by simp) (AllReady.cons rfl (fun K hK => ?_) AllReady.nil)
  simp only [List.getElem_toArray, List.getElem_cons_succ, List.getElem_cons_zero]
  rw [if_pos (show Region.wanted _ _ = true from rfl)]
  have HK := Lib.hid hK
  clear hK
  go_wp2_with fail
  refine HK.out _ _ ?_
  clear HK K
  refine wpAny_ready (rs := [9]) (by kernel_rfl) (by simp) (AllReady.cons rfl (fun K hK => ?_) AllReady.nil)
  simp only [List.getElem_toArray, List.getElem_cons_succ, List.getElem_cons_zero]
  rw [if_pos (show Region.wanted _ _ = true from rfl)]
  have HK := Lib.hid hK
  clear hK
  go_wp2_with fail
  refine HK.out _ _ ?_
  clear HK K
  refine wpAny_done (by kernel_rfl) ?_ _
  simp only [Exit.then]
  clear f14 f15 c14 c15
  generalize hWF : (W.setCell ⟨B, 14, none⟩ (.slice a14 x.N.P.length k14)).setCell ⟨B, 15, none⟩ (.slice a15 x.N.Q.length k15) = WF at *
  clear hWF
  have V16 := Lib.hid (HV16.out (.slice a14 x.N.P.length k14) (.slice a15 x.N.Q.length k15))
  have X17 := Lib.hid (HX.out (.slice a14 x.N.P.length k14) (.slice a15 x.N.Q.length k15))
  obtain ⟨x1, hx1⟩ : ∃ x1 : Nv, ({ x with uP := .slice a14 x.N.P.length k14, uQ := .slice a15 x.N.Q.length k15 } : Nv) = x1 := ⟨_, rfl⟩
  have HX1 := Lib.hid hx1
  rw [hx1] at N2 V16 X17
  clear hx1
  obtain ⟨X1, hX1⟩ : ∃ X1, x1.arr = X1 := ⟨_, rfl⟩
  have HX1a := Lib.hid hX1
  rw [hX1] at N2 V16 X17
  clear hX1
  obtain ⟨I, hI⟩ : ∃ I, x.itm = I := ⟨_, rfl⟩
  have HI := Lib.hid hI
  rw [hI] at X17
  clear hI N0 N1 v14 v15 HV16 HX HY HBW hU
  obtain ⟨n3, hn3⟩ : ∃ n, x.N.D.length = n := ⟨_, rfl⟩
  rw [hn3] at V16 H3
  clear hn3
  have HBW := Lib.hid (show ∀ W, Below WF.heap.size WF W → Below w.heap.size w W from fun W hW => by rw [HB.out]; exact HB2.out.trans (hW.mono (by have := HS.out; have := HZ1.out; omega)))
  have H163 := Lib.hid (show ∀ W, Below WF.heap.size WF W → Calls Tryz.prog 163 #[.agg I] W fun e w' => ∃ y : Nv, e = .returned (.agg y.itm) ∧ y.N.X = x.N.X ∧ Lst W.heap.size w' (fun W => IV W y) ∧ Below W.heap.size W w' from fun W hW => by
   rw [← HI.out]
   exact clone163 x W (H4.out.keep (HBW.out W hW)) HL5.out HL6.out HL7.out)
  clear HI
  go_at_K
  go_wp2_with fail
  refine wp_region_valsT 7 (CnV B W0.heap.size g3 n3 c3 I x.N.D x.N.X) (by kernel_rfl) (by kernel_rfl) CnV.keep ?_ ?_
  ·simp only [List.take_succ_cons, List.take_zero]
   intro i o ho a' W hW hfr hdep
   have f1 : a'.tmps[1]?.getD undef = .pointer (some ⟨B, 0, none⟩) := Array.getD_eq_getD_getElem?.symm.trans (hfr 1 rfl)
   clear hfr
   have hi : i < 7 := by have := (List.getElem?_eq_some_iff.1 ho).1; simpa using this
   obtain rfl | rfl | rfl | rfl | rfl | rfl | rfl : i = 0 ∨ i = 1 ∨ i = 2 ∨ i = 3 ∨ i = 4 ∨ i = 5 ∨ i = 6 := by omega
   all_goals simp only [List.getElem?_cons_zero, List.getElem?_cons_succ, Option.some.injEq] at ho
   all_goals subst ho
   ·clear hdep
    refine .inl ⟨_, W, ?_, Below.refl _ _, rfl⟩
    go_simp
   ·have d0 : a'.tmps[11]?.getD undef = .pointer (some ⟨B, 16, none⟩) := Array.getD_eq_getD_getElem?.symm.trans (hdep ⟨0, .data⟩ (by simp) rfl 11 rfl)
    clear hdep
    have c := (N2.out.keep hW).c V16.out
    refine .inl ⟨_, W, ?_, Below.refl _ _, rfl⟩
    go_simp
   ·have d0 : a'.tmps[12]?.getD undef = .slice g3 n3 c3 := Array.getD_eq_getD_getElem?.symm.trans (hdep ⟨1, .data⟩ (by simp) rfl 12 rfl)
    clear hdep
    refine .inr ⟨161, #[.slice g3 n3 c3, .func (.func 162) #[] #[]], W, ?_, Below.refl _ _, (each161 _ x.N.D W (H3.out.keep (HBW.out W hW)) HL3.out HL4.out).mono ?_⟩
    ·go_simp
    ·rintro e W' ⟨u, rfl, hs, hb⟩
     exact ⟨_, rfl, hb, hs.mono (Nat.le_trans HZ1.out hW.size)⟩
   ·clear hdep
    refine .inl ⟨_, W, ?_, Below.refl _ _, rfl⟩
    go_simp
   ·have d0 : a'.tmps[14]?.getD undef = .pointer (some ⟨B, 17, none⟩) := Array.getD_eq_getD_getElem?.symm.trans (hdep ⟨3, .data⟩ (by simp) rfl 14 rfl)
    clear hdep
    have c := X17.out W B (N2.out.keep hW)
    refine .inl ⟨_, W, ?_, Below.refl _ _, rfl⟩
    go_simp
   ·have d0 : a'.tmps[15]?.getD undef = .agg I := Array.getD_eq_getD_getElem?.symm.trans (hdep ⟨4, .data⟩ (by simp) rfl 15 rfl)
    clear hdep
    refine .inr ⟨163, #[.agg I], W, ?_, Below.refl _ _, (H163.out W hW).mono ?_⟩
    ·go_simp
    ·rintro e W' ⟨y, rfl, hy, hs, hb⟩
     exact ⟨_, rfl, hb, y, rfl, hy, hs.mono (Nat.le_trans HZ1.out hW.size)⟩
   ·clear hdep
    refine .inl ⟨_, W, ?_, Below.refl _ _, rfl⟩
    go_simp
  ·intro W hW
   simp only [List.take_succ_cons, List.take_zero, List.map_cons, List.map_nil, VQ]
   rintro _ rfl _ rfl u0 s0 _ rfl _ rfl u1 s1 _ rfl
   obtain ⟨y1, rfl, hy1, s1⟩ := s1
   have nW : NB W B X1 40 := N2.out.keep hW
   have f16 := nW.f 16
   have c16 : W.cell? ⟨B, 16, none⟩ = some (.slice g3 n3 c3) := nW.c V16.out
   have hX1s : X1.size = 29 := by rw [← HX1a.out]; rfl
   have h1J := itm_one (Lst.now s1)
   have hst : (storeCells ⟨B, 17, none⟩ y1.itm.toList 0).run Tryz.prog (W.setCell ⟨B, 16, none⟩ u0) = .ok () ((W.setCell ⟨B, 16, none⟩ u0).setCells B 17 y1.itm.toList) := storeI (nW.set 16 u0) (by simpa using hX1s) (itm_size y1) h1J
   have hJs : y1.itm.size = m' := (itm_size y1).trans HM'.out
   obtain ⟨x2, hx2⟩ : ∃ x2 : Nv, ({ x1 with uD := u0, N := { x1.N with X := y1.N.X }, iP := y1.iP, iC := y1.iC, iS := y1.iS } : Nv) = x2 := ⟨_, rfl⟩
   have n2' : NB ((W.setCell ⟨B, 16, none⟩ u0).setCells B 17 y1.itm.toList) B x2.arr 40 := by
    rw [← hx2]
    have h0 : NB (W.setCell ⟨B, 16, none⟩ u0) B (Nv.arr { x1 with uD := u0 }) 40 := by
     have := nW
     rw [← HX1a.out] at this
     exact this.set 16 u0
    exact setI (x := y1) h0
   have n3' : NB ((W.setCell ⟨B, 16, none⟩ u0).setCells B 17 y1.itm.toList) (B + 1) Z 40 := NB.others (by omega) _ _ _ ((N3.out.keep hW).other u0 (by omega))
   have ch : Chg W ((W.setCell ⟨B, 16, none⟩ u0).setCells B 17 y1.itm.toList) (fun k => k = B) := (Chg.set (fun k => k = B) B 16 u0 rfl).trans (chg_sets B _ 17 _) (fun _ _ e => e)
   have ch' : Chg W ((W.setCell ⟨B, 16, none⟩ u0).setCells B 17 y1.itm.toList) (fun k => k < W0.heap.size) := ⟨ch.os, ch.tape, ch.output, ch.size, fun k hk hn => ch.block k hk (fun e => hn (by have := HS.out; omega))⟩
   have hNx : x2.N = x.N := by
    rw [← hx2, ← HX1.out]
    show ({ x.N with X := y1.N.X } : Nt) = x.N
    rw [hy1]
   have hL : Lst W0.heap.size ((W.setCell ⟨B, 16, none⟩ u0).setCells B 17 y1.itm.toList) (fun W => NV W x2) := by
    have h1 := (HLA.out.keep hW).chg ch'
    have h2 := Lst.chg s0 ch'
    have h3 := Lst.chg s1 ch'
    refine (h1.and (h2.and h3)).imp (fun W h => ?_)
    rw [← hx2, ← HX1.out]
    exact ⟨h.1.1, h.1.2, h.2.1, ⟨h.2.2.P, h.2.2.C, h.2.2.S⟩⟩
   have bW : Below B w ((W.setCell ⟨B, 16, none⟩ u0).setCells B 17 y1.itm.toList) := HB2.out.trans ((hW.mono (by have := HS.out; have := HZ1.out; omega)).trans (ch.below (by have := HS.out; have := HZ1.out; have := hW.size; omega) (fun k hk e => by omega)))
   have h16 : SlP W u0 x.N.D := Lst.now s0
   obtain ⟨a16, k16, rfl, -, -⟩ := h16
   have HLF := Lib.hid hL
   have HBF := Lib.hid bW
   have HNX := Lib.hid hNx
   have N4 := Lib.hid n2'
   have N5 := Lib.hid n3'
   have HSZ := Lib.hid (show W0.heap.size ≤ ((W.setCell ⟨B, 16, none⟩ (.slice a16 x.N.D.length k16)).setCells B 17 y1.itm.toList).heap.size from Nat.le_trans (Nat.le_trans HZ1.out hW.size) ch.size)
   clear hW s0 s1 nW ch ch' hL bW H3 H4 HL3 HL4 HL5 HL6 HL7 n2' n3' hNx h1J hy1 hx2 HBW H163 HX1 HX1a HLA HB2 N2 N3 V16 X17 hX1s
   generalize hJ : y1.itm = J at *
   clear hJ
   simp only [List.setIfInBounds_toArray, List.set_cons_zero, List.set_cons_succ, List.length_cons, List.length_nil, Nat.reduceAdd, Nat.reduceSub, ledList, List.replicate, List.cons_append, List.nil_append]
   refine wpAny_ready (rs := [7]) (by kernel_rfl) (by simp) (AllReady.cons rfl (fun K hK => ?_) AllReady.nil)
   simp only [List.getElem_toArray, List.getElem_cons_succ, List.getElem_cons_zero]
   rw [if_pos (show Region.wanted _ _ = true from rfl)]
   have HK := Lib.hid hK
   clear hK
   go_wp2_with fail
   refine HK.out _ _ ?_
   clear HK K
   refine wpAny_ready (rs := [8]) (by kernel_rfl) (by simp) (AllReady.cons rfl (fun K hK => ?_) AllReady.nil)
   simp only [List.getElem_toArray, List.getElem_cons_succ, List.getElem_cons_zero]
   rw [if_pos (show Region.wanted _ _ = true from rfl)]
   have HK := Lib.hid hK
   clear hK
   go_wp2_with fail
   refine HK.out _ _ ?_
   clear HK K
   refine wpAny_ready (rs := [9]) (by kernel_rfl) (by simp) (AllReady.cons rfl (fun K hK => ?_) AllReady.nil)
   simp only [List.getElem_toArray, List.getElem_cons_succ, List.getElem_cons_zero]
   rw [if_pos (show Region.wanted _ _ = true from rfl)]
   have HK := Lib.hid hK
   clear hK
   go_wp2_with fail
   refine HK.out _ _ ?_
   clear HK K
   refine wpAny_done (by kernel_rfl) ?_ _
   simp only [Exit.then]
   clear f16 c16 hst
   generalize hWG : (W.setCell ⟨B, 16, none⟩ (.slice a16 x.N.D.length k16)).setCells B 17 J.toList = WG at *
   clear hWG
   have hU2 : x2.arr.size = m := (arr_size x2).trans HM.out
   have h1 := (HLF.out.now).one
   have hld : (loadCellsFrom ⟨B, 0, none⟩ 0 m #[]).run Tryz.prog WG = .ok x2.arr WG := N4.out.load hU2
   obtain ⟨hst2, hlv⟩ := fin179 N5.out hZ1 (arr_size x2) h1
   have LD := Lib.hid hlv
   have cS := chg_sets (B + 1) x2.arr.toList 0 WG
   have fin : Hid (Lst w.heap.size (WG.setCells (B + 1) 0 x2.arr.toList) (fun W => NV W x2) ∧ Below w.heap.size w (WG.setCells (B + 1) 0 x2.arr.toList)) := Lib.hid (by
    have hs := HS.out
    have hb := HB.out
    refine ⟨(HLF.out.chg ⟨cS.os, cS.tape, cS.output, cS.size, fun k hk hn => cS.block k hk (fun e => hn (by omega))⟩).mono (by omega), ?_⟩
    rw [hb]
    exact HBF.out.trans (cS.below (by have := HSZ.out; omega) (fun k hk e => by omega)))
   clear hlv cS h1 HLF HBF N4 N5 HC HS HA HSZ HZ1
   obtain ⟨U, hYU⟩ : ∃ U, x2.arr = U := ⟨_, rfl⟩
   have HYU := Lib.hid hYU
   rw [hYU] at hU2 hld hst2 LD fin
   clear hYU
   go_at_K
   go_wp2_with fail
   exact bodyPost_ret (nres_cell (fn := Tryz.f91) rfl _ (by rfl) LD.out) rfl ⟨x2, by rw [HYU.out], HNX.out, fin.out⟩

end Go.Proofs.YtcgmmfcphfkdhaaGreat

/- Walks: notes are cloned one by one. -/
namespace Go.Proofs.YtcgmmfcphfkdhaaGreat
open Go Go.RowKit Go.Proofs Go.Torn Go.Abs

def Nt.bd (n : Nt) : Prop := n.P.length ≤ 100000 ∧ n.Q.length ≤ 100000 ∧ n.D.length ≤ 100000 ∧ (∀ p ∈ n.D, p.G.length ≤ 100000 ∧ p.M.length ≤ 100000) ∧ n.X.P.length ≤ 100000 ∧ n.X.C.length ≤ 100000 ∧ n.X.S.length ≤ 100000

def cN (x : Nv) : List Value := x.arr.toList
def pN (x : Nv) (W : World) : Prop := NV W x

theorem slN_of {W : World} {base : Nat} {v : Value} {L : List Nv} (h : RowF W base 40 29 cN pN v L) (hl : L.length ≤ 1000000) : Lst base W (fun W => SlN W v (L.map Nv.N)) := fun W' c => by
 have ho := c.own h.own (fun k hk e => by have := own_lt' h.own k hk; omega)
 rcases ho.2 with ⟨rfl, h0⟩ | ⟨g, cp, cur, rfl, -⟩
 ·exact ⟨none, 0, by rw [List.length_map, h0], by rw [List.length_map]; omega, fun k hk => by rw [List.length_map] at hk; omega⟩
 ·refine ⟨_, cp, by rw [List.length_map], by rw [List.length_map]; omega, fun k hk => ⟨g, 0, rfl, ?_⟩⟩
  rw [List.length_map] at hk
  refine ⟨L[k], by unfold nz; simp [List.getD, hk], (h.far L[k] (List.getElem_mem hk)).last W' c, fun j u hu => ?_⟩
  have hj := (Array.getElem?_eq_some_iff.1 hu).1
  rw [arr_size] at hj
  rw [Nat.zero_add, World.ownsRow.cellAt ho (k * 29 + j) (by omega), fm_get cN 29 (fun _ => rfl) L k j _ (List.getElem?_eq_getElem hk) hj]
  unfold cN
  rw [Array.getElem?_toList]
  exact hu

set_option maxRecDepth 100000 in
set_option maxHeartbeats 4000000 in
theorem each122 (u : Value) (K : List Nt) (w : World) (h : SlN w u K) (hl : K.length ≤ 100000) (hG : ∀ n ∈ K, n.bd) :
  Calls Tryz.prog 122 #[u, .func (.func 91) #[] #[]] w fun e w' => ∃ v, e = .returned v ∧ Lst w.heap.size w' (fun W => SlN W v K) ∧ Below w.heap.size w w' := by
 obtain ⟨m, hm, ⟨hm0, hm1, hm2⟩, hs40⟩ := m40.out
 obtain ⟨Z, hz, hZ1, hZ2⟩ := z40.out
 obtain ⟨i0, hi, hz0, hz1, hz2⟩ := info_parts info40
 obtain ⟨a, cap, rfl, -, hc⟩ := h
 have HC := Lib.hid hc
 have HG := Lib.hid hG
 have HM := Lib.hid hm
 have HI := Lib.hid (And.intro hi (And.intro hz0 (And.intro hz1 hz2)))
 obtain ⟨n, hn⟩ : ∃ n, K.length = n := ⟨_, rfl⟩
 have HN := Lib.hid hn
 rw [hn] at HC hl ⊢
 clear hn hc hG hm hi hz0 hz1 hz2
 go_enter Tryz.func122, Tryz.ntmps122
 go_wp2_with fail
 go_loopw [5, 10] (fun v i wr => ∃ q : Nat, q ≤ n ∧ i = .int .i64 q ∧ Hid (∃ L : List Nv, L.map Nv.N = K.take q ∧ RowF wr w.heap.size 40 29 cN pN v L) ∧ Hid (Below w.heap.size w wr)) (fun _ i _ => n - (intOf i).toNat)
 case atStart => exact ⟨0, by omega, rfl, Lib.hid ⟨[], by simp, RowF.nil _ _ _ _ _ _⟩, Lib.hid (Below.refl _ _)⟩
 case round =>
  obtain ⟨q, hq, rfl, hrel, hbel⟩ := hrel
  obtain ⟨L, hL, hrow⟩ := hrel.out
  clear hrel
  have HLl := Lib.hid (show L.length = q by
   have := congrArg List.length hL
   rw [List.length_map, List.length_take, HN.out] at this
   omega)
  by_cases hq1 : q < n
  ·have j1 : decide ((q : Int) < (n : Int)) = true := by simp; omega
   obtain ⟨b, off, rfl, x, hx, hnv, hcell⟩ := HC.out q hq1
   have hmem : x.N ∈ K := by
    have : nz K q = K[q]'(by rw [HN.out]; exact hq1) := by unfold nz; simp [List.getD, HN.out, hq1]
    rw [hx, this]; exact List.getElem_mem _
   have htk : K.take (q + 1) = K.take q ++ [x.N] := by
    rw [List.take_add_one, hx]
    unfold nz
    simp [List.getD, HN.out, hq1]
   have hb := hbel.out
   have hnv' := hnv.keep hb
   have hl1 : (loadCellsFrom ⟨b, off + q * m, none⟩ 0 m #[]).run Tryz.prog wr = .ok x.arr wr := by
    rw [← HM.out]
    exact nlcf x.arr (arr_size x) fun j v hv => keep_cell hb (hcell j v hv)
   have hst : (storeCells ⟨wr.heap.size, 0, none⟩ x.arr.toList 0).run Tryz.prog (wr.alloc (.cells Z 40)) = .ok () (wr.alloc (.cells x.arr 40)) :=
    run_storeCells_new (P := Tryz.prog) wr 40 Z x.arr (by rw [arr_size]; kernel_rfl) (by rw [hZ1, arr_size]) hnv'.one
   have n1 := NB.new wr x.arr 40
   have hld : (loadCellsFrom ⟨wr.heap.size, 0, none⟩ 0 m #[]).run Tryz.prog (wr.alloc (.cells x.arr 40)) = .ok x.arr (wr.alloc (.cells x.arr 40)) := n1.load ((arr_size x).trans HM.out)
   have hal : Below wr.heap.size wr (wr.alloc (.cells x.arr 40)) := (Below.refl _ _).alloc (Nat.le_refl _) _
   have hbd := HG.out x.N hmem
   have HF := Lib.hid (clone91 x _ (hnv'.keep hal) hbd.1 hbd.2.1 hbd.2.2.1 hbd.2.2.2.1 hbd.2.2.2.2.1 hbd.2.2.2.2.2.1 hbd.2.2.2.2.2.2)
   have HR := Lib.hid hrow
   have HAL := Lib.hid hal
   have hsz : x.arr.size = m := (arr_size x).trans HM.out
   obtain ⟨ra, rc, rfl, -, -⟩ := own_slice hrow.own
   have HXN := Lib.hid (show L.map Nv.N ++ [x.N] = K.take (q + 1) by rw [htk, hL])
   clear hrow hal hnv hnv' hb hmem n1 hbd hx hcell hL htk
   obtain ⟨xn, hxn⟩ : ∃ xn, x.N = xn := ⟨_, rfl⟩
   rw [hxn] at HF HXN
   clear hxn
   obtain ⟨V, hV⟩ : ∃ V, x.arr = V := ⟨_, rfl⟩
   rw [hV] at hl1 hst hld HF HAL hsz
   clear hV
   go_wp2_with fail
   refine HF.out.mono ?_
   rintro e w2 ⟨y, rfl, hy, hlst, hb2⟩
   have hb3 : Below wr.heap.size wr w2 := HAL.out.trans (hb2.mono HAL.out.size)
   have hrow2 := HR.out.keep hb3
   have hbw : w.heap.size ≤ wr.heap.size := hbel.out.size
   have hfar : Far w.heap.size (Value.slice ra L.length rc).ownBlock w2 (pN y) := far_new (W := wr.alloc (.cells V 40)) (by have := HAL.out.size; omega) (fun k e => by have := (own_lt' HR.out.own k e).2; have := HAL.out.size; omega) hlst
   have h1y := (hlst.now).one
   have hal2 : Below w2.heap.size w2 (w2.alloc (.cells y.arr 40)) := (Below.refl _ _).alloc (Nat.le_refl _) _
   have n2 := NB.new w2 y.arr 40
   have hrow3 := hrow2.keep hal2
   have hfar3 := hfar.keep hal2
   have hw2 : w.heap.size ≤ w2.heap.size := Nat.le_trans hbw hb3.size
   obtain ⟨hi, hz0, hz1, hz2⟩ := HI.out
   obtain ⟨v', W3, run, ho, hgr, -, hv⟩ := run_append_own_at (P := Tryz.prog) (w := w2.alloc (.cells y.arr 40)) w.heap.size 22 22 40 i0 _ 29 328 Tryz.underlying22 hi hz0 hz1 hz2 (by kernel_rfl) (by decide) _ _ _ hrow3.own ⟨w2.heap.size, 0, none⟩ 1 1 (cN y) rfl
    (fun j x hx => by
     rw [add_off, Nat.zero_add]
     exact n2.c (by rw [← Array.getElem?_toList]; exact hx))
    (fun x hx => by
     rw [Array.all_eq_true] at h1y
     obtain ⟨i, hi', rfl⟩ := List.getElem_of_mem (show x ∈ y.arr.toList from hx)
     simpa using h1y i (by simpa using hi')) (by have := HLl.out; unfold maxLen; omega) (by have := HLl.out; omega) (by have := hal2.size; omega)
   have hR := hrow3.push y ho hgr hv hfar3
   have fin : Hid ((∃ L : List Nv, L.map Nv.N = K.take (q + 1) ∧ RowF W3 w.heap.size 40 29 cN pN v' L) ∧ Below w.heap.size w W3) := Lib.hid ⟨⟨_, by rw [List.map_append, ← HXN.out, ← hy]; rfl, hR⟩, by
    refine hbel.out.trans ((hb3.mono hbw).trans ((hal2.mono hw2).trans ?_))
    exact (Chg.of_grown (fun k => w.heap.size ≤ k) hgr (fun k e => (own_lt' hrow3.own k e.symm).1)).below (by have := hal2.size; omega) (fun k hk e => by omega)⟩
   have hszy : y.arr.size = m := (arr_size y).trans HM.out
   have hfo := fold_all (Array.map (fun x => Z[x % 29]!) (Array.range m)) y.arr m (by simp) hszy
   obtain ⟨a7, k7, rfl, -, -⟩ := own_slice ho
   clear hlst hb2 hb3 hrow2 hfar hal2 n2 hrow3 hfar3 ho hgr hv hR HF HR HAL hbel h1y hi hz0 hz1 hz2 hy HXN
   generalize y.arr = U at *
   go_wp2_with (at_builtin; refine Lib.wpList_append_run _ rfl _ _ _ _ rfl _ _ rfl rfl _ _ run ?_)
   exact ⟨⟨q + 1, hq1, by simp, Lib.hid fin.out.1, Lib.hid fin.out.2⟩, by simp [intOf]; omega⟩
  ·have hqn : q = n := by omega
   subst hqn
   have j1 : decide ((q : Int) < (q : Int)) = false := by simp
   have hD : L.map Nv.N = K := by rw [hL, ← HN.out, List.take_length]
   have fin : Hid (Lst w.heap.size wr (fun W => SlN W u5 K) ∧ Below w.heap.size w wr) := Lib.hid ⟨by rw [← hD]; exact slN_of hrow (by have := HLl.out; omega), hbel.out⟩
   obtain ⟨ra, rc, rfl, -, -⟩ := own_slice hrow.own
   clear hrow hbel hL hD HC HG
   go_wp2_with fail
   go_ret
   exact ⟨_, rfl, fin.out⟩

set_option maxRecDepth 100000 in
theorem clones65 (u : Value) (K : List Nt) (w : World) (h : SlN w u K) (hl : K.length ≤ 100000) (hG : ∀ n ∈ K, n.bd) :
  Calls Tryz.prog 65 #[u] w fun e w' => ∃ v, e = .returned v ∧ Lst w.heap.size w' (fun W => SlN W v K) ∧ Below w.heap.size w w' := by
 have H := Lib.hid (each122 u K w h hl hG)
 obtain ⟨a, cap, rfl, -, -⟩ := h
 clear hl hG
 go_enter Tryz.func65, Tryz.ntmps65
 go_wp2_with fail
 refine H.out.mono ?_
 rintro e w1 ⟨v, rfl, h1, h2⟩
 obtain ⟨a1, c1, rfl, -, -⟩ := h1.now
 have fin := Lib.hid (And.intro h1 h2)
 clear h1 h2 H
 go_wp2_with fail
 go_ret
 exact ⟨_, rfl, fin.out⟩

end Go.Proofs.YtcgmmfcphfkdhaaGreat
