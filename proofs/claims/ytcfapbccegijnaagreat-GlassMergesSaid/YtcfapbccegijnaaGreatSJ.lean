/- The abstract machine, part SJ. -/
import Derived.Test.YtcfapbccegijnaaGreatSI
import Derived.Test.YtcfapbccegijnaaGreatLP
/- What the region of the reference's Agree yields. -/
namespace Go.Proofs.YtcfapbccegijnaaGreat
open Go Go.RowKit Go.Proofs Go.Abs

def AgV (n : Nat) (p q D : PcD) (agp amp agq amq : Option Addr) (gcp mcp gcq mcq ga nq acap k sh X : Nat) (b u : Bool) (listed : Array Bool) : Nat → Value → World → Prop
  | 0, v, _ => v = pcs p.id p.c p.r p.m p.s (.slice agp n gcp) (.slice amp p.M.length mcp)
  | 1, v, _ => v = pcs q.id q.c q.r q.m q.s (.slice agq n gcq) (.slice amq q.M.length mcq)
  | 2, v, _ => v = .slice (some ⟨ga, 0, none⟩) nq acap
  | 3, v, _ => v = .int .i64 (k : Nat)
  | 4, v, _ => v = .pointer (some ⟨ga, k * 2, none⟩)
  | 5, v, _ => v = st (sh : Nat) b
  | 6, v, _ => ∃ ag gc am mc, v = .tuple #[pcs D.id D.c D.r D.m D.s (.slice ag D.G.length gc) (.slice am D.M.length mc), .bool u]
  | 7, v, _ => ∃ ag gc am mc, v = .tuple #[pcs D.id D.c D.r D.m D.s (.slice ag D.G.length gc) (.slice am D.M.length mc), .bool u]
  | 8, v, _ => ∃ ag gc am mc, v = pcs D.id D.c D.r D.m D.s (.slice ag D.G.length gc) (.slice am D.M.length mc)
  | 9, v, _ => v = .bool u
  | 10, v, W => ∃ p, v = .pointer (some ⟨p, 0, none⟩) ∧ X ≤ p ∧ (isIn listed 11 = false → W.heap[p]? = some (.cells #[.int .i64 0, .int .i64 0, .int .i64 0, .int .i64 0, .int .i64 0, .slice none 0 0, .slice none 0 0] 25 (0, 0)))
  | 11, _, _ => True
  | _, v, _ => v = .bool u

/-- What an operation does to the world. -/
def AgR (X : Nat) (j : Nat) (_ : Act) (W W' : World) : Prop := if j = 11 then Below X W W' else Below W.heap.size W W'

theorem agR_below {X : Nat} {j : Nat} {a : Act} {W W' : World} (h : j ≠ 11) (hb : Below W.heap.size W W') : AgR X j a W W' := by
  unfold AgR
  rw [if_neg h]
  exact hb

theorem AgV.step {n : Nat} {p q D : PcD} {agp amp agq amq : Option Addr} {gcp mcp gcq mcq ga nq acap k sh X : Nat} {b u : Bool} {listed : Array Bool} {a : Act} {i j : Nat} {v : Value} {W W' : World} (hs : listed.size = 13)
    (h : AgV n p q D agp amp agq amq gcp mcp gcq mcq ga nq acap k sh X b u listed i v W) (hR : AgR X j a W W') : AgV n p q D agp amp agq amq gcp mcp gcq mcq ga nq acap k sh X b u (listed.setIfInBounds j true) i v W' := by
  match i, h with
  | 0, h => exact h
  | 1, h => exact h
  | 2, h => exact h
  | 3, h => exact h
  | 4, h => exact h
  | 5, h => exact h
  | 6, h => exact h
  | 7, h => exact h
  | 8, h => exact h
  | 9, h => exact h
  | 10, ⟨p', h1, h2, h3⟩ =>
    refine ⟨p', h1, h2, fun hn => ?_⟩
    unfold AgR at hR
    by_cases e : j = 11
    · subst e
      rw [isIn_set (by omega)] at hn
      simp at hn
    · rw [if_neg e] at hR
      have hn2 : isIn (listed.setIfInBounds j true) 11 = isIn listed 11 := by
        unfold isIn
        rw [Array.getD_eq_getD_getElem?, Array.getD_eq_getD_getElem?, Array.getElem?_setIfInBounds_ne e]
      rw [hn2] at hn
      have h4 := h3 hn
      exact (hR.block _ (Array.getElem?_eq_some_iff.1 h4).1).trans h4
  | 11, _ => trivial
  | _ + 12, h => exact h

set_option maxRecDepth 100000 in
set_option maxHeartbeats 16000000 in
theorem agree26_good (p q : PcD) (agp amp agq amq : Option Addr) (gcp mcp gcq mcq n : Nat) (w : World) (hn : p.G.length = n) (h24 : n ≤ 24) (h3 : 0 < n) (f : Nat × Bool → Bool) (RD : Nat × Bool → PcD)
    (H1 : Hid (∀ W, Below w.heap.size w W → Calls Tryz.prog 35 #[pcs p.id p.c p.r p.m p.s (.slice agp p.G.length gcp) (.slice amp p.M.length mcp)] W fun e w' => e = .returned (.bool true) ∧ Below W.heap.size W w'))
    (H2 : Hid (∀ W, Below w.heap.size w W → Calls Tryz.prog 35 #[pcs q.id q.c q.r q.m q.s (.slice agq q.G.length gcq) (.slice amq q.M.length mcq)] W fun e w' => e = .returned (.bool true) ∧ Below W.heap.size W w'))
    (HL : Hid (q.G.length = p.G.length))
    (HCF : Hid (∀ (sh : Nat) (b : Bool) (_ : sh < n) W (_ : Below w.heap.size w W), Calls Tryz.prog 56 #[pcs p.id p.c p.r p.m p.s (.slice agp p.G.length gcp) (.slice amp p.M.length mcp), pcs q.id q.c q.r q.m q.s (.slice agq q.G.length gcq) (.slice amq q.M.length mcq), st sh b] W fun e w' => ∃ v, e = .returned (.tuple #[v, .bool (f (sh, b))]) ∧ PcV w' W.heap.size v (RD (sh, b)) ∧ Below W.heap.size W w')) :
    Calls Tryz.prog 26 #[pcs p.id p.c p.r p.m p.s (.slice agp p.G.length gcp) (.slice amp p.M.length mcp), pcs q.id q.c q.r q.m q.s (.slice agq q.G.length gcq) (.slice amq q.M.length mcq)] w fun e w' => ∃ v, e = .returned (.tuple #[v, .int .i64 0]) ∧ SetAt w' v ((allS n).filter f) ∧ Below w.heap.size w w' := by
  obtain ⟨i0, hi, hz0, hz1, hz2⟩ := info_parts info28
  have hp : ((w.alloc (pcsObj p.id p.c p.r p.m p.s (.slice agp p.G.length gcp) (.slice amp p.M.length mcp))).alloc (pcsObj q.id q.c q.r q.m q.s (.slice agq q.G.length gcq) (.slice amq q.M.length mcq))).heap[w.heap.size]? = some (pcsObj p.id p.c p.r p.m p.s (.slice agp p.G.length gcp) (.slice amp p.M.length mcp)) := (alloc_heap_old _ _ (by simp)).trans (alloc_heap_new _ _)
  have hq : ((w.alloc (pcsObj p.id p.c p.r p.m p.s (.slice agp p.G.length gcp) (.slice amp p.M.length mcp))).alloc (pcsObj q.id q.c q.r q.m q.s (.slice agq q.G.length gcq) (.slice amq q.M.length mcq))).heap[w.heap.size + 1]? = some (pcsObj q.id q.c q.r q.m q.s (.slice agq q.G.length gcq) (.slice amq q.M.length mcq)) := by
    have := alloc_heap_new (w.alloc (pcsObj p.id p.c p.r p.m p.s (.slice agp p.G.length gcp) (.slice amp p.M.length mcp))) (pcsObj q.id q.c q.r q.m q.s (.slice agq q.G.length gcq) (.slice amq q.M.length mcq)); rwa [World.size_alloc] at this
  have b1 : Below w.heap.size w ((w.alloc (pcsObj p.id p.c p.r p.m p.s (.slice agp p.G.length gcp) (.slice amp p.M.length mcp))).alloc (pcsObj q.id q.c q.r q.m q.s (.slice agq q.G.length gcq) (.slice amq q.M.length mcq))) := ((Below.refl _ _).alloc (Nat.le_refl _) _).alloc (by simp) _
  obtain ⟨W0, hW0⟩ : ∃ W0, (w.alloc (pcsObj p.id p.c p.r p.m p.s (.slice agp p.G.length gcp) (.slice amp p.M.length mcp))).alloc (pcsObj q.id q.c q.r q.m q.s (.slice agq q.G.length gcq) (.slice amq q.M.length mcq)) = W0 := ⟨_, rfl⟩
  rw [hW0] at hp hq b1
  rw [HL.out] at H2 HCF hq hW0
  rw [HL.out]
  clear HL
  rw [hn] at H1 H2 HCF hp hq hW0 ⊢
  clear hn
  have CA := fun W => refAll_any n h24 W
  have AL : ∀ p ∈ allS n, p.1 < n := allS_lt
  have ALn := allS_len n
  obtain ⟨A, hA⟩ : ∃ A, allS n = A := ⟨_, rfl⟩
  rw [hA] at CA AL ALn ⊢
  have HA := Lib.hid AL
  clear AL hA
  obtain ⟨c0, c1, c2, c3, c4, c5, c6⟩ := And.intro (cell_of hp (k := 0) rfl) (And.intro (cell_of hp (k := 1) rfl) (And.intro (cell_of hp (k := 2) rfl) (And.intro (cell_of hp (k := 3) rfl) (And.intro (cell_of hp (k := 4) rfl) (And.intro (cell_of hp (k := 5) rfl) (cell_of hp (k := 6) rfl))))))
  go_enter Tryz.func26, Tryz.ntmps26
  go_wp2_with fail
  refine (H1.out _ b1).mono ?_
  rintro e w1 ⟨rfl, hb⟩
  clear hW0 c0 c1 c2 c3 c4 c5 c6
  replace b1 := keep_below b1 hb
  replace hp := (hb.block _ (Array.getElem?_eq_some_iff.1 hp).1).trans hp
  replace hq := (hb.block _ (Array.getElem?_eq_some_iff.1 hq).1).trans hq
  clear hb
  obtain ⟨c0, c1, c2, c3, c4, c5, c6⟩ := And.intro (cell_of hq (k := 0) rfl) (And.intro (cell_of hq (k := 1) rfl) (And.intro (cell_of hq (k := 2) rfl) (And.intro (cell_of hq (k := 3) rfl) (And.intro (cell_of hq (k := 4) rfl) (And.intro (cell_of hq (k := 5) rfl) (cell_of hq (k := 6) rfl))))))
  go_wp2_with fail
  refine (H2.out _ b1).mono ?_
  rintro e w2 ⟨rfl, hb⟩
  clear c0 c1 c2 c3 c4 c5 c6
  replace b1 := keep_below b1 hb
  replace hp := (hb.block _ (Array.getElem?_eq_some_iff.1 hp).1).trans hp
  replace hq := (hb.block _ (Array.getElem?_eq_some_iff.1 hq).1).trans hq
  clear hb
  have c5 := cell_of hp (k := 5) rfl
  have d5 := cell_of hq (k := 5) rfl
  go_wp2_with fail
  refine (CA _).mono ?_
  rintro e w3 ⟨va, rfl, hown, hb⟩
  clear c5 d5 CA
  have b3 := keep_below b1 hb
  replace hp := (hb.block _ (Array.getElem?_eq_some_iff.1 hp).1).trans hp
  replace hq := (hb.block _ (Array.getElem?_eq_some_iff.1 hq).1).trans hq
  clear hb b1
  obtain ⟨ga, acap, rfl⟩ := own_slice hown (by omega)
  have hgcell : ∀ k p, A[k]? = some p → w3.cell? ⟨ga, k * 2, none⟩ = some (.int .i64 (p.1 : Nat)) ∧ w3.cell? ⟨ga, k * 2 + 1, none⟩ = some (.bool p.2) := fun k p hp => own_set hown hp
  have HGC := Lib.hid hgcell
  clear hown hgcell
  obtain ⟨nq, hnq⟩ : ∃ q, A.length = q := ⟨_, rfl⟩
  have HQ := Lib.hid hnq
  rw [hnq] at ALn ⊢
  clear hnq
  have hq48 : nq ≤ 48 := by omega
  clear ALn
  go_wp2_with fail
  go_loopw [6, 8] (fun v i wr => ∃ k : Nat, k ≤ nq ∧ i = .int .i64 k ∧ wr.ownsRow w3.heap.size 28 2 v ((A.take k).filter f).length (encS ((A.take k).filter f)) ∧ Below w3.heap.size w3 wr) (fun _ i _ => nq - (intOf i).toNat)
  case atStart => exact ⟨0, Nat.zero_le _, rfl, World.ownsRow_nil _ _ _ _, Below.refl _ _⟩
  case round =>
    obtain ⟨k, hk, rfl, hown, hbel⟩ := hrel
    have hbw := keep_below b3 hbel
    by_cases hlt : k < nq
    · have j1 : (k : Int) < (nq : Int) := by omega
      obtain ⟨⟨sh, b⟩, hx⟩ : ∃ p, A[k]? = some p := ⟨_, List.getElem?_eq_getElem (by rw [HQ.out]; exact hlt)⟩
      have hsh : sh < n := HA.out (sh, b) (List.mem_of_getElem? hx)
      have hg0 := HGC.out k _ hx
      have HG := Lib.hid (And.intro (keep_cell hbel hg0.1) (keep_cell hbel hg0.2))
      have HSUC := Lib.hid (kept_succ (q := f) hx)
      have hFl : ((A.take k).filter f).length ≤ k := Nat.le_trans (List.length_filter_le _ _) (by simp; omega)
      have CF := Lib.hid (fun W (hW : Below wr.heap.size wr W) => HCF.out sh b hsh W (keep_below hbw hW))
      obtain ⟨u, hu⟩ : ∃ u, f (sh, b) = u := ⟨_, rfl⟩
      rw [hu] at CF HSUC
      obtain ⟨D, hD⟩ : ∃ D, RD (sh, b) = D := ⟨_, rfl⟩
      rw [hD] at CF
      clear hx hg0 hu hD
      generalize (A.take k).filter f = K at hown hFl HSUC
      have HK := Lib.hid j1
      have HP := Lib.hid ((hbel.block _ (Array.getElem?_eq_some_iff.1 hp).1).trans hp)
      have HQ2 := Lib.hid ((hbel.block _ (Array.getElem?_eq_some_iff.1 hq).1).trans hq)
      have HPl := Lib.hid (Array.getElem?_eq_some_iff.1 HP.out).1
      have HQl := Lib.hid (Array.getElem?_eq_some_iff.1 HQ2.out).1
      have HBEL := Lib.hid hbel
      have HOWN := Lib.hid hown
      have SZ := Lib.hid hbel.size
      clear hp hq hbel hown hbw
      go_wp2_with fail
      refine wp_region_valsZQ (AgV n p q D agp amp agq amq gcp mcp gcq mcq ga nq acap k sh wr.heap.size b u) (AgR wr.heap.size) (fun _ W => Below wr.heap.size wr W) (by kernel_rfl) (by kernel_rfl) ?_ ?_ ?_ ?_ ?_
      · exact (Below.refl _ _).drew
      · intro listed a' j W W' _ _ _ hg hR
        unfold AgR at hR
        split at hR
        · exact hg.trans hR
        · exact keep_below hg hR
      · intro listed a' i j oi W W' hoi hj hls hij hanc hli hlj hv hg hR
        exact hv.step (by rw [hls]; rfl) hR
      · intro i o ho listed a' W hls hli hcl hGd hfr hdep
        have f2 : a'.tmps[2]?.getD undef = .pointer (some ⟨w.heap.size, 0, none⟩) := Array.getD_eq_getD_getElem?.symm.trans (hfr 2 rfl)
        have f3 : a'.tmps[3]?.getD undef = .pointer (some ⟨w.heap.size + 1, 0, none⟩) := Array.getD_eq_getD_getElem?.symm.trans (hfr 3 rfl)
        have f7 : a'.tmps[7]?.getD undef = .slice (some ⟨ga, 0, none⟩) nq acap := Array.getD_eq_getD_getElem?.symm.trans (hfr 7 rfl)
        have f8 : a'.tmps[8]?.getD undef = .int .i64 (k : Nat) := Array.getD_eq_getD_getElem?.symm.trans (hfr 8 rfl)
        clear hfr
        have hi : i < 13 := by have := (List.getElem?_eq_some_iff.1 ho).1; simpa using this
        obtain rfl | rfl | rfl | rfl | rfl | rfl | rfl | rfl | rfl | rfl | rfl | rfl | rfl : i = 0 ∨ i = 1 ∨ i = 2 ∨ i = 3 ∨ i = 4 ∨ i = 5 ∨ i = 6 ∨ i = 7 ∨ i = 8 ∨ i = 9 ∨ i = 10 ∨ i = 11 ∨ i = 12 := by omega
        all_goals simp only [List.getElem?_cons_zero, List.getElem?_cons_succ, Option.some.injEq] at ho
        all_goals subst ho
        · have hpw := (hGd.block _ HPl.out).trans HP.out
          have c0 := cell_of hpw (k := 0) rfl
          have c1 := cell_of hpw (k := 1) rfl
          have c2 := cell_of hpw (k := 2) rfl
          have c3 := cell_of hpw (k := 3) rfl
          have c4 := cell_of hpw (k := 4) rfl
          have c5 := cell_of hpw (k := 5) rfl
          have c6 := cell_of hpw (k := 6) rfl
          clear hpw
          clear hdep
          refine .inl ⟨rfl, _, W, ?_, agR_below (by omega) (Below.refl _ _), rfl⟩
          go_simp
        · have hpw := (hGd.block _ HQl.out).trans HQ2.out
          have c0 := cell_of hpw (k := 0) rfl
          have c1 := cell_of hpw (k := 1) rfl
          have c2 := cell_of hpw (k := 2) rfl
          have c3 := cell_of hpw (k := 3) rfl
          have c4 := cell_of hpw (k := 4) rfl
          have c5 := cell_of hpw (k := 5) rfl
          have c6 := cell_of hpw (k := 6) rfl
          clear hpw
          clear hdep
          refine .inl ⟨rfl, _, W, ?_, agR_below (by omega) (Below.refl _ _), rfl⟩
          go_simp
        · clear hdep
          refine .inl ⟨rfl, _, W, ?_, agR_below (by omega) (Below.refl _ _), rfl⟩
          go_simp
        · clear hdep
          refine .inl ⟨rfl, _, W, ?_, agR_below (by omega) (Below.refl _ _), rfl⟩
          go_simp
        · have d2 : a'.tmps[39]?.getD undef = .slice (some ⟨ga, 0, none⟩) nq acap := Array.getD_eq_getD_getElem?.symm.trans (hdep ⟨2, .data⟩ (by simp) rfl _ rfl)
          have d3 : a'.tmps[40]?.getD undef = .int .i64 (k : Nat) := Array.getD_eq_getD_getElem?.symm.trans (hdep ⟨3, .data⟩ (by simp) rfl _ rfl)
          have i1 : (k : Int) < (nq : Int) := HK.out
          clear hdep
          refine .inl ⟨rfl, _, W, ?_, agR_below (by omega) (Below.refl _ _), rfl⟩
          go_simp
        · have d4 : a'.tmps[41]?.getD undef = .pointer (some ⟨ga, k * 2, none⟩) := Array.getD_eq_getD_getElem?.symm.trans (hdep ⟨4, .data⟩ (by simp) rfl _ rfl)
          have c0 := keep_cell hGd HG.out.1
          have c1 := keep_cell hGd HG.out.2
          clear hdep
          refine .inl ⟨rfl, _, W, ?_, agR_below (by omega) (Below.refl _ _), rfl⟩
          go_simp
        · have d0 : a'.tmps[37]?.getD undef = pcs p.id p.c p.r p.m p.s (.slice agp n gcp) (.slice amp p.M.length mcp) := Array.getD_eq_getD_getElem?.symm.trans (hdep ⟨0, .data⟩ (by simp) rfl _ rfl)
          have d1 : a'.tmps[38]?.getD undef = pcs q.id q.c q.r q.m q.s (.slice agq n gcq) (.slice amq q.M.length mcq) := Array.getD_eq_getD_getElem?.symm.trans (hdep ⟨1, .data⟩ (by simp) rfl _ rfl)
          have d5 : a'.tmps[42]?.getD undef = st (sh : Nat) b := Array.getD_eq_getD_getElem?.symm.trans (hdep ⟨5, .data⟩ (by simp) rfl _ rfl)
          clear hdep
          refine .inr (.inl ⟨rfl, 56, #[pcs p.id p.c p.r p.m p.s (.slice agp n gcp) (.slice amp p.M.length mcp), pcs q.id q.c q.r q.m q.s (.slice agq n gcq) (.slice amq q.M.length mcq), st (sh : Nat) b], ?_, (CF.out W hGd).mono ?_⟩)
          · go_simp
          · rintro e W' ⟨v, rfl, hv, hb⟩
            obtain ⟨ag, gc, am, mc, rfl, -⟩ := hv.pcs
            exact ⟨_, rfl, agR_below (by omega) hb, ag, gc, am, mc, rfl⟩
        · obtain ⟨ag, gc, am, mc, hv6⟩ := hdep ⟨6, .data⟩ (by simp) rfl _ rfl
          have d6 : a'.tmps[43]?.getD undef = .tuple #[pcs D.id D.c D.r D.m D.s (.slice ag D.G.length gc) (.slice am D.M.length mc), .bool u] := Array.getD_eq_getD_getElem?.symm.trans hv6
          clear hdep
          refine .inl ⟨rfl, _, W, ?_, agR_below (by omega) (Below.refl _ _), ag, gc, am, mc, rfl⟩
          go_simp
        · obtain ⟨ag, gc, am, mc, hv7⟩ := hdep ⟨7, .data⟩ (by simp) rfl _ rfl
          have d7 : a'.tmps[36]?.getD undef = .tuple #[pcs D.id D.c D.r D.m D.s (.slice ag D.G.length gc) (.slice am D.M.length mc), .bool u] := Array.getD_eq_getD_getElem?.symm.trans hv7
          clear hdep
          refine .inl ⟨rfl, _, W, ?_, agR_below (by omega) (Below.refl _ _), ag, gc, am, mc, rfl⟩
          go_simp
        · obtain ⟨ag, gc, am, mc, hv7⟩ := hdep ⟨7, .data⟩ (by simp) rfl _ rfl
          have d7 : a'.tmps[36]?.getD undef = .tuple #[pcs D.id D.c D.r D.m D.s (.slice ag D.G.length gc) (.slice am D.M.length mc), .bool u] := Array.getD_eq_getD_getElem?.symm.trans hv7
          clear hdep
          refine .inl ⟨rfl, _, W, ?_, agR_below (by omega) (Below.refl _ _), rfl⟩
          go_simp
        · clear hdep
          refine .inl ⟨rfl, .pointer (some ⟨W.heap.size, 0, none⟩), W.alloc (.cells #[.int .i64 0, .int .i64 0, .int .i64 0, .int .i64 0, .int .i64 0, .slice none 0 0, .slice none 0 0] 25), ?_, agR_below (by omega) ((Below.refl _ _).alloc (Nat.le_refl _) _), W.heap.size, rfl, hGd.size, fun _ => alloc_heap_new _ _⟩
          go_simp
        · obtain ⟨ag, gc, am, mc, hv8⟩ := hdep ⟨8, .data⟩ (by simp) rfl _ rfl
          have d8 : a'.tmps[44]?.getD undef = pcs D.id D.c D.r D.m D.s (.slice ag D.G.length gc) (.slice am D.M.length mc) := Array.getD_eq_getD_getElem?.symm.trans hv8
          obtain ⟨p', hv10, hXp, hp'⟩ := hdep ⟨10, .data⟩ (by simp) rfl _ rfl
          have d10 : a'.tmps[9]?.getD undef = .pointer (some ⟨p', 0, none⟩) := Array.getD_eq_getD_getElem?.symm.trans hv10
          have hp2 := hp' hli
          clear hdep
          have c0 := cell_of hp2 (k := 0) rfl
          have c1 := cell_of hp2 (k := 1) rfl
          have c2 := cell_of hp2 (k := 2) rfl
          have c3 := cell_of hp2 (k := 3) rfl
          have c4 := cell_of hp2 (k := 4) rfl
          have c5 := cell_of hp2 (k := 5) rfl
          have c6 := cell_of hp2 (k := 6) rfl
          have f0 : W.frozen? ⟨p', 0, none⟩ = false := frozen_of hp2
          have f1 : W.frozen? ⟨p', 1, none⟩ = false := frozen_of hp2
          have f2 : W.frozen? ⟨p', 2, none⟩ = false := frozen_of hp2
          have f3 : W.frozen? ⟨p', 3, none⟩ = false := frozen_of hp2
          have f4 : W.frozen? ⟨p', 4, none⟩ = false := frozen_of hp2
          have f5 : W.frozen? ⟨p', 5, none⟩ = false := frozen_of hp2
          have f6 : W.frozen? ⟨p', 6, none⟩ = false := frozen_of hp2
          refine .inr (.inr ⟨rfl, (((((((W.setCell ⟨p', 0, none⟩ (.int .i64 D.id)).setCell ⟨p', 1, none⟩ (.int .i64 D.c)).setCell ⟨p', 2, none⟩ (.int .i64 D.r)).setCell ⟨p', 3, none⟩ (.int .i64 D.m)).setCell ⟨p', 4, none⟩ (.int .i64 D.s)).setCell ⟨p', 5, none⟩ (.slice ag D.G.length gc)).setCell ⟨p', 6, none⟩ (.slice am D.M.length mc)), ?_, ?_, trivial⟩)
          · go_simp
          · unfold AgR
            rw [if_pos rfl]
            exact (Below.setCell (p := ⟨p', 6, none⟩) (Below.setCell (p := ⟨p', 5, none⟩) (Below.setCell (p := ⟨p', 4, none⟩) (Below.setCell (p := ⟨p', 3, none⟩) (Below.setCell (p := ⟨p', 2, none⟩) (Below.setCell (p := ⟨p', 1, none⟩) (Below.setCell (p := ⟨p', 0, none⟩) (Below.refl _ _) hXp (.int .i64 D.id)) hXp (.int .i64 D.c)) hXp (.int .i64 D.r)) hXp (.int .i64 D.m)) hXp (.int .i64 D.s)) hXp (.slice ag D.G.length gc)) hXp (.slice am D.M.length mc))
        · have d9 : a'.tmps[45]?.getD undef = .bool u := Array.getD_eq_getD_getElem?.symm.trans (hdep ⟨9, .data⟩ (by simp) rfl _ rfl)
          clear hdep
          refine .inl ⟨rfl, _, W, ?_, agR_below (by omega) (Below.refl _ _), rfl⟩
          go_simp
      · intro listed W hall hGd
        simp only [List.map_cons, List.map_nil, VQ]
        rintro _ rfl _ rfl _ rfl _ rfl _ rfl _ rfl _ ⟨_, _, _, _, rfl⟩ _ ⟨_, _, _, _, rfl⟩ _ ⟨_, _, _, _, rfl⟩ _ rfl _ ⟨p', rfl, -, -⟩ _ rfl
        simp only [List.setIfInBounds_toArray, List.set_cons_zero, List.set_cons_succ]
        have hbel2 := keep_below HBEL.out hGd
        have hown2 := own_keep HOWN.out hGd
        have hgw := And.intro (keep_cell hGd HG.out.1) (keep_cell hGd HG.out.2)
        clear CF hGd hall listed
        have sz := hbel2.size
        simp only [Exit.then]
        go_at_K
        cases u
        · go_wp2
          refine ⟨⟨k + 1, by omega, by simp, ?_, hbel2⟩, by simp [intOf]; omega⟩
          rw [HSUC.out]
          simpa using hown2
        · obtain ⟨x0, x1⟩ := hgw
          go_wp2_with (at_builtin; refine wpList_append_own _ rfl _ _ 34 rfl w3.heap.size 28 i0 (.agg #[.int .i64 0, .bool false]) 2 16 Tryz.underlying34 hi hz0 hz1 hz2 rfl (by decide) _ _ _ rfl (hown2.alloc _) _ 1 1 [.int .i64 sh, .bool b] rfl rfl (st_two_new _ _ _) (st_two_cells _ _) (by unfold maxLen; omega) (by first | omega | (simp; done) | (simp; omega)) (by simp; omega) ?_; intro v1 w6 hown6 hgrow6 hnil6)
          have bel6 := (hbel2.alloc sz (stObj sh b)).grown hgrow6 (by simp; omega) (fun j hj => (hown2.lt j hj).1)
          refine ⟨⟨k + 1, by omega, by simp, ?_, bel6⟩, by simp [intOf]; omega⟩
          rw [HSUC.out, if_pos rfl, encS_snoc]
          simpa using hown6
    · obtain rfl : k = nq := by omega
      go_wp2
      go_ret2
      have e : (A.take k).filter f = A.filter f := by rw [List.take_of_length_le (by rw [HQ.out]; omega)]
      rw [e] at hown
      exact ⟨_, rfl, setAt_own hown, hbw⟩

end Go.Proofs.YtcfapbccegijnaaGreat

/- Agree of the reference, put together; what both answer has at most 48 settings. -/
namespace Go.Proofs.YtcfapbccegijnaaGreat
open Go Go.RowKit Go.Proofs Go.Abs

set_option maxRecDepth 100000 in
set_option maxHeartbeats 8000000 in
theorem agree26_b1 (p q : PcD) (agp amp agq amq : Option Addr) (gcp mcp gcq mcq : Nat) (w : World)
    (H1 : Hid (∀ W, Below w.heap.size w W → Calls Tryz.prog 35 #[pcs p.id p.c p.r p.m p.s (.slice agp p.G.length gcp) (.slice amp p.M.length mcp)] W fun e w' => e = .returned (.bool false) ∧ Below W.heap.size W w'))
    :
    Calls Tryz.prog 26 #[pcs p.id p.c p.r p.m p.s (.slice agp p.G.length gcp) (.slice amp p.M.length mcp), pcs q.id q.c q.r q.m q.s (.slice agq q.G.length gcq) (.slice amq q.M.length mcq)] w fun e w' => e = .returned (.tuple #[.slice none 0 0, .int .i64 30]) ∧ Below w.heap.size w w' := by
  have hp : ((w.alloc (pcsObj p.id p.c p.r p.m p.s (.slice agp p.G.length gcp) (.slice amp p.M.length mcp))).alloc (pcsObj q.id q.c q.r q.m q.s (.slice agq q.G.length gcq) (.slice amq q.M.length mcq))).heap[w.heap.size]? = some (pcsObj p.id p.c p.r p.m p.s (.slice agp p.G.length gcp) (.slice amp p.M.length mcp)) := (alloc_heap_old _ _ (by simp)).trans (alloc_heap_new _ _)
  have hq : ((w.alloc (pcsObj p.id p.c p.r p.m p.s (.slice agp p.G.length gcp) (.slice amp p.M.length mcp))).alloc (pcsObj q.id q.c q.r q.m q.s (.slice agq q.G.length gcq) (.slice amq q.M.length mcq))).heap[w.heap.size + 1]? = some (pcsObj q.id q.c q.r q.m q.s (.slice agq q.G.length gcq) (.slice amq q.M.length mcq)) := by
    have := alloc_heap_new (w.alloc (pcsObj p.id p.c p.r p.m p.s (.slice agp p.G.length gcp) (.slice amp p.M.length mcp))) (pcsObj q.id q.c q.r q.m q.s (.slice agq q.G.length gcq) (.slice amq q.M.length mcq)); rwa [World.size_alloc] at this
  have b1 : Below w.heap.size w ((w.alloc (pcsObj p.id p.c p.r p.m p.s (.slice agp p.G.length gcp) (.slice amp p.M.length mcp))).alloc (pcsObj q.id q.c q.r q.m q.s (.slice agq q.G.length gcq) (.slice amq q.M.length mcq))) := ((Below.refl _ _).alloc (Nat.le_refl _) _).alloc (by simp) _
  obtain ⟨W0, hW0⟩ : ∃ W0, (w.alloc (pcsObj p.id p.c p.r p.m p.s (.slice agp p.G.length gcp) (.slice amp p.M.length mcp))).alloc (pcsObj q.id q.c q.r q.m q.s (.slice agq q.G.length gcq) (.slice amq q.M.length mcq)) = W0 := ⟨_, rfl⟩
  rw [hW0] at hp hq b1
  obtain ⟨c0, c1, c2, c3, c4, c5, c6⟩ := And.intro (cell_of hp (k := 0) rfl) (And.intro (cell_of hp (k := 1) rfl) (And.intro (cell_of hp (k := 2) rfl) (And.intro (cell_of hp (k := 3) rfl) (And.intro (cell_of hp (k := 4) rfl) (And.intro (cell_of hp (k := 5) rfl) (cell_of hp (k := 6) rfl))))))
  go_enter Tryz.func26, Tryz.ntmps26
  go_wp2_with fail
  refine (H1.out _ b1).mono ?_
  rintro e w1 ⟨rfl, hb⟩
  clear hW0 c0 c1 c2 c3 c4 c5 c6
  replace b1 := keep_below b1 hb
  replace hp := (hb.block _ (Array.getElem?_eq_some_iff.1 hp).1).trans hp
  replace hq := (hb.block _ (Array.getElem?_eq_some_iff.1 hq).1).trans hq
  clear hb
  go_wp2
  go_ret2
  exact ⟨rfl, b1⟩

set_option maxRecDepth 100000 in
set_option maxHeartbeats 8000000 in
theorem agree26_b2 (p q : PcD) (agp amp agq amq : Option Addr) (gcp mcp gcq mcq : Nat) (w : World)
    (H1 : Hid (∀ W, Below w.heap.size w W → Calls Tryz.prog 35 #[pcs p.id p.c p.r p.m p.s (.slice agp p.G.length gcp) (.slice amp p.M.length mcp)] W fun e w' => e = .returned (.bool true) ∧ Below W.heap.size W w'))
    (H2 : Hid (∀ W, Below w.heap.size w W → Calls Tryz.prog 35 #[pcs q.id q.c q.r q.m q.s (.slice agq q.G.length gcq) (.slice amq q.M.length mcq)] W fun e w' => e = .returned (.bool false) ∧ Below W.heap.size W w'))
    :
    Calls Tryz.prog 26 #[pcs p.id p.c p.r p.m p.s (.slice agp p.G.length gcp) (.slice amp p.M.length mcp), pcs q.id q.c q.r q.m q.s (.slice agq q.G.length gcq) (.slice amq q.M.length mcq)] w fun e w' => e = .returned (.tuple #[.slice none 0 0, .int .i64 30]) ∧ Below w.heap.size w w' := by
  have hp : ((w.alloc (pcsObj p.id p.c p.r p.m p.s (.slice agp p.G.length gcp) (.slice amp p.M.length mcp))).alloc (pcsObj q.id q.c q.r q.m q.s (.slice agq q.G.length gcq) (.slice amq q.M.length mcq))).heap[w.heap.size]? = some (pcsObj p.id p.c p.r p.m p.s (.slice agp p.G.length gcp) (.slice amp p.M.length mcp)) := (alloc_heap_old _ _ (by simp)).trans (alloc_heap_new _ _)
  have hq : ((w.alloc (pcsObj p.id p.c p.r p.m p.s (.slice agp p.G.length gcp) (.slice amp p.M.length mcp))).alloc (pcsObj q.id q.c q.r q.m q.s (.slice agq q.G.length gcq) (.slice amq q.M.length mcq))).heap[w.heap.size + 1]? = some (pcsObj q.id q.c q.r q.m q.s (.slice agq q.G.length gcq) (.slice amq q.M.length mcq)) := by
    have := alloc_heap_new (w.alloc (pcsObj p.id p.c p.r p.m p.s (.slice agp p.G.length gcp) (.slice amp p.M.length mcp))) (pcsObj q.id q.c q.r q.m q.s (.slice agq q.G.length gcq) (.slice amq q.M.length mcq)); rwa [World.size_alloc] at this
  have b1 : Below w.heap.size w ((w.alloc (pcsObj p.id p.c p.r p.m p.s (.slice agp p.G.length gcp) (.slice amp p.M.length mcp))).alloc (pcsObj q.id q.c q.r q.m q.s (.slice agq q.G.length gcq) (.slice amq q.M.length mcq))) := ((Below.refl _ _).alloc (Nat.le_refl _) _).alloc (by simp) _
  obtain ⟨W0, hW0⟩ : ∃ W0, (w.alloc (pcsObj p.id p.c p.r p.m p.s (.slice agp p.G.length gcp) (.slice amp p.M.length mcp))).alloc (pcsObj q.id q.c q.r q.m q.s (.slice agq q.G.length gcq) (.slice amq q.M.length mcq)) = W0 := ⟨_, rfl⟩
  rw [hW0] at hp hq b1
  obtain ⟨c0, c1, c2, c3, c4, c5, c6⟩ := And.intro (cell_of hp (k := 0) rfl) (And.intro (cell_of hp (k := 1) rfl) (And.intro (cell_of hp (k := 2) rfl) (And.intro (cell_of hp (k := 3) rfl) (And.intro (cell_of hp (k := 4) rfl) (And.intro (cell_of hp (k := 5) rfl) (cell_of hp (k := 6) rfl))))))
  go_enter Tryz.func26, Tryz.ntmps26
  go_wp2_with fail
  refine (H1.out _ b1).mono ?_
  rintro e w1 ⟨rfl, hb⟩
  clear hW0 c0 c1 c2 c3 c4 c5 c6
  replace b1 := keep_below b1 hb
  replace hp := (hb.block _ (Array.getElem?_eq_some_iff.1 hp).1).trans hp
  replace hq := (hb.block _ (Array.getElem?_eq_some_iff.1 hq).1).trans hq
  clear hb
  obtain ⟨c0, c1, c2, c3, c4, c5, c6⟩ := And.intro (cell_of hq (k := 0) rfl) (And.intro (cell_of hq (k := 1) rfl) (And.intro (cell_of hq (k := 2) rfl) (And.intro (cell_of hq (k := 3) rfl) (And.intro (cell_of hq (k := 4) rfl) (And.intro (cell_of hq (k := 5) rfl) (cell_of hq (k := 6) rfl))))))
  go_wp2_with fail
  refine (H2.out _ b1).mono ?_
  rintro e w2 ⟨rfl, hb⟩
  clear c0 c1 c2 c3 c4 c5 c6
  replace b1 := keep_below b1 hb
  replace hp := (hb.block _ (Array.getElem?_eq_some_iff.1 hp).1).trans hp
  replace hq := (hb.block _ (Array.getElem?_eq_some_iff.1 hq).1).trans hq
  clear hb
  go_wp2
  go_ret2
  exact ⟨rfl, b1⟩

set_option maxRecDepth 100000 in
set_option maxHeartbeats 8000000 in
theorem agree26_b3 (p q : PcD) (agp amp agq amq : Option Addr) (gcp mcp gcq mcq : Nat) (w : World)
    (H1 : Hid (∀ W, Below w.heap.size w W → Calls Tryz.prog 35 #[pcs p.id p.c p.r p.m p.s (.slice agp p.G.length gcp) (.slice amp p.M.length mcp)] W fun e w' => e = .returned (.bool true) ∧ Below W.heap.size W w'))
    (H2 : Hid (∀ W, Below w.heap.size w W → Calls Tryz.prog 35 #[pcs q.id q.c q.r q.m q.s (.slice agq q.G.length gcq) (.slice amq q.M.length mcq)] W fun e w' => e = .returned (.bool true) ∧ Below W.heap.size W w'))
    (HN : ¬ (p.G.length : Int) = (q.G.length : Int))
    :
    Calls Tryz.prog 26 #[pcs p.id p.c p.r p.m p.s (.slice agp p.G.length gcp) (.slice amp p.M.length mcp), pcs q.id q.c q.r q.m q.s (.slice agq q.G.length gcq) (.slice amq q.M.length mcq)] w fun e w' => e = .returned (.tuple #[.slice none 0 0, .int .i64 0]) ∧ Below w.heap.size w w' := by
  have hp : ((w.alloc (pcsObj p.id p.c p.r p.m p.s (.slice agp p.G.length gcp) (.slice amp p.M.length mcp))).alloc (pcsObj q.id q.c q.r q.m q.s (.slice agq q.G.length gcq) (.slice amq q.M.length mcq))).heap[w.heap.size]? = some (pcsObj p.id p.c p.r p.m p.s (.slice agp p.G.length gcp) (.slice amp p.M.length mcp)) := (alloc_heap_old _ _ (by simp)).trans (alloc_heap_new _ _)
  have hq : ((w.alloc (pcsObj p.id p.c p.r p.m p.s (.slice agp p.G.length gcp) (.slice amp p.M.length mcp))).alloc (pcsObj q.id q.c q.r q.m q.s (.slice agq q.G.length gcq) (.slice amq q.M.length mcq))).heap[w.heap.size + 1]? = some (pcsObj q.id q.c q.r q.m q.s (.slice agq q.G.length gcq) (.slice amq q.M.length mcq)) := by
    have := alloc_heap_new (w.alloc (pcsObj p.id p.c p.r p.m p.s (.slice agp p.G.length gcp) (.slice amp p.M.length mcp))) (pcsObj q.id q.c q.r q.m q.s (.slice agq q.G.length gcq) (.slice amq q.M.length mcq)); rwa [World.size_alloc] at this
  have b1 : Below w.heap.size w ((w.alloc (pcsObj p.id p.c p.r p.m p.s (.slice agp p.G.length gcp) (.slice amp p.M.length mcp))).alloc (pcsObj q.id q.c q.r q.m q.s (.slice agq q.G.length gcq) (.slice amq q.M.length mcq))) := ((Below.refl _ _).alloc (Nat.le_refl _) _).alloc (by simp) _
  obtain ⟨W0, hW0⟩ : ∃ W0, (w.alloc (pcsObj p.id p.c p.r p.m p.s (.slice agp p.G.length gcp) (.slice amp p.M.length mcp))).alloc (pcsObj q.id q.c q.r q.m q.s (.slice agq q.G.length gcq) (.slice amq q.M.length mcq)) = W0 := ⟨_, rfl⟩
  rw [hW0] at hp hq b1
  obtain ⟨c0, c1, c2, c3, c4, c5, c6⟩ := And.intro (cell_of hp (k := 0) rfl) (And.intro (cell_of hp (k := 1) rfl) (And.intro (cell_of hp (k := 2) rfl) (And.intro (cell_of hp (k := 3) rfl) (And.intro (cell_of hp (k := 4) rfl) (And.intro (cell_of hp (k := 5) rfl) (cell_of hp (k := 6) rfl))))))
  go_enter Tryz.func26, Tryz.ntmps26
  go_wp2_with fail
  refine (H1.out _ b1).mono ?_
  rintro e w1 ⟨rfl, hb⟩
  clear hW0 c0 c1 c2 c3 c4 c5 c6
  replace b1 := keep_below b1 hb
  replace hp := (hb.block _ (Array.getElem?_eq_some_iff.1 hp).1).trans hp
  replace hq := (hb.block _ (Array.getElem?_eq_some_iff.1 hq).1).trans hq
  clear hb
  obtain ⟨c0, c1, c2, c3, c4, c5, c6⟩ := And.intro (cell_of hq (k := 0) rfl) (And.intro (cell_of hq (k := 1) rfl) (And.intro (cell_of hq (k := 2) rfl) (And.intro (cell_of hq (k := 3) rfl) (And.intro (cell_of hq (k := 4) rfl) (And.intro (cell_of hq (k := 5) rfl) (cell_of hq (k := 6) rfl))))))
  go_wp2_with fail
  refine (H2.out _ b1).mono ?_
  rintro e w2 ⟨rfl, hb⟩
  clear c0 c1 c2 c3 c4 c5 c6
  replace b1 := keep_below b1 hb
  replace hp := (hb.block _ (Array.getElem?_eq_some_iff.1 hp).1).trans hp
  replace hq := (hb.block _ (Array.getElem?_eq_some_iff.1 hq).1).trans hq
  clear hb
  have c5 := cell_of hp (k := 5) rfl
  have d5 := cell_of hq (k := 5) rfl
  go_wp2
  go_ret2
  exact ⟨rfl, b1⟩

theorem agree26_any (p q : PcD) (vg vm vg' vm' : Value) (w : World) (hG : SlG w vg p.G) (hM : SlM w vm p.M) (hG' : SlG w vg' q.G) (hM' : SlM w vm' q.M) :
    Calls Tryz.prog 26 #[pcs p.id p.c p.r p.m p.s vg vm, pcs q.id q.c q.r q.m q.s vg' vm'] w fun e w' => ∃ v, e = .returned (.tuple #[v, .int .i64 (agE p q)]) ∧ SetAt w' v (agS p q) ∧ Below w.heap.size w w' := by
  obtain ⟨agp, gcp, rfl, -⟩ := _root_.id hG
  obtain ⟨amp, mcp, rfl, -⟩ := _root_.id hM
  obtain ⟨agq, gcq, rfl, -⟩ := _root_.id hG'
  obtain ⟨amq, mcq, rfl, -⟩ := _root_.id hM'
  have K1 := fun W (hW : Below w.heap.size w W) => refValidPiece_any p.id p.c p.r p.m p.s _ _ p.G p.M W (hG.keep hW) (hM.keep hW)
  have K2 := fun W (hW : Below w.heap.size w W) => refValidPiece_any q.id q.c q.r q.m q.s _ _ q.G q.M W (hG'.keep hW) (hM'.keep hW)
  have e1 : vP p.id p.c p.r p.m p.s p.G p.M = p.ok := rfl
  have e2 : vP q.id q.c q.r q.m q.s q.G q.M = q.ok := rfl
  rw [e1] at K1
  rw [e2] at K2
  cases hp : p.ok
  · rw [hp] at K1
    have eE : agE p q = 30 := by unfold agE; rw [if_neg (by rw [hp]; simp)]
    have eV : agS p q = [] := by unfold agS; rw [if_neg (by rw [hp]; simp)]
    rw [eE, eV]
    refine (agree26_b1 p q agp amp agq amq gcp mcp gcq mcq w (Lib.hid K1)).mono ?_
    rintro e w' ⟨rfl, hb⟩
    exact ⟨_, rfl, .inl ⟨rfl, rfl⟩, hb⟩
  cases hq : q.ok
  · rw [hp] at K1
    rw [hq] at K2
    have eE : agE p q = 30 := by unfold agE; rw [if_neg (by rw [hq]; simp)]
    have eV : agS p q = [] := by unfold agS; rw [if_neg (by rw [hq]; simp)]
    rw [eE, eV]
    refine (agree26_b2 p q agp amp agq amq gcp mcp gcq mcq w (Lib.hid K1) (Lib.hid K2)).mono ?_
    rintro e w' ⟨rfl, hb⟩
    exact ⟨_, rfl, .inl ⟨rfl, rfl⟩, hb⟩
  rw [hp] at K1
  rw [hq] at K2
  have eE : agE p q = 0 := by unfold agE; rw [if_pos ⟨hp, hq⟩]
  have eV : agS p q = (allS p.G.length).filter fun s => alk (rsD p s.1 s.2) q := by unfold agS; rw [if_pos ⟨hp, hq⟩]
  rw [eE, eV]
  by_cases hl : p.G.length = q.G.length
  · obtain ⟨h3, -, -⟩ := ok_parts hp
    exact agree26_good p q agp amp agq amq gcp mcp gcq mcq p.G.length w rfl h3.2 (by omega) (fun s => alk (rsD p s.1 s.2) q) (fun s => if alk (rsD p s.1 s.2) q then mgD (rsD p s.1 s.2) q else zeroD) (Lib.hid K1) (Lib.hid K2) (Lib.hid hl.symm)
      (Lib.hid fun sh b hs W hW => by
        have hv : vset (sh : Int) p.G.length = true := vset_of h3 hs
        have := united_any p q sh b _ _ _ _ W (hG.keep hW) (hM.keep hW) (hG'.keep hW) (hM'.keep hW) hp hq hv hl
        rwa [Int.toNat_natCast] at this)
  · have e0 : ((allS p.G.length).filter fun s => alk (rsD p s.1 s.2) q) = [] := by
      rw [List.filter_eq_nil_iff]
      intro s _
      rw [alk_short (by rw [rsD_len]; exact hl)]
      simp
    rw [e0]
    refine (agree26_b3 p q agp amp agq amq gcp mcp gcq mcq w (Lib.hid K1) (Lib.hid K2) (by omega)).mono ?_
    rintro e w' ⟨rfl, hb⟩
    exact ⟨_, rfl, .inl ⟨rfl, rfl⟩, hb⟩

theorem agS_len (p q : PcD) : (agS p q).length ≤ 1000 := by
  unfold agS
  split
  · rename_i h
    obtain ⟨h3, -, -⟩ := ok_parts h.1
    have h2 := List.length_filter_le (fun s : Nat × Bool => alk (rsD p s.1 s.2) q) (allS p.G.length)
    rw [allS_len] at h2
    omega
  · simp

theorem mgV_sm (p q : PcD) (sh : Int) (b : Bool) : (mgV p q sh b).sm := by
  unfold mgV
  split
  · rename_i h
    have h2 := ok_sm h.2.1
    exact ⟨by show (comL _ _ _).length ≤ 1000; rw [comL_len]; exact h2.1, h2.2⟩
  · exact ⟨by simp [zeroD], by simp [zeroD]⟩

end Go.Proofs.YtcfapbccegijnaaGreat

/- Walks: law 5 (GlassMerges). -/
namespace Go.Proofs.YtcfapbccegijnaaGreat
open Go Go.RowKit Go.Proofs Go.Abs

theorem pcs2_st (w : World) (P Q : Obj) (sh : Int) (b : Bool) :
    (((w.alloc P).alloc Q).alloc (stObj sh b)).heap[w.heap.size]? = some P ∧ (((w.alloc P).alloc Q).alloc (stObj sh b)).heap[w.heap.size + 1]? = some Q ∧ (((w.alloc P).alloc Q).alloc (stObj sh b)).heap[w.heap.size + 2]? = some (stObj sh b) ∧ Below w.heap.size w (((w.alloc P).alloc Q).alloc (stObj sh b)) := by
  refine ⟨?_, ?_, ?_, ((((Below.refl _ _).alloc (Nat.le_refl _) _).alloc (by simp) _).alloc (by simp; omega) _)⟩
  · exact (alloc_heap_old _ _ (by simp <;> omega)).trans ((alloc_heap_old _ _ (by simp)).trans (alloc_heap_new _ _))
  · have := alloc_heap_new (w.alloc P) Q
    rw [World.size_alloc] at this
    exact (alloc_heap_old _ _ (by simp)).trans this
  · have := alloc_heap_new ((w.alloc P).alloc Q) (stObj sh b)
    rwa [World.size_alloc, World.size_alloc] at this

set_option maxRecDepth 100000 in
set_option maxHeartbeats 16000000 in
theorem mergesLaw_walk (p q y : PcD) (sh : Int) (b : Bool) (agp amp agq amq : Option Addr) (gcp mcp gcq mcq : Nat) (w : World) (fp fq : Bool) (E1 E2 : Int) (F : List (Nat × Bool)) (hF : F.length ≤ 1000) (hy : y.sm)
    (HFp : Hid (∀ W, Below w.heap.size w W → Calls Tryz.prog 11 #[pcs p.id p.c p.r p.m p.s (.slice agp p.G.length gcp) (.slice amp p.M.length mcp), .slice none 0 0] W fun e w' => e = .returned (.bool fp) ∧ Below W.heap.size W w'))
    (HFq : Hid (∀ W, Below w.heap.size w W → Calls Tryz.prog 11 #[pcs q.id q.c q.r q.m q.s (.slice agq q.G.length gcq) (.slice amq q.M.length mcq), .slice none 0 0] W fun e w' => e = .returned (.bool fq) ∧ Below W.heap.size W w'))
    (H25 : Hid (∀ W, Below w.heap.size w W → Calls Tryz.prog 25 #[pcs p.id p.c p.r p.m p.s (.slice agp p.G.length gcp) (.slice amp p.M.length mcp), pcs q.id q.c q.r q.m q.s (.slice agq q.G.length gcq) (.slice amq q.M.length mcq)] W fun e w' => ∃ v, e = .returned (.tuple #[v, .int .i64 E1]) ∧ SetAt w' v F ∧ Below W.heap.size W w'))
    (H26 : Hid (∀ W, Below w.heap.size w W → Calls Tryz.prog 26 #[pcs p.id p.c p.r p.m p.s (.slice agp p.G.length gcp) (.slice amp p.M.length mcp), pcs q.id q.c q.r q.m q.s (.slice agq q.G.length gcq) (.slice amq q.M.length mcq)] W fun e w' => ∃ v, e = .returned (.tuple #[v, .int .i64 E1]) ∧ SetAt w' v F ∧ Below W.heap.size W w'))
    (H27 : Hid (∀ W, Below w.heap.size w W → Calls Tryz.prog 27 #[pcs p.id p.c p.r p.m p.s (.slice agp p.G.length gcp) (.slice amp p.M.length mcp), pcs q.id q.c q.r q.m q.s (.slice agq q.G.length gcq) (.slice amq q.M.length mcq), st sh b] W fun e w' => ∃ v, e = .returned (.tuple #[v, .int .i64 E2]) ∧ PcV w' W.heap.size v y ∧ Below W.heap.size W w'))
    (H28 : Hid (∀ W, Below w.heap.size w W → Calls Tryz.prog 28 #[pcs p.id p.c p.r p.m p.s (.slice agp p.G.length gcp) (.slice amp p.M.length mcp), pcs q.id q.c q.r q.m q.s (.slice agq q.G.length gcq) (.slice amq q.M.length mcq), st sh b] W fun e w' => ∃ v, e = .returned (.tuple #[v, .int .i64 E2]) ∧ PcV w' W.heap.size v y ∧ Below W.heap.size W w')) :
    Calls Tryz.prog 5 #[pcs p.id p.c p.r p.m p.s (.slice agp p.G.length gcp) (.slice amp p.M.length mcp), pcs q.id q.c q.r q.m q.s (.slice agq q.G.length gcq) (.slice amq q.M.length mcq), st sh b] w fun e w' => e = .returned (.bool true) ∧ Below w.heap.size w w' := by
  obtain ⟨hp0, hq0, hs0, b0⟩ := pcs2_st w (pcsObj p.id p.c p.r p.m p.s (.slice agp p.G.length gcp) (.slice amp p.M.length mcp)) (pcsObj q.id q.c q.r q.m q.s (.slice agq q.G.length gcq) (.slice amq q.M.length mcq)) sh b
  go_enter Tryz.func5, Tryz.ntmps5
  go_upto_region 2 with (go_at_call 10; refine (awake_any _).mono ?_; rintro e w1 ⟨rfl, hb⟩)
  have b1 := keep_below b0 hb
  have hp := (hb.block w.heap.size (by simp; omega)).trans hp0
  have hq := (hb.block (w.heap.size + 1) (by simp <;> omega)).trans hq0
  have hs := (hb.block (w.heap.size + 2) (by simp)).trans hs0
  clear hp0 hq0 hs0 b0 hb
  obtain ⟨hp_0, hp_1, hp_2, hp_3, hp_4, hp_5, hp_6⟩ := And.intro (cell_of hp (k := 0) rfl) (And.intro (cell_of hp (k := 1) rfl) (And.intro (cell_of hp (k := 2) rfl) (And.intro (cell_of hp (k := 3) rfl) (And.intro (cell_of hp (k := 4) rfl) (And.intro (cell_of hp (k := 5) rfl) (cell_of hp (k := 6) rfl))))))
  go_wp2_with fail
  refine (HFp.out _ b1).mono ?_
  rintro e w2 ⟨rfl, hb⟩
  clear hp_0 hp_1 hp_2 hp_3 hp_4 hp_5 hp_6
  replace b1 := keep_below b1 hb
  replace hp := (hb.block _ (Array.getElem?_eq_some_iff.1 hp).1).trans hp
  replace hq := (hb.block _ (Array.getElem?_eq_some_iff.1 hq).1).trans hq
  replace hs := (hb.block _ (Array.getElem?_eq_some_iff.1 hs).1).trans hs
  clear hb
  cases fp
  · go_wp2
    go_ret
    exact ⟨rfl, b1⟩
  · skip
    obtain ⟨hq_0, hq_1, hq_2, hq_3, hq_4, hq_5, hq_6⟩ := And.intro (cell_of hq (k := 0) rfl) (And.intro (cell_of hq (k := 1) rfl) (And.intro (cell_of hq (k := 2) rfl) (And.intro (cell_of hq (k := 3) rfl) (And.intro (cell_of hq (k := 4) rfl) (And.intro (cell_of hq (k := 5) rfl) (cell_of hq (k := 6) rfl))))))
    go_wp2_with fail
    refine (HFq.out _ b1).mono ?_
    rintro e w3 ⟨rfl, hb⟩
    clear hq_0 hq_1 hq_2 hq_3 hq_4 hq_5 hq_6
    replace b1 := keep_below b1 hb
    replace hp := (hb.block _ (Array.getElem?_eq_some_iff.1 hp).1).trans hp
    replace hq := (hb.block _ (Array.getElem?_eq_some_iff.1 hq).1).trans hq
    replace hs := (hb.block _ (Array.getElem?_eq_some_iff.1 hs).1).trans hs
    clear hb
    cases fq
    · go_wp2
      go_ret
      exact ⟨rfl, b1⟩
    · skip
      obtain ⟨hp_0, hp_1, hp_2, hp_3, hp_4, hp_5, hp_6⟩ := And.intro (cell_of hp (k := 0) rfl) (And.intro (cell_of hp (k := 1) rfl) (And.intro (cell_of hp (k := 2) rfl) (And.intro (cell_of hp (k := 3) rfl) (And.intro (cell_of hp (k := 4) rfl) (And.intro (cell_of hp (k := 5) rfl) (cell_of hp (k := 6) rfl))))))
      obtain ⟨hq_0, hq_1, hq_2, hq_3, hq_4, hq_5, hq_6⟩ := And.intro (cell_of hq (k := 0) rfl) (And.intro (cell_of hq (k := 1) rfl) (And.intro (cell_of hq (k := 2) rfl) (And.intro (cell_of hq (k := 3) rfl) (And.intro (cell_of hq (k := 4) rfl) (And.intro (cell_of hq (k := 5) rfl) (cell_of hq (k := 6) rfl))))))
      go_wp2_with fail
      refine (H25.out _ b1).mono ?_
      rintro e w4 ⟨v25, rfl, hv25, hb⟩
      clear hp_0 hp_1 hp_2 hp_3 hp_4 hp_5 hp_6 hq_0 hq_1 hq_2 hq_3 hq_4 hq_5 hq_6
      replace b1 := keep_below b1 hb
      replace hp := (hb.block _ (Array.getElem?_eq_some_iff.1 hp).1).trans hp
      replace hq := (hb.block _ (Array.getElem?_eq_some_iff.1 hq).1).trans hq
      replace hs := (hb.block _ (Array.getElem?_eq_some_iff.1 hs).1).trans hs
      clear hb
      obtain ⟨hp_0, hp_1, hp_2, hp_3, hp_4, hp_5, hp_6⟩ := And.intro (cell_of hp (k := 0) rfl) (And.intro (cell_of hp (k := 1) rfl) (And.intro (cell_of hp (k := 2) rfl) (And.intro (cell_of hp (k := 3) rfl) (And.intro (cell_of hp (k := 4) rfl) (And.intro (cell_of hp (k := 5) rfl) (cell_of hp (k := 6) rfl))))))
      obtain ⟨hq_0, hq_1, hq_2, hq_3, hq_4, hq_5, hq_6⟩ := And.intro (cell_of hq (k := 0) rfl) (And.intro (cell_of hq (k := 1) rfl) (And.intro (cell_of hq (k := 2) rfl) (And.intro (cell_of hq (k := 3) rfl) (And.intro (cell_of hq (k := 4) rfl) (And.intro (cell_of hq (k := 5) rfl) (cell_of hq (k := 6) rfl))))))
      go_wp2_with fail
      refine (H26.out _ b1).mono ?_
      rintro e w5 ⟨v26, rfl, hv26, hb⟩
      clear hp_0 hp_1 hp_2 hp_3 hp_4 hp_5 hp_6 hq_0 hq_1 hq_2 hq_3 hq_4 hq_5 hq_6
      replace b1 := keep_below b1 hb
      replace hp := (hb.block _ (Array.getElem?_eq_some_iff.1 hp).1).trans hp
      replace hq := (hb.block _ (Array.getElem?_eq_some_iff.1 hq).1).trans hq
      replace hs := (hb.block _ (Array.getElem?_eq_some_iff.1 hs).1).trans hs
      replace hv25 := hv25.keep hb
      clear hb
      obtain ⟨hp_0, hp_1, hp_2, hp_3, hp_4, hp_5, hp_6⟩ := And.intro (cell_of hp (k := 0) rfl) (And.intro (cell_of hp (k := 1) rfl) (And.intro (cell_of hp (k := 2) rfl) (And.intro (cell_of hp (k := 3) rfl) (And.intro (cell_of hp (k := 4) rfl) (And.intro (cell_of hp (k := 5) rfl) (cell_of hp (k := 6) rfl))))))
      obtain ⟨hq_0, hq_1, hq_2, hq_3, hq_4, hq_5, hq_6⟩ := And.intro (cell_of hq (k := 0) rfl) (And.intro (cell_of hq (k := 1) rfl) (And.intro (cell_of hq (k := 2) rfl) (And.intro (cell_of hq (k := 3) rfl) (And.intro (cell_of hq (k := 4) rfl) (And.intro (cell_of hq (k := 5) rfl) (cell_of hq (k := 6) rfl))))))
      obtain ⟨hs_0, hs_1⟩ := And.intro (cell_of hs (k := 0) rfl) (cell_of hs (k := 1) rfl)
      go_wp2_with fail
      refine (H27.out _ b1).mono ?_
      rintro e w6 ⟨vx, rfl, hvx, hb⟩
      clear hp_0 hp_1 hp_2 hp_3 hp_4 hp_5 hp_6 hq_0 hq_1 hq_2 hq_3 hq_4 hq_5 hq_6 hs_0 hs_1
      obtain ⟨agx, gcx, amx, mcx, rfl, hvx⟩ := hvx.pcs
      replace b1 := keep_below b1 hb
      replace hp := (hb.block _ (Array.getElem?_eq_some_iff.1 hp).1).trans hp
      replace hq := (hb.block _ (Array.getElem?_eq_some_iff.1 hq).1).trans hq
      replace hs := (hb.block _ (Array.getElem?_eq_some_iff.1 hs).1).trans hs
      replace hv25 := hv25.keep hb
      replace hv26 := hv26.keep hb
      clear hb
      have hb : Below w6.heap.size w6 (w6.alloc (.cells #[.int .i64 y.id, .int .i64 y.c, .int .i64 y.r, .int .i64 y.m, .int .i64 y.s, .slice agx y.G.length gcx, .slice amx y.M.length mcx] 25)) := (Below.refl _ _).alloc (Nat.le_refl _) _
      have hbx := alloc_heap_new w6 (.cells #[.int .i64 y.id, .int .i64 y.c, .int .i64 y.r, .int .i64 y.m, .int .i64 y.s, .slice agx y.G.length gcx, .slice amx y.M.length mcx] 25)
      replace b1 := keep_below b1 hb
      replace hp := (hb.block _ (Array.getElem?_eq_some_iff.1 hp).1).trans hp
      replace hq := (hb.block _ (Array.getElem?_eq_some_iff.1 hq).1).trans hq
      replace hs := (hb.block _ (Array.getElem?_eq_some_iff.1 hs).1).trans hs
      replace hv25 := hv25.keep hb
      replace hv26 := hv26.keep hb
      replace hvx := hvx.keep hb
      clear hb
      obtain ⟨hp_0, hp_1, hp_2, hp_3, hp_4, hp_5, hp_6⟩ := And.intro (cell_of hp (k := 0) rfl) (And.intro (cell_of hp (k := 1) rfl) (And.intro (cell_of hp (k := 2) rfl) (And.intro (cell_of hp (k := 3) rfl) (And.intro (cell_of hp (k := 4) rfl) (And.intro (cell_of hp (k := 5) rfl) (cell_of hp (k := 6) rfl))))))
      obtain ⟨hq_0, hq_1, hq_2, hq_3, hq_4, hq_5, hq_6⟩ := And.intro (cell_of hq (k := 0) rfl) (And.intro (cell_of hq (k := 1) rfl) (And.intro (cell_of hq (k := 2) rfl) (And.intro (cell_of hq (k := 3) rfl) (And.intro (cell_of hq (k := 4) rfl) (And.intro (cell_of hq (k := 5) rfl) (cell_of hq (k := 6) rfl))))))
      obtain ⟨hs_0, hs_1⟩ := And.intro (cell_of hs (k := 0) rfl) (cell_of hs (k := 1) rfl)
      go_wp2_with fail
      refine (H28.out _ b1).mono ?_
      rintro e w7 ⟨vz, rfl, hvz, hb⟩
      clear hp_0 hp_1 hp_2 hp_3 hp_4 hp_5 hp_6 hq_0 hq_1 hq_2 hq_3 hq_4 hq_5 hq_6 hs_0 hs_1
      obtain ⟨agz, gcz, amz, mcz, rfl, hvz⟩ := hvz.pcs
      replace b1 := keep_below b1 hb
      replace hp := (hb.block _ (Array.getElem?_eq_some_iff.1 hp).1).trans hp
      replace hq := (hb.block _ (Array.getElem?_eq_some_iff.1 hq).1).trans hq
      replace hs := (hb.block _ (Array.getElem?_eq_some_iff.1 hs).1).trans hs
      replace hbx := (hb.block _ (Array.getElem?_eq_some_iff.1 hbx).1).trans hbx
      replace hv25 := hv25.keep hb
      replace hv26 := hv26.keep hb
      replace hvx := hvx.keep hb
      clear hb
      have hb : Below w7.heap.size w7 (w7.alloc (.cells #[.int .i64 y.id, .int .i64 y.c, .int .i64 y.r, .int .i64 y.m, .int .i64 y.s, .slice agz y.G.length gcz, .slice amz y.M.length mcz] 25)) := (Below.refl _ _).alloc (Nat.le_refl _) _
      have hbz := alloc_heap_new w7 (.cells #[.int .i64 y.id, .int .i64 y.c, .int .i64 y.r, .int .i64 y.m, .int .i64 y.s, .slice agz y.G.length gcz, .slice amz y.M.length mcz] 25)
      replace b1 := keep_below b1 hb
      replace hp := (hb.block _ (Array.getElem?_eq_some_iff.1 hp).1).trans hp
      replace hq := (hb.block _ (Array.getElem?_eq_some_iff.1 hq).1).trans hq
      replace hs := (hb.block _ (Array.getElem?_eq_some_iff.1 hs).1).trans hs
      replace hbx := (hb.block _ (Array.getElem?_eq_some_iff.1 hbx).1).trans hbx
      replace hv25 := hv25.keep hb
      replace hv26 := hv26.keep hb
      replace hvx := hvx.keep hb
      replace hvz := hvz.keep hb
      clear hb
      obtain ⟨a25, c25, rfl⟩ := SetAt.shape hv25
      obtain ⟨a26, c26, rfl⟩ := SetAt.shape hv26
      obtain ⟨hbx_0, hbx_1, hbx_2, hbx_3, hbx_4, hbx_5, hbx_6⟩ := And.intro (cell_of hbx (k := 0) rfl) (And.intro (cell_of hbx (k := 1) rfl) (And.intro (cell_of hbx (k := 2) rfl) (And.intro (cell_of hbx (k := 3) rfl) (And.intro (cell_of hbx (k := 4) rfl) (And.intro (cell_of hbx (k := 5) rfl) (cell_of hbx (k := 6) rfl))))))
      obtain ⟨hbz_0, hbz_1, hbz_2, hbz_3, hbz_4, hbz_5, hbz_6⟩ := And.intro (cell_of hbz (k := 0) rfl) (And.intro (cell_of hbz (k := 1) rfl) (And.intro (cell_of hbz (k := 2) rfl) (And.intro (cell_of hbz (k := 3) rfl) (And.intro (cell_of hbz (k := 4) rfl) (And.intro (cell_of hbz (k := 5) rfl) (cell_of hbz (k := 6) rfl))))))
      go_wp2_with fail
      refine (sameSet_at _ hv25 hv26 hF).mono ?_
      rintro e w8 ⟨rfl, hb⟩
      clear hbx_0 hbx_1 hbx_2 hbx_3 hbx_4 hbx_5 hbx_6 hbz_0 hbz_1 hbz_2 hbz_3 hbz_4 hbz_5 hbz_6
      replace b1 := keep_below b1 hb
      replace hp := (hb.block _ (Array.getElem?_eq_some_iff.1 hp).1).trans hp
      replace hq := (hb.block _ (Array.getElem?_eq_some_iff.1 hq).1).trans hq
      replace hs := (hb.block _ (Array.getElem?_eq_some_iff.1 hs).1).trans hs
      replace hbx := (hb.block _ (Array.getElem?_eq_some_iff.1 hbx).1).trans hbx
      replace hbz := (hb.block _ (Array.getElem?_eq_some_iff.1 hbz).1).trans hbz
      replace hv25 := hv25.keep hb
      replace hv26 := hv26.keep hb
      replace hvx := hvx.keep hb
      replace hvz := hvz.keep hb
      clear hb
      obtain ⟨hbx_0, hbx_1, hbx_2, hbx_3, hbx_4, hbx_5, hbx_6⟩ := And.intro (cell_of hbx (k := 0) rfl) (And.intro (cell_of hbx (k := 1) rfl) (And.intro (cell_of hbx (k := 2) rfl) (And.intro (cell_of hbx (k := 3) rfl) (And.intro (cell_of hbx (k := 4) rfl) (And.intro (cell_of hbx (k := 5) rfl) (cell_of hbx (k := 6) rfl))))))
      obtain ⟨hbz_0, hbz_1, hbz_2, hbz_3, hbz_4, hbz_5, hbz_6⟩ := And.intro (cell_of hbz (k := 0) rfl) (And.intro (cell_of hbz (k := 1) rfl) (And.intro (cell_of hbz (k := 2) rfl) (And.intro (cell_of hbz (k := 3) rfl) (And.intro (cell_of hbz (k := 4) rfl) (And.intro (cell_of hbz (k := 5) rfl) (cell_of hbz (k := 6) rfl))))))
      go_wp2_with fail
      refine (samePiece_any _ hvx hvz hy.1 hy.2).mono ?_
      rintro e w9 ⟨rfl, hb⟩
      clear hbx_0 hbx_1 hbx_2 hbx_3 hbx_4 hbx_5 hbx_6 hbz_0 hbz_1 hbz_2 hbz_3 hbz_4 hbz_5 hbz_6
      replace b1 := keep_below b1 hb
      replace hp := (hb.block _ (Array.getElem?_eq_some_iff.1 hp).1).trans hp
      replace hq := (hb.block _ (Array.getElem?_eq_some_iff.1 hq).1).trans hq
      replace hs := (hb.block _ (Array.getElem?_eq_some_iff.1 hs).1).trans hs
      replace hbx := (hb.block _ (Array.getElem?_eq_some_iff.1 hbx).1).trans hbx
      replace hbz := (hb.block _ (Array.getElem?_eq_some_iff.1 hbz).1).trans hbz
      replace hv25 := hv25.keep hb
      replace hv26 := hv26.keep hb
      replace hvx := hvx.keep hb
      replace hvz := hvz.keep hb
      clear hb
      go_wp2
      go_ret
      exact ⟨rfl, b1⟩

theorem mergesLaw_any (p q : PcD) (sh : Int) (b : Bool) (vg vm vg' vm' : Value) (w : World) (hG : SlG w vg p.G) (hM : SlM w vm p.M) (hG' : SlG w vg' q.G) (hM' : SlM w vm' q.M) :
    Calls Tryz.prog 5 #[pcs p.id p.c p.r p.m p.s vg vm, pcs q.id q.c q.r q.m q.s vg' vm', st sh b] w fun e w' => e = .returned (.bool true) ∧ Below w.heap.size w w' := by
  obtain ⟨agp, gcp, rfl, -⟩ := _root_.id hG
  obtain ⟨amp, mcp, rfl, -⟩ := _root_.id hM
  obtain ⟨agq, gcq, rfl, -⟩ := _root_.id hG'
  obtain ⟨amq, mcq, rfl, -⟩ := _root_.id hM'
  exact mergesLaw_walk p q (mgV p q sh b) sh b agp amp agq amq gcp mcp gcq mcq w (fewB p.G p.M 0) (fewB q.G q.M 0) (agE p q) (mgE p q sh b) (agS p q) (agS_len p q) (mgV_sm p q sh b)
    (Lib.hid fun W hW => few3_any p.id p.c p.r p.m p.s _ _ p.G p.M none 0 0 W (hG.keep hW) (hM.keep hW))
    (Lib.hid fun W hW => few3_any q.id q.c q.r q.m q.s _ _ q.G q.M none 0 0 W (hG'.keep hW) (hM'.keep hW))
    (Lib.hid fun W hW => agree25_any p q _ _ _ _ W (hG.keep hW) (hM.keep hW) (hG'.keep hW) (hM'.keep hW))
    (Lib.hid fun W hW => agree26_any p q _ _ _ _ W (hG.keep hW) (hM.keep hW) (hG'.keep hW) (hM'.keep hW))
    (Lib.hid fun W hW => merge27_any p q sh b _ _ _ _ W (hG.keep hW) (hM.keep hW) (hG'.keep hW) (hM'.keep hW))
    (Lib.hid fun W hW => merge28_any p q sh b _ _ _ _ W (hG.keep hW) (hM.keep hW) (hG'.keep hW) (hM'.keep hW))

end Go.Proofs.YtcfapbccegijnaaGreat
