/- The abstract machine, part GrHd. -/
import Derived.Test.YtkmcboincjohlaaGreatGrLS
import Derived.Test.YtkmcboincjohlaaGreatGrLJ
import Derived.Test.YtkmcboincjohlaaGreatGrTT
import Derived.Test.YtkmcboincjohlaaGreatGrAbsE
/- The head live3: if web.Panes of its web answers the two squares, it returns true. -/
namespace Go.Proofs.YtkmcboincjohlaaGreat
open Go Go.RowKit Go.Proofs Go.Abs

def sq0 : List (Int × Int) := [(0, 0), (4, 0), (4, 4), (0, 4)]
def sq1 : List (Int × Int) := [(4, 0), (8, 0), (8, 4), (4, 4)]
theorem sq0_out : vOut sq0 = true := by kernel_rfl
theorem sq_sett : (settV sq0 sq1).length = 8 := by kernel_rfl
theorem sq_err : settE sq0 sq1 = 0 := by kernel_rfl

/-- Two panes that are the squares. -/
def Two (g oP : Nat) (b0 o0 c0 b1 o1 c1 : Nat) (W : World) : Prop :=
  W.cell? ⟨g, oP + 1, none⟩ = some (.slice (some ⟨b0, o0, none⟩) 4 c0) ∧ W.cell? ⟨g, oP + 3 + 1, none⟩ = some (.slice (some ⟨b1, o1, none⟩) 4 c1) ∧ PtsAt W b0 o0 sq0 ∧ PtsAt W b1 o1 sq1

theorem Two.keep {g oP b0 o0 c0 b1 o1 c1 : Nat} {W W' : World} (h : Two g oP b0 o0 c0 b1 o1 c1 W) (hb : Below W.heap.size W W') : Two g oP b0 o0 c0 b1 o1 c1 W' :=
  ⟨keep_cell hb h.1, keep_cell hb h.2.1, h.2.2.1.keep hb, h.2.2.2.keep hb⟩

def StU (v : Value) (_ _ : Nat) (_ : World) : Prop := ∃ a cp, v = .slice a 8 cp
def StT (v : Value) (_ _ : Nat) (_ : World) : Prop := ∃ u, v = .tuple #[u, .int .i64 0] ∧ ∃ a cp, u = .slice a 8 cp

theorem own_len {W : World} {B e k n : Nat} {v : Value} {l : List Value} (h : W.ownsRow B e k v n l) : ∃ a cp, v = .slice a n cp := by
  rcases h.2 with ⟨h1, h2⟩ | ⟨g, cap, cur, rfl, -⟩
  · exact ⟨none, 0, by rw [h1, h2]⟩
  · exact ⟨_, _, rfl⟩

theorem two_sett {g oP b0 o0 c0 b1 o1 c1 : Nat} {W : World} (h : Two g oP b0 o0 c0 b1 o1 c1 W) : Calls Tryz.prog 10 #[.slice (some ⟨b0, o0, none⟩) 4 c0, .slice (some ⟨b1, o1, none⟩) 4 c1] W fun e w' => ∃ v, e = .returned v ∧ StT v W.heap.size w'.heap.size w' ∧ Below W.heap.size W w' := by
  have s0 : SlV W (.slice (some ⟨b0, o0, none⟩) 4 c0) sq0 := ⟨_, _, rfl, by simp [sq0], .inl ⟨_, _, rfl, h.2.2.1⟩⟩
  have s1 : SlV W (.slice (some ⟨b1, o1, none⟩) 4 c1) sq1 := ⟨_, _, rfl, by simp [sq1], .inl ⟨_, _, rfl, h.2.2.2⟩⟩
  refine (settings_sl s0 s1).mono ?_
  rintro e w' ⟨v, rfl, ho, hb⟩
  rw [sq_sett] at ho
  rw [sq_err]
  exact ⟨_, rfl, ⟨v, rfl, own_len ho⟩, hb⟩

theorem two_gau {g oP b0 o0 c0 b1 o1 c1 : Nat} {W : World} (h : Two g oP b0 o0 c0 b1 o1 c1 W) : Calls Tryz.prog 7 #[.slice (some ⟨b0, o0, none⟩) 4 c0] W fun e w' => ∃ a cp, e = .returned (.tuple #[.slice a 4 cp, .int .i64 0]) ∧ Below W.heap.size W w' := by
  refine (gauges_good b0 o0 c0 sq0 sq0_out W h.2.2.1).mono ?_
  rintro e w' ⟨v, rfl, ho, hb⟩
  obtain ⟨a, cp, rfl⟩ := own_len ho
  exact ⟨a, cp, rfl, hb⟩

set_option maxRecDepth 100000 in
set_option maxHeartbeats 8000000 in
theorem live3_if (HS : Hid (∀ W, Calls Tryz.prog 17 #[] W fun e w1 => ∃ v, e = .returned v ∧ Below W.heap.size W w1 ∧ Calls Tryz.prog 6 #[v] w1 fun e2 w2 =>
    ∃ g oP c b0 o0 c0 b1 o1 c1, e2 = .returned (.tuple #[.slice (some ⟨g, oP, none⟩) 2 c, .int .i64 0]) ∧ Below w1.heap.size w1 w2 ∧ Two g oP b0 o0 c0 b1 o1 c1 w2)) (w : World) :
    Calls Tryz.prog 5 #[] w fun e w' => e = .returned (.bool true) ∧ Below w.heap.size w w' := by
  go_enter Tryz.func5, Tryz.ntmps5
  go_wp2_with fail
  refine (HS.out _).mono ?_
  rintro e w1 ⟨v, rfl, hb1, C6⟩
  go_wp2_with fail
  refine C6.mono ?_
  rintro e w2 ⟨gP, oP, c, b0, o0, c0, b1, o1, c1, rfl, hb2, htw⟩
  have HB2 := Lib.hid (keep_below hb1 hb2)
  have HT := Lib.hid htw
  obtain ⟨x0, x1, -, -⟩ := htw
  clear hb1 hb2 C6
  go_wp2_with fail
  refine wp_region_boxes [.con (.slice (some ⟨gP, oP, none⟩) 2 c), .con (.pointer (some ⟨gP, oP, none⟩)), .con (.pointer (some ⟨gP, oP + 1, none⟩)), .con (.slice (some ⟨b0, o0, none⟩) 4 c0), .con (.slice (some ⟨gP, oP, none⟩) 2 c), .con (.pointer (some ⟨gP, oP + 3, none⟩)), .con (.pointer (some ⟨gP, oP + 3 + 1, none⟩)), .con (.slice (some ⟨b1, o1, none⟩) 4 c1), .made 8 (StT), .made 8 (StT), .made 8 (StU), .con (.int .i64 0), .made 8 (StU), .con (.int .i64 0)] (by kernel_rfl) (by kernel_rfl) rfl ?_ ?_ ?_
  · repeat' (first | exact fun x hx => absurd hx List.not_mem_nil | refine List.forall_mem_cons.2 ⟨?_, ?_⟩)
    all_goals first | exact trivial | exact fun _ _ _ _ _ _ h => h | exact fun _ _ _ _ _ _ h => h
  · intro i o ho g a' W hGd hfr hdep
    have f1 : a'.tmps[1]?.getD undef = .slice (some ⟨gP, oP, none⟩) 2 c := Array.getD_eq_getD_getElem?.symm.trans (hfr 1 rfl)
    clear hfr
    have hi : i < 14 := by have := (List.getElem?_eq_some_iff.1 ho).1; simpa using this
    obtain rfl | rfl | rfl | rfl | rfl | rfl | rfl | rfl | rfl | rfl | rfl | rfl | rfl | rfl : i = 0 ∨ i = 1 ∨ i = 2 ∨ i = 3 ∨ i = 4 ∨ i = 5 ∨ i = 6 ∨ i = 7 ∨ i = 8 ∨ i = 9 ∨ i = 10 ∨ i = 11 ∨ i = 12 ∨ i = 13 := by omega
    all_goals simp only [List.getElem?_cons_zero, List.getElem?_cons_succ, Option.some.injEq] at ho
    all_goals subst ho
    · clear hdep x0 x1
      refine kS_con rfl ?_
      go_simp
    · have d0 : a'.tmps[28]?.getD undef = .slice (some ⟨gP, oP, none⟩) 2 c := Array.getD_eq_getD_getElem?.symm.trans (hdep ⟨0, .data⟩ (by simp) rfl _ rfl).2
      clear hdep x0 x1
      refine kS_con rfl ?_
      go_simp
    · have d1 : a'.tmps[29]?.getD undef = .pointer (some ⟨gP, oP, none⟩) := Array.getD_eq_getD_getElem?.symm.trans (hdep ⟨1, .data⟩ (by simp) rfl _ rfl).2
      clear hdep x0 x1
      refine kS_con rfl ?_
      go_simp
    · have d2 : a'.tmps[30]?.getD undef = .pointer (some ⟨gP, oP + 1, none⟩) := Array.getD_eq_getD_getElem?.symm.trans (hdep ⟨2, .data⟩ (by simp) rfl _ rfl).2
      have y0 := (HT.out.keep hGd).1
      clear hdep x0 x1
      refine kS_con rfl ?_
      go_simp
    · clear hdep x0 x1
      refine kS_con rfl ?_
      go_simp
    · have d4 : a'.tmps[32]?.getD undef = .slice (some ⟨gP, oP, none⟩) 2 c := Array.getD_eq_getD_getElem?.symm.trans (hdep ⟨4, .data⟩ (by simp) rfl _ rfl).2
      clear hdep x0 x1
      refine kS_con rfl ?_
      go_simp
    · have d5 : a'.tmps[33]?.getD undef = .pointer (some ⟨gP, oP + 3, none⟩) := Array.getD_eq_getD_getElem?.symm.trans (hdep ⟨5, .data⟩ (by simp) rfl _ rfl).2
      clear hdep x0 x1
      refine kS_con rfl ?_
      go_simp
    · have d6 : a'.tmps[34]?.getD undef = .pointer (some ⟨gP, oP + 3 + 1, none⟩) := Array.getD_eq_getD_getElem?.symm.trans (hdep ⟨6, .data⟩ (by simp) rfl _ rfl).2
      have y1 := (HT.out.keep hGd).2.1
      clear hdep x0 x1
      refine kS_con rfl ?_
      go_simp
    · have d3 : a'.tmps[31]?.getD undef = .slice (some ⟨b0, o0, none⟩) 4 c0 := Array.getD_eq_getD_getElem?.symm.trans (hdep ⟨3, .data⟩ (by simp) rfl _ rfl).2
      have d7 : a'.tmps[35]?.getD undef = .slice (some ⟨b1, o1, none⟩) 4 c1 := Array.getD_eq_getD_getElem?.symm.trans (hdep ⟨7, .data⟩ (by simp) rfl _ rfl).2
      clear hdep x0 x1
      refine kS_made_call (f := 10) (args := #[.slice (some ⟨b0, o0, none⟩) 4 c0, .slice (some ⟨b1, o1, none⟩) 4 c1]) rfl ?_ (two_sett (HT.out.keep hGd))
      go_simp
    · obtain ⟨hL8, u8, hv8, hR8⟩ := (hdep ⟨8, .data⟩ (by simp) rfl _ rfl).2
      have d8 : a'.tmps[36]?.getD undef = .tuple #[u8, .int .i64 0] := Array.getD_eq_getD_getElem?.symm.trans hv8
      clear hdep x0 x1
      refine kS_made (v := .tuple #[u8, .int .i64 0]) rfl (by decide) hL8 ?_ (⟨u8, rfl, hR8⟩)
      go_simp
    · obtain ⟨hL8, u9, hv9, hR9⟩ := (hdep ⟨9, .data⟩ (by simp) rfl _ rfl).2
      have d9 : a'.tmps[27]?.getD undef = .tuple #[u9, .int .i64 0] := Array.getD_eq_getD_getElem?.symm.trans hv9
      clear hdep x0 x1
      refine kS_made (v := u9) rfl (by decide) hL8 ?_ (hR9)
      go_simp
    · obtain ⟨hL8, u9, hv9, hR9⟩ := (hdep ⟨9, .data⟩ (by simp) rfl _ rfl).2
      have d9 : a'.tmps[27]?.getD undef = .tuple #[u9, .int .i64 0] := Array.getD_eq_getD_getElem?.symm.trans hv9
      clear hdep x0 x1
      refine kS_con rfl ?_
      go_simp
    · obtain ⟨hL8, a10, p10, hv10⟩ := (hdep ⟨10, .data⟩ (by simp) rfl _ rfl).2
      have d10 : a'.tmps[37]?.getD undef = .slice a10 8 p10 := Array.getD_eq_getD_getElem?.symm.trans hv10
      clear hdep x0 x1
      refine kS_made (v := .slice a10 8 p10) rfl (by decide) hL8 ?_ (⟨a10, p10, rfl⟩)
      go_simp
    · have d11 : a'.tmps[38]?.getD undef = .int .i64 0 := Array.getD_eq_getD_getElem?.symm.trans (hdep ⟨11, .data⟩ (by simp) rfl _ rfl).2
      clear hdep x0 x1
      refine kS_con rfl ?_
      go_simp
  · intro g W hGd hXg hS
    simp only [List.map_cons, List.map_nil, VQ]
    rintro _ rfl _ rfl _ rfl _ rfl _ rfl _ rfl _ rfl _ rfl _ ⟨-, u8, rfl, -⟩ _ ⟨-, u9, rfl, -⟩ _ ⟨-, a10, p10, rfl⟩ _ rfl _ ⟨-, a12, p12, rfl⟩ _ rfl
    simp only [List.setIfInBounds_toArray, List.set_cons_zero, List.set_cons_succ]
    clear hS hXg
    have HB3 := Lib.hid (keep_below HB2.out hGd)
    have HT3 := Lib.hid (HT.out.keep hGd)
    have x0 := HT3.out.1
    clear hGd HT HB2
    simp only [Exit.then]
    go_at_K
    go_wp2_with fail
    refine (two_gau HT3.out).mono ?_
    rintro e w4 ⟨a, cp, rfl, hb⟩
    have hbf := keep_below HB3.out hb
    clear hb x0 HT3 HB3
    go_wp2
    go_ret
    exact ⟨by simp, hbf⟩

end Go.Proofs.YtkmcboincjohlaaGreat

/- The head live3, from two known calls: the web's, and Panes of it. -/
namespace Go.Proofs.YtkmcboincjohlaaGreat
open Go Go.RowKit Go.Proofs Go.Abs

theorem rel_slice {ρ : Ren} {b o len cap : Nat} {v : Value} (h : VRel ρ (.slice (some ⟨b, o, none⟩) len cap) v) (hl : 0 < len) : ∃ t c, ρ[b]? = some t ∧ v = .slice (some ⟨t.rb, t.ro + o, none⟩) len c := by
  cases h with
  | atom h => simp [isAtom] at h
  | slice h hc => exact ⟨_, _, h, rfl⟩
  | grown h h1 h2 ho hn =>
    have e := ho (by omega)
    subst e
    exact ⟨_, _, h, rfl⟩

theorem rel_int {ρ : Ren} {k : IntKind} {n : Int} {v : Value} (h : VRel ρ (.int k n) v) : v = .int k n := by
  cases h
  rfl

theorem rel_cell {P : Program} {B : Nat} {ρ : Ren} {H : List AObj} {w : World} (hw : WRel P B ρ H w) {b : Nat} {t : Ent} (ht : ρ[b]? = some t) {c : List Value} {e : TypeId} {rw : Bool} (hb : H[b]? = some (.cells c e rw)) {i : Nat} {v : Value} (hi : c[i]? = some v) :
    ∃ v', w.cell? ⟨t.rb, t.ro + i, none⟩ = some v' ∧ VRel ρ v v' := by
  obtain ⟨C, fz, h1, -, -, -, h5⟩ := hw.blk b t _ ht hb
  obtain ⟨v', g1, g2⟩ := h5 i v hi
  refine ⟨v', ?_, g2⟩
  unfold World.cell?
  simp only [h1]
  exact g1

theorem rel_pts {P : Program} {B : Nat} {ρ : Ren} {H : List AObj} {w : World} (hw : WRel P B ρ H w) {b o : Nat} {t : Ent} (ht : ρ[b]? = some t) {c : List Value} {e : TypeId} {rw : Bool} (hb : H[b]? = some (.cells c e rw)) {L : List (Int × Int)}
    (hp : ∀ k, k < L.length → c[o + k * 2]? = some (.int .i64 (px L k)) ∧ c[o + k * 2 + 1]? = some (.int .i64 (py L k))) : PtsAt w t.rb (t.ro + o) L := by
  intro k hk
  obtain ⟨h1, h2⟩ := hp k hk
  obtain ⟨v1, g1, r1⟩ := rel_cell hw ht hb h1
  obtain ⟨v2, g2, r2⟩ := rel_cell hw ht hb h2
  rw [rel_int r1] at g1
  rw [rel_int r2] at g2
  refine ⟨?_, ?_⟩
  · rw [show t.ro + o + k * 2 = t.ro + (o + k * 2) by omega]
    exact g1
  · rw [show t.ro + o + k * 2 + 1 = t.ro + (o + k * 2 + 1) by omega]
    exact g2

/-- Two known calls, one after the other. -/
theorem head_of {k1 k2 : Reader} (h1 : k1.Ok Tryz.prog) (h2 : k2.Ok Tryz.prog) (f1 : k1.f = 17) (a1 : k1.args = []) (m1 : k1.M = []) (f2 : k2.f = 6) (a2 : k2.args = [k1.v]) (fit : fitsL k2.M k1.new = true)
    {bP oP cP b0 o0 d0 b1 o1 d1 eP e0 e1 : Nat} {lP l0 l1 : List Value} {r0 r1 rP : Bool} (hv : k2.v = .tuple #[.slice (some ⟨bP, oP, none⟩) 2 cP, .int .i64 0])
    (hP : (k2.M ++ k2.new)[bP]? = some (.cells lP eP rP)) (q0 : lP[oP + 1]? = some (.slice (some ⟨b0, o0, none⟩) 4 d0)) (q1 : lP[oP + 3 + 1]? = some (.slice (some ⟨b1, o1, none⟩) 4 d1))
    (hB0 : (k2.M ++ k2.new)[b0]? = some (.cells l0 e0 r0)) (hB1 : (k2.M ++ k2.new)[b1]? = some (.cells l1 e1 r1))
    (p0 : ∀ k, k < sq0.length → l0[o0 + k * 2]? = some (.int .i64 (px sq0 k)) ∧ l0[o0 + k * 2 + 1]? = some (.int .i64 (py sq0 k))) (p1 : ∀ k, k < sq1.length → l1[o1 + k * 2]? = some (.int .i64 (px sq1 k)) ∧ l1[o1 + k * 2 + 1]? = some (.int .i64 (py sq1 k)))
    (w : World) : Calls Tryz.prog 5 #[] w fun e w' => e = .returned (.bool true) ∧ Below w.heap.size w w' := by
  refine live3_if (Lib.hid fun W => ?_) w
  obtain ⟨-, -, -, H1⟩ := h1
  obtain ⟨-, hM2, -, H2⟩ := h2
  rw [f1, a1, m1] at H1
  rw [f2, a2] at H2
  have hw : WRel Tryz.prog W.heap.size [] [] W := ⟨rfl, fun b t o hb => by simp at hb, fun b b' t t' o o' _ hb => by simp at hb, Nat.le_refl _⟩
  refine (H1 [] W #[] hw ⟨rfl, fun i => by simp; exact VRel.undef _⟩).mono ?_
  rintro e w1 ⟨v, ρ1, he, -, hw1, hb1, hr1⟩
  refine ⟨v, he, hb1, ?_⟩
  have hw1' : WRel Tryz.prog W.heap.size ρ1 k1.new w1 := by simpa using hw1
  refine (H2 ρ1 w1 #[v] (fits_world hM2 fit hw1') ⟨rfl, fun i => ?_⟩).mono ?_
  · cases i with
    | zero => exact hr1
    | succ i => simp; exact VRel.undef _
  · rintro e2 w2 ⟨v2, ρ2, rfl, -, hw2, hb2, hr2⟩
    rw [hv] at hr2
    cases hr2 with
    | atom h => simp [isAtom] at h
    | tuple hs hg =>
      rename_i cs
      have s0 := hg 0
      have s1 := hg 1
      obtain ⟨tP, c, htP, ec⟩ := rel_slice (show VRel ρ2 (.slice (some ⟨bP, oP, none⟩) 2 cP) (cs.getD 0 undef) from s0) (by omega)
      have ez := rel_int (show VRel ρ2 (.int .i64 0) (cs.getD 1 undef) from s1)
      obtain ⟨u0, g0, x0⟩ := rel_cell hw2 htP hP q0
      obtain ⟨u1, g1, x1⟩ := rel_cell hw2 htP hP q1
      obtain ⟨t0, c0, ht0, rfl⟩ := rel_slice x0 (by omega)
      obtain ⟨t1, c1, ht1, rfl⟩ := rel_slice x1 (by omega)
      refine ⟨tP.rb, tP.ro + oP, c, t0.rb, t0.ro + o0, c0, t1.rb, t1.ro + o1, c1, ?_, hb2, ?_, ?_, rel_pts hw2 ht0 hB0 p0, rel_pts hw2 ht1 hB1 p1⟩
      · have : cs = #[.slice (some ⟨tP.rb, tP.ro + oP, none⟩) 2 c, .int .i64 0] := by
          have hs2 : cs.size = 2 := by simpa using hs.symm
          apply Array.ext
          · simpa using hs2
          · intro i hi hi'
            rcases (show i = 0 ∨ i = 1 by omega) with rfl | rfl
            · have := ec
              simp only [Array.getD, hi, dif_pos] at this
              simpa using this
            · have := ez
              simp only [Array.getD, hi, dif_pos] at this
              simpa using this
        rw [this]
      · rw [show tP.ro + oP + 1 = tP.ro + (oP + 1) by omega]
        exact g0
      · rw [show tP.ro + oP + 3 + 1 = tP.ro + (oP + 3 + 1) by omega]
        exact g1

end Go.Proofs.YtkmcboincjohlaaGreat
