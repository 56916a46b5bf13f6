/- Walks: law 3 (GlassFits). -/
import Derived.Test.YtcfapbccegijnaaGreatLP
import Derived.Test.YtcfapbccegijnaaGreatAwake
import Derived.Deep.Cut
namespace Go.Proofs.YtcfapbccegijnaaGreat
open Go Go.RowKit Go.Proofs Go.Abs

theorem SetAt.shape {W : World} {v : Value} {F : List (Nat × Bool)} (h : SetAt W v F) : ∃ a cap, v = .slice a F.length cap := by
  rcases h with ⟨rfl, rfl⟩ | ⟨g, cap, rfl, -⟩
  · exact ⟨_, _, rfl⟩
  · exact ⟨_, _, rfl⟩

theorem SetAt.pos {W : World} {a : Option Addr} {cap : Nat} {F : List (Nat × Bool)} (h : SetAt W (.slice a F.length cap) F) {i : Nat} {p : Nat × Bool} (hp : F[i]? = some p) :
    ∃ g, a = some ⟨g, 0, none⟩ ∧ W.cell? ⟨g, i * 2, none⟩ = some (.int .i64 p.1) ∧ W.cell? ⟨g, i * 2 + 1, none⟩ = some (.bool p.2) := by
  rcases h with ⟨rfl, -⟩ | ⟨g, cap', e, hr⟩
  · simp at hp
  · simp only [Value.slice.injEq] at e
    obtain ⟨rfl, _, rfl⟩ := e
    exact ⟨g, rfl, hr.cell hp⟩

set_option maxRecDepth 100000 in
set_option maxHeartbeats 2000000 in
theorem sameSet_at {L : List (Nat × Bool)} {v1 v2 : Value} (w : World) (h1 : SetAt w v1 L) (h2 : SetAt w v2 L) (hl : L.length ≤ 1000) :
    Calls Tryz.prog 16 #[v1, v2] w fun e w' => e = .returned (.bool true) ∧ Below w.heap.size w w' := by
  obtain ⟨a1, c1, rfl⟩ := SetAt.shape h1
  obtain ⟨a2, c2, rfl⟩ := SetAt.shape h2
  have H1 := Lib.hid h1
  have H2 := Lib.hid h2
  clear h1 h2
  go_enter Tryz.func16, Tryz.ntmps16
  go_wp2_with fail
  go_loopw [5] (fun i wr => ∃ k : Nat, k ≤ L.length ∧ i = .int .i64 k ∧ Below w.heap.size w wr) (fun i _ => L.length - (intOf i).toNat)
  case atStart => exact ⟨0, Nat.zero_le _, rfl, Below.refl _ _⟩
  case round =>
    obtain ⟨k, hk, rfl, hbel⟩ := hrel
    by_cases hlt : k < L.length
    · have j1 : (k : Int) < (L.length : Int) := by omega
      obtain ⟨⟨s, b⟩, hp⟩ : ∃ p, L[k]? = some p := ⟨_, List.getElem?_eq_getElem hlt⟩
      obtain ⟨g1, rfl, x0, x1⟩ := SetAt.pos (H1.out.keep hbel) hp
      obtain ⟨g2, rfl, y0, y1⟩ := SetAt.pos (H2.out.keep hbel) hp
      clear hp
      go_wp2_with fail
      have G0 := grow_cell x0
      have G1 := grow_cell x1
      have G2 := grow_cell y0
      have G3 := grow_cell y1
      have hq := run_st_neq
      refine wp_region_grow (by kernel_rfl) (by kernel_rfl) ?_
      repeat (go_big_quiet_step (fail))
      refine wpQuiet_nil ?_
      rintro w4 ⟨z, hz⟩
      have hb : Below wr.heap.size wr w4 := by rw [hz]; exact z.b
      clear hz z G0 G1 G2 G3 x0 x1 y0 y1 hq
      have bel4 := keep_below hbel hb
      clear hb
      go_wp2
      exact ⟨⟨k + 1, by omega, by simp, bel4⟩, by simp [intOf]; omega⟩
    · obtain rfl : k = L.length := by omega
      go_wp2
      go_ret
      exact ⟨rfl, hbel⟩


theorem setsV_len (p : Bool) (G : List G5) (L : List (Int × Int)) : (setsV p G L).length ≤ 1000 := by
  unfold setsV
  split
  · rename_i h
    have h1 := (vOut_n h.2.1).2.1
    have h2 := List.length_filter_le (fun q : Nat × Bool => fitP G L L.length q.1 q.2) (allS L.length)
    rw [allS_len] at h2
    omega
  · simp

def fewB (G : List G5) (M : List M3) (n : Nat) : Bool := decide (G.length ≤ 60) && (decide (M.length ≤ 100) && decide (n ≤ 60))

set_option maxHeartbeats 2000000 in
theorem few3_any (id c r m s : Int) (vg vm : Value) (G : List G5) (M : List M3) (la : Option Addr) (n lcap : Nat) (w : World) (hG : SlG w vg G) (hM : SlM w vm M) :
    Calls Tryz.prog 11 #[pcs id c r m s vg vm, .slice la n lcap] w fun e w' => e = .returned (.bool (fewB G M n)) ∧ Below w.heap.size w w' := by
  obtain ⟨ga, gcap, rfl, hgl, -⟩ := hG
  obtain ⟨ma, mcap, rfl, hml, -⟩ := hM
  have b0 : Below w.heap.size w (w.alloc (pcsObj id c r m s (.slice ga G.length gcap) (.slice ma M.length mcap))) := (Below.refl _ _).alloc (Nat.le_refl _) _
  unfold fewB
  generalize G.length = k at *
  generalize M.length = l at *
  have e1 : decide (k ≤ 60) = decide ((k : Int) ≤ 60) := by rw [decide_eq_decide]; omega
  have e2 : decide (l ≤ 100) = decide ((l : Int) ≤ 100) := by rw [decide_eq_decide]; omega
  have e3 : decide (n ≤ 60) = decide ((n : Int) ≤ 60) := by rw [decide_eq_decide]; omega
  rw [e1, e2, e3]
  cases h1 : decide ((k : Int) ≤ 60) <;> cases h2 : decide ((l : Int) ≤ 100) <;> cases h3 : decide ((n : Int) ≤ 60)
  all_goals
    clear e1 e2 e3
    go_enter Tryz.func11, Tryz.ntmps11
    go_wp2
    go_ret
    exact ⟨rfl, b0⟩

set_option maxRecDepth 100000 in
set_option maxHeartbeats 8000000 in
theorem fitsLaw_any (id c r m s sh : Int) (b : Bool) (vg vm pv : Value) (G : List G5) (M : List M3) (L : List (Int × Int)) (w : World) (hG : SlG w vg G) (hM : SlM w vm M) (hL : SlV w pv L) :
    Calls Tryz.prog 3 #[pcs id c r m s vg vm, pv, st sh b] w fun e w' => e = .returned (.bool true) ∧ Below w.heap.size w w' := by
  have b0 : Below w.heap.size w ((w.alloc (pcsObj id c r m s vg vm)).alloc (stObj sh b)) := ((Below.refl _ _).alloc (Nat.le_refl _) _).alloc (by simp) _
  obtain ⟨hp0, hq0⟩ := pcs_st w id c r m s vg vm sh b
  obtain ⟨la, lcap, hpv, -⟩ := _root_.id hL
  subst hpv
  have HF := Lib.hid (fun W (hb : Below w.heap.size w W) => few3_any id c r m s vg vm G M la L.length lcap W (hG.keep hb) (hM.keep hb))
  have H12 := Lib.hid (fun W (hb : Below w.heap.size w W) => fits12_any id c r m s vg vm (.slice la L.length lcap) G M L sh b W (hG.keep hb) (hM.keep hb) (hL.keep hb))
  have H13 := Lib.hid (fun W (hb : Below w.heap.size w W) => fits13_any id c r m s vg vm (.slice la L.length lcap) G M L sh b W (hG.keep hb) (hM.keep hb) (hL.keep hb))
  have H14 := Lib.hid (fun W (hb : Below w.heap.size w W) => settings14_any id c r m s vg vm (.slice la L.length lcap) G M L W (hG.keep hb) (hM.keep hb) (hL.keep hb))
  have H15 := Lib.hid (fun W (hb : Below w.heap.size w W) => settings15_any id c r m s vg vm (.slice la L.length lcap) G M L W (hG.keep hb) (hM.keep hb) (hL.keep hb))
  have HLn := Lib.hid (setsV_len (vP id c r m s G M) G L)
  clear hG hM hL
  obtain ⟨fw, hfw⟩ : ∃ fw, fewB G M L.length = fw := ⟨_, rfl⟩
  rw [hfw] at HF
  obtain ⟨E1, h1⟩ : ∃ E, fitsE (vP id c r m s G M) G L sh = E := ⟨_, rfl⟩
  obtain ⟨B1, h2⟩ : ∃ E, fitsV (vP id c r m s G M) G L sh b = E := ⟨_, rfl⟩
  obtain ⟨E2, h3⟩ : ∃ E, setsE (vP id c r m s G M) L = E := ⟨_, rfl⟩
  obtain ⟨F, h4⟩ : ∃ E, setsV (vP id c r m s G M) G L = E := ⟨_, rfl⟩
  rw [h1, h2] at H12 H13
  rw [h3, h4] at H14 H15
  rw [h4] at HLn
  clear hfw h1 h2 h3 h4
  go_enter Tryz.func3, Tryz.ntmps3
  go_upto_region 2 with (go_at_call 10; refine (awake_any _).mono ?_; rintro e w1 ⟨rfl, hb⟩)
  have b1 := keep_below b0 hb
  have hp := (hb.block w.heap.size (by simp; omega)).trans hp0
  have hq := (hb.block (w.heap.size + 1) (by simp)).trans hq0
  have q0 := cell_of hp (k := 0) rfl
  have q1 := cell_of hp (k := 1) rfl
  have q2 := cell_of hp (k := 2) rfl
  have q3 := cell_of hp (k := 3) rfl
  have q4 := cell_of hp (k := 4) rfl
  have q5 := cell_of hp (k := 5) rfl
  have q6 := cell_of hp (k := 6) rfl
  have s0 := cell_of hq (k := 0) rfl
  have s1 := cell_of hq (k := 1) rfl
  clear hp hq hp0 hq0 b0 hb
  cases fw
  · go_wp2_with (go_at_call 11; with_reducible refine (HF.out _ b1).mono ?_; rintro e w2 ⟨rfl, hb⟩)
    go_ret
    exact ⟨rfl, keep_below b1 hb⟩
  · go_wp2_with (first
    | (go_at_call 11; with_reducible refine (HF.out _ b1).mono ?_; rintro e w2 ⟨rfl, hb⟩
       have b1 := keep_below b1 hb
       have q0 := keep_cell hb q0
       have q1 := keep_cell hb q1
       have q2 := keep_cell hb q2
       have q3 := keep_cell hb q3
       have q4 := keep_cell hb q4
       have q5 := keep_cell hb q5
       have q6 := keep_cell hb q6
       have s0 := keep_cell hb s0
       have s1 := keep_cell hb s1
       clear hb)
    | (go_at_call 12; with_reducible refine (H12.out _ b1).mono ?_; rintro e w2 ⟨rfl, hb⟩
       have b1 := keep_below b1 hb
       have q0 := keep_cell hb q0
       have q1 := keep_cell hb q1
       have q2 := keep_cell hb q2
       have q3 := keep_cell hb q3
       have q4 := keep_cell hb q4
       have q5 := keep_cell hb q5
       have q6 := keep_cell hb q6
       have s0 := keep_cell hb s0
       have s1 := keep_cell hb s1
       clear hb)
    | (go_at_call 13; with_reducible refine (H13.out _ b1).mono ?_; rintro e w2 ⟨rfl, hb⟩
       have b1 := keep_below b1 hb
       have q0 := keep_cell hb q0
       have q1 := keep_cell hb q1
       have q2 := keep_cell hb q2
       have q3 := keep_cell hb q3
       have q4 := keep_cell hb q4
       have q5 := keep_cell hb q5
       have q6 := keep_cell hb q6
       have s0 := keep_cell hb s0
       have s1 := keep_cell hb s1
       clear hb)
    | (go_at_call 14; with_reducible refine (H14.out _ b1).mono ?_; rintro e w2 ⟨v1, rfl, A1, hb⟩
       have b1 := keep_below b1 hb
       have q0 := keep_cell hb q0
       have q1 := keep_cell hb q1
       have q2 := keep_cell hb q2
       have q3 := keep_cell hb q3
       have q4 := keep_cell hb q4
       have q5 := keep_cell hb q5
       have q6 := keep_cell hb q6
       have s0 := keep_cell hb s0
       have s1 := keep_cell hb s1
       clear hb)
    | (go_at_call 15; with_reducible refine (H15.out _ b1).mono ?_; rintro e w2 ⟨v2, rfl, A2, hb⟩
       have b1 := keep_below b1 hb
       have A1 := A1.keep hb
       clear hb)
    | (go_at_call 16; with_reducible refine (sameSet_at _ A1 A2 HLn.out).mono ?_; rintro e w2 ⟨rfl, hb⟩
       have b1 := keep_below b1 hb))
    go_ret
    exact ⟨by simp, b1⟩

end Go.Proofs.YtcfapbccegijnaaGreat
