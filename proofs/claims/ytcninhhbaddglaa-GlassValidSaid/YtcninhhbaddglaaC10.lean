/- Walks: law 3 (GlassValid). -/
import Derived.Test.YtcninhhbaddglaaC9
import Derived.Test.YtcninhhbaddglaaAwake
import Derived.Test.YtcninhhbaddglaaB2
import Derived.Deep.Cut
namespace Go.Proofs.Ytcninhhbaddglaa
open Go Go.RowKit Go.Proofs

set_option maxRecDepth 100000 in
set_option maxHeartbeats 4000000 in
theorem validLaw_any (id c r m s fid : Int) (vg vm vf : Value) (G : List G5) (M : List M3) (L : List Int) (w : World) (hG : SlG w vg G) (hM : SlM w vm M) (hL : SlI w vf L) :
    Calls Try.prog 3 #[pcs id c r m s vg vm, film fid vf] w fun e w' => e = .returned (.bool true) ∧ Below w.heap.size w w' := by
  have b0 : Below w.heap.size w ((w.alloc (pcsObj id c r m s vg vm)).alloc (filmObj fid vf)) := ((Below.refl _ _).alloc (Nat.le_refl _) _).alloc (by simp) _
  have hp0 := (alloc_heap_old (w.alloc (pcsObj id c r m s vg vm)) (filmObj fid vf) (k := w.heap.size) (by simp)).trans (pcs_new w id c r m s vg vm)
  have f0 := film_new (w.alloc (pcsObj id c r m s vg vm)) fid vf
  rw [World.size_alloc] at f0
  go_enter Try.func3, Try.ntmps3
  go_upto_region 2 with (go_at_call 9; refine (awake_any _).mono ?_; rintro e w1 ⟨rfl, hb⟩)
  have hp := (hb.block w.heap.size (by simp; omega)).trans hp0
  have g1 := keep_cell hb f0.1
  have g2 := keep_cell hb f0.2
  have b1 := keep_below b0 hb
  have q0 := cell_of hp (k := 0) rfl
  have q1 := cell_of hp (k := 1) rfl
  have q2 := cell_of hp (k := 2) rfl
  have q3 := cell_of hp (k := 3) rfl
  have q4 := cell_of hp (k := 4) rfl
  have q5 := cell_of hp (k := 5) rfl
  have q6 := cell_of hp (k := 6) rfl
  clear hp hp0 f0 b0 hb
  have HG := Lib.hid hG
  have HM := Lib.hid hM
  have HL := Lib.hid hL
  obtain ⟨fa, fcap, rfl, hfl, -⟩ := hL
  have CF := few_any id c r m s vg vm G M w1 (hG.keep b1) (hM.keep b1)
  obtain ⟨fw, hfw⟩ : ∃ fw, (decide (G.length ≤ 60) && decide (M.length ≤ 100)) = fw := ⟨_, rfl⟩
  rw [hfw] at CF
  clear hfw hG hM
  cases fw
  · go_wp2_with (go_at_call 10; with_reducible refine CF.mono ?_; rintro e w2 ⟨rfl, hb⟩)
    go_ret
    exact ⟨rfl, keep_below b1 hb⟩
  · by_cases k1 : 100 < L.length
    · have j1 : (100 : Int) < (L.length : Int) := by omega
      go_wp2_with (go_at_call 10; with_reducible refine CF.mono ?_; rintro e w2 ⟨rfl, hb⟩
                   have g2' := keep_cell hb g2)
      go_ret
      exact ⟨rfl, keep_below b1 hb⟩
    · have j1 : ¬ (100 : Int) < (L.length : Int) := by omega
      clear k1
      go_upto_region 4 with (go_at_call 10; with_reducible refine CF.mono ?_; rintro e w2 ⟨rfl, hb⟩
                             have g2' := keep_cell hb g2)
      have b2 := keep_below b1 hb
      have g1' := keep_cell hb g1
      replace q0 := keep_cell hb q0
      replace q1 := keep_cell hb q1
      replace q2 := keep_cell hb q2
      replace q3 := keep_cell hb q3
      replace q4 := keep_cell hb q4
      replace q5 := keep_cell hb q5
      replace q6 := keep_cell hb q6
      have C1 : ∀ x : Grow w2, Calls Try.prog 11 #[pcs id c r m s vg vm] x.w fun e w' => e = .returned (.bool (vP id c r m s G M)) ∧ Below x.w.heap.size x.w w' := fun x => validPiece_any id c r m s vg vm G M x.w (HG.out.keep (keep_below b2 x.b)) (HM.out.keep (keep_below b2 x.b))
      have C2 : ∀ x : Grow w2, Calls Try.prog 12 #[pcs id c r m s vg vm] x.w fun e w' => e = .returned (.bool (vP id c r m s G M)) ∧ Below x.w.heap.size x.w w' := fun x => refValidPiece_any id c r m s vg vm G M x.w (HG.out.keep (keep_below b2 x.b)) (HM.out.keep (keep_below b2 x.b))
      have C3 : ∀ x : Grow w2, Calls Try.prog 13 #[film fid (.slice fa L.length fcap)] x.w fun e w' => e = .returned (.bool (vFilm fid L)) ∧ Below x.w.heap.size x.w w' := fun x => validFilm_any fid _ L x.w (HL.out.keep (keep_below b2 x.b))
      have C4 : ∀ x : Grow w2, Calls Try.prog 14 #[film fid (.slice fa L.length fcap)] x.w fun e w' => e = .returned (.bool (vFilm fid L)) ∧ Below x.w.heap.size x.w w' := fun x => refValidFilm_any fid _ L x.w (HL.out.keep (keep_below b2 x.b))
      generalize vP id c r m s G M = p at C1 C2
      generalize vFilm fid L = q at C3 C4
      have Q0 := grow_cell q0
      have Q1 := grow_cell q1
      have Q2 := grow_cell q2
      have Q3 := grow_cell q3
      have Q4 := grow_cell q4
      have Q5 := grow_cell q5
      have Q6 := grow_cell q6
      have P1 := grow_cell g1'
      have P2 := grow_cell g2'
      clear CF HG HM HL g1 g2 g1' g2' q0 q1 q2 q3 q4 q5 q6 b1 hb w1
      refine wp_region_grow (by kernel_rfl) (by kernel_rfl) ?_
      repeat (go_big_quiet_step ((first
        | (go_at_call 11; with_reducible exact calls_grow (C1 _))
        | (go_at_call 12; with_reducible exact calls_grow (C2 _))
        | (go_at_call 13; with_reducible exact calls_grow (C3 _))
        | (go_at_call 14; with_reducible exact calls_grow (C4 _)))))
      refine wpQuiet_nil ?_
      rintro w3 ⟨g, hg⟩
      have hb3 : Below w2.heap.size w2 w3 := by rw [hg]; exact g.b
      clear hg g Q0 Q1 Q2 Q3 Q4 Q5 Q6 P1 P2 C1 C2 C3 C4
      have b3 := keep_below b2 hb3
      go_wp2
      go_ret
      exact ⟨by simp, b3⟩

end Go.Proofs.Ytcninhhbaddglaa
