/- Walks: law 6 (GlassFilms). -/
import Derived.Test.YtcninhhbaddglaaB8
import Derived.Test.YtcninhhbaddglaaB3
import Derived.Test.YtcninhhbaddglaaB6
import Derived.Test.YtcninhhbaddglaaAwake
namespace Go.Proofs.Ytcninhhbaddglaa
open Go Go.RowKit Go.Proofs

def colsV (id : Int) (L : List Int) (lo hi : Int) : List Int := if vFilm id L = true then colsI L lo hi else []
def colsE (id : Int) (L : List Int) : Int := if vFilm id L = true then 0 else 32

theorem SlI.nil (w : World) : SlI w (.slice none 0 0) [] := ⟨none, 0, rfl, by simp, fun k hk => absurd hk (Nat.not_lt_zero _)⟩

theorem coloursV_any (id : Int) (v : Value) (L : List Int) (lo hi : Int) (w : World) (h : SlI w v L) :
    Calls Try.prog 30 #[film id v, spn lo hi] w fun e w' => ∃ v', e = .returned (.tuple #[v', .int .i64 (colsE id L)]) ∧ SlI w' v' (colsV id L lo hi) ∧ Below w.heap.size w w' := by
  unfold colsV colsE
  obtain ⟨q, hq⟩ : ∃ q, vFilm id L = q := ⟨_, rfl⟩
  rw [hq]
  cases q
  · refine (colours_bad id v L lo hi w h hq).mono ?_
    rintro e w' ⟨rfl, hb⟩
    exact ⟨_, rfl, SlI.nil _, hb⟩
  · refine (colours_any id v L lo hi w h hq).mono ?_
    rintro e w' ⟨v', rfl, hown, hb⟩
    refine ⟨_, rfl, ?_, hb⟩
    rw [cols_eq, List.length_map] at hown
    exact SlI.own hown (Nat.le_trans (colsI_len L lo hi) (by omega))

theorem refColoursV_any (id : Int) (v : Value) (L : List Int) (lo hi : Int) (w : World) (h : SlI w v L) :
    Calls Try.prog 31 #[film id v, spn lo hi] w fun e w' => ∃ v', e = .returned (.tuple #[v', .int .i64 (colsE id L)]) ∧ SlI w' v' (colsV id L lo hi) ∧ Below w.heap.size w w' := by
  unfold colsV colsE
  obtain ⟨q, hq⟩ : ∃ q, vFilm id L = q := ⟨_, rfl⟩
  rw [hq]
  cases q
  · refine (refColours_bad id v L lo hi w h hq).mono ?_
    rintro e w' ⟨rfl, hb⟩
    exact ⟨_, rfl, SlI.nil _, hb⟩
  · refine (refColours_any id v L lo hi w h hq).mono ?_
    rintro e w' ⟨v', rfl, hown, hb⟩
    refine ⟨_, rfl, ?_, hb⟩
    rw [cols_eq, List.length_map] at hown
    exact SlI.own hown (Nat.le_trans (colsI_len L lo hi) (by omega))

set_option maxRecDepth 100000 in
set_option maxHeartbeats 4000000 in
theorem filmsLaw_any (id colour swell : Int) (v u f : Value) (L cs F : List Int) (lo hi : Int) (w : World) (h : SlI w v L) (hc : SlI w u cs) (hf : SlI w f F) :
    Calls Try.prog 6 #[film id v, .int .i64 colour, spn lo hi, u, .int .i64 swell, f] w fun e w' => e = .returned (.bool true) ∧ Below w.heap.size w w' := by
  have b0 : Below w.heap.size w ((w.alloc (filmObj id v)).alloc (spnObj lo hi)) := ((Below.refl _ _).alloc (Nat.le_refl _) _).alloc (by simp) _
  have f0 := film_new w id v
  have s0 := Sp.new (w.alloc (filmObj id v)) lo hi
  rw [World.size_alloc] at s0
  have f1 := pt_old (w.alloc (filmObj id v)) (spnObj lo hi) f0.1
  have f2 := pt_old (w.alloc (filmObj id v)) (spnObj lo hi) f0.2
  go_enter Try.func6, Try.ntmps6
  go_upto_region 2 with (go_at_call 9; refine (awake_any _).mono ?_; rintro e w1 ⟨rfl, hb⟩)
  have g1 := keep_cell hb f1
  have g2 := keep_cell hb f2
  have r := s0.keep hb
  have b1 := keep_below b0 hb
  clear f0 f1 f2 s0 hb b0
  have h' := h
  have hc' := hc
  have hf' := hf
  obtain ⟨va, vcap, rfl, hvl, -⟩ := h'
  obtain ⟨ua, ucap, rfl, hul, -⟩ := hc'
  obtain ⟨fa, fcap, rfl, hfl, -⟩ := hf'
  have HC := Lib.hid hc
  have HL := Lib.hid h
  have HF := Lib.hid hf
  clear h hc hf
  by_cases k1 : 100 < L.length
  · have j1 : (100 : Int) < (L.length : Int) := by omega
    go_wp2
    go_ret
    exact ⟨rfl, b1⟩
  · have j1 : ¬ (100 : Int) < (L.length : Int) := by omega
    by_cases k2 : 100 < cs.length
    · have j2 : (100 : Int) < (cs.length : Int) := by omega
      go_wp2
      go_ret
      exact ⟨rfl, b1⟩
    · have j2 : ¬ (100 : Int) < (cs.length : Int) := by omega
      by_cases k3 : 500 < F.length
      · have j3 : (500 : Int) < (F.length : Int) := by omega
        go_wp2
        go_ret
        exact ⟨rfl, b1⟩
      · have j3 : ¬ (500 : Int) < (F.length : Int) := by omega
        clear k1 k2 k3
        have r0 := r.c0
        have r1 := r.c1
        obtain ⟨gv, hgv⟩ : ∃ g, greyV id L colour = g := ⟨_, rfl⟩
        have C1 := grey_any id colour (.slice va L.length vcap) L w1 (HL.out.keep b1)
        rw [hgv] at C1
        go_upto_region 5 with (go_at_call 28; with_reducible refine C1.mono ?_; rintro e w2 ⟨rfl, hb⟩)
        have b2 := keep_below b1 hb
        have g1' := keep_cell hb g1
        have g2' := keep_cell hb g2
        have r' := r.keep hb
        clear C1 hb g1 g2 r r0 r1 b1 j1 j2 j3 w1
        have C2 := refGrey_any id colour (.slice va L.length vcap) L w2 (HL.out.keep b2)
        rw [hgv] at C2
        clear hgv
        go_upto_region 6 with (go_at_call 29; with_reducible refine C2.mono ?_; rintro e w3 ⟨rfl, hb⟩)
        have b3 := keep_below b2 hb
        have g1 := keep_cell hb g1'
        have g2 := keep_cell hb g2'
        have r := r'.keep hb
        clear C2 hb g1' g2' r' b2 w2
        have r0 := r.c0
        have r1 := r.c1
        obtain ⟨cv, hcv⟩ : ∃ g, colsV id L lo hi = g := ⟨_, rfl⟩
        obtain ⟨ce, hce⟩ : ∃ g, colsE id L = g := ⟨_, rfl⟩
        have C3 := coloursV_any id (.slice va L.length vcap) L lo hi w3 (HL.out.keep b3)
        rw [hcv, hce] at C3
        go_upto_region 7 with (go_at_call 30; with_reducible refine C3.mono ?_; rintro e w4 ⟨v1, rfl, hv1, hb⟩)
        have b4 := keep_below b3 hb
        have g1' := keep_cell hb g1
        have g2' := keep_cell hb g2
        have r' := r.keep hb
        clear C3 hb g1 g2 r r0 r1 b3 w3
        have r0 := r'.c0
        have r1 := r'.c1
        have C4 := refColoursV_any id (.slice va L.length vcap) L lo hi w4 (HL.out.keep b4)
        rw [hcv, hce] at C4
        clear hcv hce
        go_upto_region 8 with (go_at_call 31; with_reducible refine C4.mono ?_; rintro e w5 ⟨v2, rfl, hv2, hb⟩)
        have b5 := keep_below b4 hb
        have g1 := keep_cell hb g1'
        have g2 := keep_cell hb g2'
        have hv1' := hv1.keep hb
        clear C4 hb g1' g2' r' r0 r1 b4 hv1 w4
        have C5 := greysX_any id (.slice va L.length vcap) (.slice ua cs.length ucap) L cs w5 (HL.out.keep b5) (HC.out.keep b5)
        go_upto_region 9 with (go_at_call 32; with_reducible refine C5.mono ?_; rintro e w6 ⟨xl, xh, xe, rfl, hx, hb⟩)
        have b6 := keep_below b5 hb
        have g1' := pt_old w6 (Obj.cells #[.int .i64 xl, .int .i64 xh] 42) (keep_cell hb g1)
        have g2' := pt_old w6 (Obj.cells #[.int .i64 xl, .int .i64 xh] 42) (keep_cell hb g2)
        have p1 := (hv1'.keep hb).keep ((Below.refl w6.heap.size w6).alloc (Nat.le_refl _) (Obj.cells #[.int .i64 xl, .int .i64 xh] 42))
        have p2 := (hv2.keep hb).keep ((Below.refl w6.heap.size w6).alloc (Nat.le_refl _) (Obj.cells #[.int .i64 xl, .int .i64 xh] 42))
        have sX := Sp.new w6 xl xh
        have b7 := b6.alloc b6.size (Obj.cells #[.int .i64 xl, .int .i64 xh] 42)
        obtain ⟨w7, hw7⟩ : ∃ w7, w6.alloc (Obj.cells #[Value.int .i64 xl, .int .i64 xh] 42) = w7 := ⟨_, rfl⟩
        obtain ⟨B, hB⟩ : ∃ B, w6.heap.size = B := ⟨_, rfl⟩
        rw [hw7] at g1' g2' p1 p2 sX b7 ⊢
        rw [hB] at sX ⊢
        clear C5 hw7 hB hb g1 g2 hv1' hv2 b6 b5 w6 w5
        have C6 := refGreys_any id (.slice va L.length vcap) (.slice ua cs.length ucap) L cs w7 (HL.out.keep b7) (HC.out.keep b7)
        go_upto_region 10 with (go_at_call 33; with_reducible refine C6.mono ?_; rintro e w8 ⟨yl, yh, ye, rfl, hy, hb⟩)
        obtain ⟨rfl, rfl, rfl⟩ := hx.one hy
        have b8 := keep_below b7 hb
        have p1' := (p1.keep hb).keep ((Below.refl w8.heap.size w8).alloc (Nat.le_refl _) (Obj.cells #[.int .i64 xl, .int .i64 xh] 42))
        have p2' := (p2.keep hb).keep ((Below.refl w8.heap.size w8).alloc (Nat.le_refl _) (Obj.cells #[.int .i64 xl, .int .i64 xh] 42))
        have sX' := (sX.keep hb).alloc (Obj.cells #[.int .i64 xl, .int .i64 xh] 42)
        have sY := Sp.new w8 xl xh
        have b9 := b8.alloc b8.size (Obj.cells #[.int .i64 xl, .int .i64 xh] 42)
        obtain ⟨w9, hw9⟩ : ∃ w9, w8.alloc (Obj.cells #[Value.int .i64 xl, .int .i64 xh] 42) = w9 := ⟨_, rfl⟩
        obtain ⟨D, hD⟩ : ∃ D, w8.heap.size = D := ⟨_, rfl⟩
        rw [hw9] at p1' p2' sX' sY b9 ⊢
        rw [hD] at sY ⊢
        clear C6 hw9 hD hb g1' g2' p1 p2 sX b8 b7 hx hy w8 w7
        obtain ⟨hb1, hb2⟩ : ∃ x, heldB swell F = x := ⟨_, rfl⟩
        obtain ⟨he1, he2⟩ : ∃ x, heldE swell F = x := ⟨_, rfl⟩
        have C7 := held_any swell (.slice fa F.length fcap) F w9 (HF.out.keep b9)
        rw [hb2, he2] at C7
        go_upto_region 11 with (go_at_call 34; with_reducible refine C7.mono ?_; rintro e w10 ⟨rfl, hb⟩)
        have b10 := keep_below b9 hb
        have q1 := p1'.keep hb
        have q2 := p2'.keep hb
        have tX := sX'.keep hb
        have tY := sY.keep hb
        clear C7 hb p1' p2' sX' sY b9 w9
        have C8 := refHeld_any swell (.slice fa F.length fcap) F w10 (HF.out.keep b10)
        rw [hb2, he2] at C8
        clear hb2 he2
        go_upto_region 12 with (go_at_call 35; with_reducible refine C8.mono ?_; rintro e w11 ⟨rfl, rfl⟩)
        have C9 := sameInts_any v1 v2 cv w11 q1 q2
        clear C8 q1 q2 HC HL HF
        go_wp2_with (go_at_call 27; with_reducible refine C9.mono ?_; rintro e w12 ⟨rfl, hb⟩
                     have uX := tX.keep hb
                     have uY := tY.keep hb
                     have x0 := uX.c0
                     have x1 := uX.c1
                     have y0 := uY.c0
                     have y1 := uY.c1
                     have b12 := keep_below b10 hb)
        go_ret
        exact ⟨rfl, b12⟩

end Go.Proofs.Ytcninhhbaddglaa
