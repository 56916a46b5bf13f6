/- Walks: law 8 (GlassAdjoint). -/
import Derived.Test.YtcninhhbaddglaaA8
namespace Go.Proofs.Ytcninhhbaddglaa
open Go Go.RowKit Go.Proofs

set_option maxRecDepth 100000 in
set_option maxHeartbeats 4000000 in
theorem adjointLaw_any (id : Int) (v u : Value) (L cs : List Int) (lo hi : Int) (w : World) (h : SlI w v L) (hc : SlI w u cs) :
    Calls Try.prog 8 #[film id v, u, spn lo hi] w fun e w' => e = .returned (.bool true) ∧ Below w.heap.size w w' := by
  have b0 : Below w.heap.size w ((w.alloc (filmObj id v)).alloc (spnObj lo hi)) := ((Below.refl _ _).alloc (Nat.le_refl _) _).alloc (by simp) _
  have z0 : ((w.alloc (filmObj id v)).alloc (spnObj lo hi)).heap.size = w.heap.size + 2 := by simp
  have f0 := film_new w id v
  have s0 := Sp.new (w.alloc (filmObj id v)) lo hi
  rw [World.size_alloc] at s0
  have f1 := pt_old (w.alloc (filmObj id v)) (spnObj lo hi) f0.1
  have f2 := pt_old (w.alloc (filmObj id v)) (spnObj lo hi) f0.2
  go_enter Try.func8, Try.ntmps8
  go_upto_region 2 with (go_at_call 9; refine (awake_any _).mono ?_; rintro e w1 ⟨rfl, hb⟩)
  have g1 := keep_cell hb f1
  have g2 := keep_cell hb f2
  have r := s0.keep hb
  have b1 := keep_below b0 hb
  have z1 : w.heap.size + 2 ≤ w1.heap.size := by have := hb.size; simp at this; omega
  clear f0 f1 f2 s0 z0 hb b0
  have h' := h
  have hc' := hc
  obtain ⟨va, vcap, rfl, hvl, -⟩ := h'
  obtain ⟨ua, ucap, rfl, hul, -⟩ := hc'
  have HC := Lib.hid hc
  have HL := Lib.hid h
  by_cases k1 : 100 < L.length
  · have j1 : (100 : Int) < (L.length : Int) := by omega
    go_wp2
    go_ret
    exact ⟨rfl, b1⟩
  · have j1 : ¬ (100 : Int) < (L.length : Int) := by omega
    by_cases k2 : 100 < cs.length
    · have j2 : (100 : Int) < (cs.length : Int) := by omega
      go_wp2
      go_ret
      exact ⟨rfl, b1⟩
    · have j2 : ¬ (100 : Int) < (cs.length : Int) := by omega
      have r0 := r.c0
      have r1 := r.c1
      obtain ⟨q, hq⟩ : ∃ q, vFilm id L = q := ⟨_, rfl⟩
      cases q
      · have C1 := colours_bad id (.slice va L.length vcap) L lo hi w1 (h.keep b1) hq
        go_wp2_with (first
          | (go_at_call 30; with_reducible refine C1.mono ?_; rintro e w2 ⟨rfl, hb⟩
             have b2 := keep_below b1 hb
             have g1' := keep_cell hb g1
             have g2' := keep_cell hb g2
             have C2 := greys_any id (.slice va L.length vcap) (.slice ua cs.length ucap) L cs w2 (HL.out.keep b2) (HC.out.keep b2))
          | (go_at_call 32; with_reducible refine C2.mono ?_; rintro e w3 ⟨lo3, hi3, E, rfl, -, hb'⟩
             have b3 := keep_below b2 hb'))
        go_ret
        exact ⟨rfl, b3.alloc b3.size _⟩
      · have C1 := colours_any id (.slice va L.length vcap) L lo hi w1 (h.keep b1) hq
        go_wp2_with (first
          | (go_at_call 30; with_reducible refine C1.mono ?_; rintro e w2 ⟨lv, rfl, hown, hb⟩
             have b2 := keep_below b1 hb
             have g1' := keep_cell hb g1
             have g2' := keep_cell hb g2
             have r' := r.keep hb
             have z2 := Nat.le_trans z1 hb.size
             have C2 := greys_any id (.slice va L.length vcap) (.slice ua cs.length ucap) L cs w2 (HL.out.keep b2) (HC.out.keep b2)
             clear C1 hb)
          | (go_at_call 32; with_reducible refine C2.mono ?_; rintro e w3 ⟨slo, shi, E, rfl, hE, hb⟩
             have b3 := keep_below b2 hb))
        · go_ret
          exact ⟨rfl, b3.alloc b3.size _⟩
        · have hE0 : (E != 0) = false := by assumption
          obtain ⟨-, hok⟩ := hE (by simpa using hE0)
          have sl2 : SlI w2 lv (colsI L lo hi) := by
            rw [cols_eq, List.length_map] at hown
            exact SlI.own hown (Nat.le_trans (colsI_len L lo hi) (by omega))
          have sl3 := sl2.keep hb
          have r3 := r'.keep hb
          have sS := Sp.new w3 slo shi
          have rB := r3.alloc (Obj.cells #[.int .i64 slo, .int .i64 shi] 42)
          have b4 := b3.alloc b3.size (Obj.cells #[.int .i64 slo, .int .i64 shi] 42)
          have sl4 := sl3.keep ((Below.refl w3.heap.size w3).alloc (Nat.le_refl _) (Obj.cells #[.int .i64 slo, .int .i64 shi] 42))
          obtain ⟨w4, hw4⟩ : ∃ w4, w3.alloc (Obj.cells #[Value.int .i64 slo, .int .i64 shi] 42) = w4 := ⟨_, rfl⟩
          obtain ⟨B, hB⟩ : ∃ B, w3.heap.size = B := ⟨_, rfl⟩
          rw [hw4] at sS rB b4 sl4 ⊢
          rw [hB] at sS ⊢
          have hc4 := HC.out.keep b4
          have AD := adjoint (L := L) (cs := cs) (lo := lo) (hi := hi) (slo := slo) (shi := shi)
          obtain ⟨LL, hLL⟩ : ∃ LL, colsI L lo hi = LL := ⟨_, rfl⟩
          rw [hLL] at sl4 AD
          have ADH := Lib.hid AD
          have HOK := Lib.hid hok
          clear AD hok hLL sl2 sl3 r3 hw4 hB hb hown b3 b2 b1 r r' r0 r1 z1 z2 g1 g2 g1' g2' C2 hE HL HC j1 j2 k1 k2 hq h hc w3 w2 w1
          obtain ⟨la, lcap, rfl, hll, hlc⟩ := sl4
          obtain ⟨ca, ccap, e, hcl, hcc⟩ := hc4
          cases e
          have HLC := Lib.hid hlc
          have HCC := Lib.hid hcc
          clear hlc hcc
          go_loopw [12, 13] (fun al i wr => ∃ k : Nat, k ≤ cs.length ∧ i = .int .i64 k ∧ al = .bool (allf LL cs k) ∧ ∃ q, wr = w4.drewN q) (fun _ i _ => cs.length - (intOf i).toNat)
          case atStart => exact ⟨0, Nat.zero_le _, rfl, rfl, 0, rfl⟩
          case round =>
            obtain ⟨k, hk, rfl, rfl, q, rfl⟩ := hrel
            by_cases hlt : k < cs.length
            · have j1 : (k : Int) < (cs.length : Int) := by omega
              obtain ⟨cb, coff, rfl, c0⟩ := HCC.out k hlt
              have HAS := Lib.hid (allf_succ LL cs k)
              obtain ⟨al, hal⟩ : ∃ al, allf LL cs k = al := ⟨_, rfl⟩
              rw [hal] at HAS ⊢
              obtain ⟨x, hx⟩ : ∃ x, iz cs k = x := ⟨_, rfl⟩
              rw [hx] at c0 HAS
              clear hal hx
              go_wp2_with fail
              go_loopw [14, 15] (fun fd i wi => ∃ m : Nat, m ≤ LL.length ∧ i = .int .i64 m ∧ fd = .bool (fnd LL x m) ∧ ∃ q, wi = w4.drewN q) (fun _ i _ => LL.length - (intOf i).toNat)
              case atStart => exact ⟨0, Nat.zero_le _, rfl, rfl, q, rfl⟩
              case round =>
                clear q
                obtain ⟨m, hm, rfl, rfl, q, rfl⟩ := hrel
                by_cases hlm : m < LL.length
                · have j2 : (m : Int) < (LL.length : Int) := by omega
                  obtain ⟨lb, loff, rfl, l0⟩ := HLC.out m hlm
                  have HFS := Lib.hid (fnd_succ LL x m)
                  obtain ⟨fd, hfd⟩ : ∃ fd, fnd LL x m = fd := ⟨_, rfl⟩
                  obtain ⟨y, hy⟩ : ∃ y, iz LL m = y := ⟨_, rfl⟩
                  rw [hfd, hy] at HFS
                  rw [hfd]
                  rw [hy] at l0
                  clear hfd hy
                  cases fd
                  · go_wp2_with fail
                    go_quiet (fail)
                    clear l0 c0
                    go_wp2
                    exact ⟨⟨m + 1, by omega, by simp, by rw [HFS.out]; simp, q + nq, by simp⟩, by simp [intOf]; omega⟩
                  · go_wp2_with fail
                    go_quiet (fail)
                    clear l0 c0
                    go_wp2
                    exact ⟨⟨m + 1, by omega, by simp, by rw [HFS.out]; simp, q + nq, by simp⟩, by simp [intOf]; omega⟩
                · obtain rfl : m = LL.length := by omega
                  obtain ⟨fd, hfd⟩ : ∃ fd, fnd LL x LL.length = fd := ⟨_, rfl⟩
                  rw [hfd] at HAS ⊢
                  clear hfd
                  cases al <;> cases fd
                  all_goals (go_wp2; exact ⟨⟨k + 1, by omega, by simp, by rw [HAS.out]; rfl, _, rfl⟩, by simp [intOf]; omega⟩)
            · obtain rfl : k = cs.length := by omega
              obtain ⟨al, hal⟩ : ∃ al, allf LL cs cs.length = al := ⟨_, rfl⟩
              rw [hal] at ADH ⊢
              have HAL := Lib.hid hal
              clear hal
              have s0 := sS.c0
              have s1 := sS.c1
              have r0 := rB.c0
              have r1 := rB.c1
              have bq := b4.trans (belowN w4 q |>.mono b4.size)
              rcases HOK.out with ⟨hn0, rfl, rfl⟩ | ⟨hpos, hG, hci⟩
              · have j0 : ((cs.length : Int) == 0) = true := by simp [hn0]
                obtain rfl : al = true := by rw [← HAL.out, hn0]; rfl
                clear hn0
                go_wp2
                go_ret
                exact ⟨rfl, bq⟩
              · have j0 : ((cs.length : Int) == 0) = false := by rw [beq_eq_false_iff_ne]; omega
                obtain ⟨hA, hB⟩ := ADH.out hG hci
                clear hG hci hpos
                have jA : ¬ shi < slo := by omega
                clear hA
                by_cases hx1 : lo ≤ slo
                · by_cases hx2 : shi ≤ hi
                  · obtain rfl : al = true := hB.2 ⟨hx1, hx2⟩
                    clear hB HAL ADH
                    go_wp2
                    go_ret
                    exact ⟨rfl, bq⟩
                  · obtain rfl : al = false := by
                      cases al
                      · rfl
                      · exact absurd (hB.1 rfl).2 hx2
                    clear hB HAL ADH
                    go_wp2
                    go_ret
                    exact ⟨rfl, bq⟩
                · obtain rfl : al = false := by
                    cases al
                    · rfl
                    · exact absurd (hB.1 rfl).1 hx1
                  clear hB HAL ADH
                  go_wp2
                  go_ret
                  exact ⟨rfl, bq⟩

end Go.Proofs.Ytcninhhbaddglaa
