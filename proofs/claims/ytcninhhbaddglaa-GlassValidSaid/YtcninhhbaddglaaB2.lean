/- Walks: the reference's ValidFilm. -/
import Derived.Test.YtcninhhbaddglaaB1
namespace Go.Proofs.Ytcninhhbaddglaa
open Go Go.RowKit Go.Proofs

set_option maxRecDepth 100000 in
set_option maxHeartbeats 2000000 in
theorem refValidFilm_any (id : Int) (v : Value) (L : List Int) (w : World) (h : SlI w v L) :
    Calls Try.prog 14 #[film id v] w fun e w' => e = .returned (.bool (vFilm id L)) ∧ Below w.heap.size w w' := by
  have b0 : Below w.heap.size w (w.alloc (filmObj id v)) := (Below.refl _ _).alloc (Nat.le_refl _) _
  have f0 := film_new w id v
  obtain ⟨a, cap, rfl, hl, hc⟩ := h.keep b0
  have C1 := fun w => refWithin_any id 1 65535 w
  have hF : vFilm id L = (wi id 1 65535 && (decide (1 ≤ L.length) && decide (L.length ≤ 16)) && !anyI (fun x => !wi x 0 255) L) := by
    unfold vFilm
    congr 2
    unfold wi
    rw [Bool.eq_iff_iff]
    simp only [Bool.and_eq_true, decide_eq_true_eq]
    omega
  rw [hF]
  clear hF
  have AT := anyI_true (p := fun x => !wi x 0 255) (L := L)
  have AF := anyI_false (p := fun x => !wi x 0 255) (L := L)
  have WR := fun (k : Nat) w => refWithin_any (iz L k) 0 255 w
  generalize hB : (fun k => wi (iz L k) 0 255) = bad at *
  have hbad : ∀ k, wi (iz L k) 0 255 = bad k := fun k => by rw [← hB]
  simp only [hbad] at AT AF WR
  clear hbad hB
  generalize anyI (fun x => !wi x 0 255) L = r at AT AF ⊢
  have HA := Lib.hid AT
  have HF := Lib.hid AF
  have HC := Lib.hid hc
  have g1 := f0.1
  have g2 := f0.2
  clear AT AF hc h f0
  obtain ⟨n, hn⟩ : ∃ n, L.length = n := ⟨_, rfl⟩
  rw [hn] at HA HF HC hl g1 g2 b0 ⊢
  generalize wi id 1 65535 = p at C1 ⊢
  cases p
  · go_enter Try.func14, Try.ntmps14
    go_wp2_with (go_at_call 39; with_reducible refine (C1 _).mono ?_; rintro e w1 ⟨rfl, rfl⟩)
    go_ret
    exact ⟨by simp, b0⟩
  · by_cases h1 : n < 1
    · have j1 : (n : Int) < 1 := by omega
      have HH := Lib.hid h1
      clear h1
      go_enter Try.func14, Try.ntmps14
      go_wp2_with (go_at_call 39; with_reducible refine (C1 _).mono ?_; rintro e w1 ⟨rfl, rfl⟩)
      all_goals go_ret
      all_goals exact ⟨by have := HH.out; simp; omega, b0⟩
    · have j1 : ¬ (n : Int) < 1 := by omega
      by_cases h2 : 16 < n
      · have j2 : (16 : Int) < (n : Int) := by omega
        have HH := Lib.hid h2
        clear h1 h2
        go_enter Try.func14, Try.ntmps14
        go_wp2_with (go_at_call 39; with_reducible refine (C1 _).mono ?_; rintro e w1 ⟨rfl, rfl⟩)
        all_goals go_ret
        all_goals exact ⟨by have := HH.out; simp; omega, b0⟩
      · have j2 : ¬ (16 : Int) < (n : Int) := by omega
        have hB : (true && (decide (1 ≤ n) && decide (n ≤ 16)) && !r) = !r := by
          have : decide (1 ≤ n) = true := by simp; omega
          have h3 : decide (n ≤ 16) = true := by simp; omega
          rw [this, h3]; rfl
        rw [hB]
        clear hB
        go_enter Try.func14, Try.ntmps14
        go_wp2_with (go_at_call 39; with_reducible refine (C1 _).mono ?_; rintro e w1 ⟨rfl, rfl⟩)
        clear C1
        go_loop [3] (fun i => ∃ k : Nat, k ≤ n ∧ i = .int .i64 k ∧ ∀ j, j < k → bad j = true) (fun i => n - (intOf i).toNat)
        case atStart => exact ⟨0, Nat.zero_le _, rfl, by simp⟩
        case round =>
          obtain ⟨k, hk, rfl, hall⟩ := hrel
          have HL := Lib.hid hall
          clear hall
          by_cases hlt : k < n
          · have jk : (k : Int) < (n : Int) := by omega
            obtain ⟨b, off, rfl, c0⟩ := HC.out k hlt
            have C := WR k
            obtain ⟨bd, hbd⟩ : ∃ x, bad k = x := ⟨_, rfl⟩
            rw [hbd] at C
            have HB := Lib.hid hbd
            clear hbd WR
            cases bd
            · go_wp2_with (go_at_call 39; with_reducible refine (C _).mono ?_; rintro e w1 ⟨rfl, rfl⟩)
              go_ret
              exact ⟨by rw [HA.out k hlt (by rw [HB.out]; rfl)]; rfl, b0⟩
            · go_wp2_with (go_at_call 39; with_reducible refine (C _).mono ?_; rintro e w1 ⟨rfl, rfl⟩)
              go_round
              case rel =>
                refine ⟨k + 1, by omega, by simp, fun j hj => ?_⟩
                rcases Nat.lt_or_ge j k with h | h
                · exact HL.out j h
                · obtain rfl : j = k := by omega
                  exact HB.out
              case measure => simp [intOf]; omega
          · obtain rfl : k = n := by omega
            go_wp2
            go_ret
            exact ⟨by rw [HF.out (fun j hj => by rw [HL.out j hj]; rfl)]; rfl, b0⟩

end Go.Proofs.Ytcninhhbaddglaa
