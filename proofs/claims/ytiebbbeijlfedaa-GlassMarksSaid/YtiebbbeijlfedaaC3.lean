/- Walks: the reference's lists of gauges. -/
import Derived.Test.YtiebbbeijlfedaaCA
namespace Go.Proofs.Ytiebbbeijlfedaa
open Go Go.RowKit Go.Proofs

set_option maxHeartbeats 2000000 in
theorem refGauges_any (v : Value) (G : List G5) (w : World) (h : SlG w v G) :
    Calls Try.prog 40 #[v] w fun e w' => e = .returned (.bool (vGs G)) ∧ Below w.heap.size w w' := by
  obtain ⟨a, cap, rfl, hl, hc⟩ := h
  have hF : vGs G = (decide (3 ≤ G.length) && decide (G.length ≤ 24) && !badG G) := by
    unfold vGs
    congr 1
    unfold wi
    rw [Bool.eq_iff_iff]
    simp only [Bool.and_eq_true, decide_eq_true_eq]
    omega
  rw [hF]
  clear hF
  have HA := Lib.hid (badG_true (G := G))
  have HF := Lib.hid (badG_false (G := G))
  have HC := Lib.hid hc
  clear hc
  generalize badG G = r at HA HF ⊢
  obtain ⟨n, hn⟩ : ∃ n, G.length = n := ⟨_, rfl⟩
  rw [hn] at HA HF HC hl ⊢
  clear hn
  by_cases h1 : n < 3
  · have j1 : (n : Int) < 3 := by omega
    have HH : decide (3 ≤ n) = false := by simp; omega
    rw [HH]
    clear h1 HH
    go_enter Try.func40, Try.ntmps40
    go_wp2
    all_goals go_ret
    all_goals exact ⟨by simp, Below.refl _ _⟩
  · have j1 : ¬ (n : Int) < 3 := by omega
    by_cases h2 : 24 < n
    · have j2 : (24 : Int) < (n : Int) := by omega
      have HH : decide (n ≤ 24) = false := by simp; omega
      rw [HH]
      clear h1 h2 HH
      go_enter Try.func40, Try.ntmps40
      go_wp2
      all_goals go_ret
      all_goals exact ⟨by simp, Below.refl _ _⟩
    · have j2 : ¬ (24 : Int) < (n : Int) := by omega
      have hB : (decide (3 ≤ n) && decide (n ≤ 24) && !r) = !r := by
        have h3 : decide (3 ≤ n) = true := by simp; omega
        have h4 : decide (n ≤ 24) = true := by simp; omega
        rw [h3, h4]; rfl
      rw [hB]
      clear hB h1 h2
      go_enter Try.func40, Try.ntmps40
      go_wp2_with fail
      go_loopw [3] (fun i wr => ∃ k : Nat, k ≤ n ∧ i = .int .i64 k ∧ Below w.heap.size w wr ∧ ∀ j, j < k → (gz G j).ok = true) (fun i _ => n - (intOf i).toNat)
      case atStart => exact ⟨0, Nat.zero_le _, rfl, Below.refl _ _, by simp⟩
      case round =>
        obtain ⟨k, hk, rfl, hb, hall⟩ := hrel
        have HL := Lib.hid hall
        clear hall
        by_cases hlt : k < n
        · have jk : (k : Int) < (n : Int) := by omega
          obtain ⟨b, off, rfl, c0, c1, c2, c3, c4⟩ := HC.out k hlt
          have d0 := keep_cell hb c0
          have d1 := keep_cell hb c1
          have d2 := keep_cell hb c2
          have d3 := keep_cell hb c3
          have d4 := keep_cell hb c4
          have C := fun w => refValidGauge_any (gz G k).a (gz G k).b (gz G k).c (gz G k).d (gz G k).e w
          obtain ⟨bd, hbd⟩ : ∃ x, vG (gz G k).a (gz G k).b (gz G k).c (gz G k).d (gz G k).e = x := ⟨_, rfl⟩
          simp only [hbd] at C
          have HB : Hid ((gz G k).ok = bd) := hbd
          clear hbd c0 c1 c2 c3 c4
          generalize (gz G k).a = x0 at d0 C
          generalize (gz G k).b = x1 at d1 C
          generalize (gz G k).c = x2 at d2 C
          generalize (gz G k).d = x3 at d3 C
          generalize (gz G k).e = x4 at d4 C
          go_wp2_with fail
          refine (C _).mono ?_
          rintro e w1 ⟨rfl, hb1⟩
          have hb2 := keep_below hb hb1
          clear C d0 d1 d2 d3 d4 hb hb1
          cases bd
          · go_wp2
            go_ret
            exact ⟨by rw [HA.out k hlt HB.out]; rfl, hb2⟩
          · go_wp2
            refine ⟨⟨k + 1, by omega, by simp, hb2, fun j hj => ?_⟩, by simp [intOf]; omega⟩
            rcases Nat.lt_or_ge j k with h | h
            · exact HL.out j h
            · obtain rfl : j = k := by omega
              exact HB.out
        · obtain rfl : k = n := by omega
          go_wp2
          go_ret
          exact ⟨by rw [HF.out (fun j hj => HL.out j hj)]; rfl, hb⟩

end Go.Proofs.Ytiebbbeijlfedaa
