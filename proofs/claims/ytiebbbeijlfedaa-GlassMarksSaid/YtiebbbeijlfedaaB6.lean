/- Walks: the reference's Held; SameInts of equal lists. -/
import Derived.Test.YtiebbbeijlfedaaB5
import Derived.Test.YtiebbbeijlfedaaA3
namespace Go.Proofs.Ytiebbbeijlfedaa
open Go Go.RowKit Go.Proofs

def wideTo (s : Int) (F : List Int) (k : Nat) : Bool := (List.range k).all fun j => decide (-s ≤ iz F j)

theorem wide_succ (s : Int) (F : List Int) (k : Nat) : wideTo s F (k + 1) = (wideTo s F k && decide (-s ≤ iz F k)) := by
  unfold wideTo
  rw [List.range_succ, List.all_append]
  simp

theorem wide_any (s : Int) (F : List Int) : wideTo s F F.length = !anyI (fun x => decide (x < -s)) F := by
  unfold wideTo anyI
  rw [List.not_any_eq_all_not]
  congr 1
  funext j
  rw [Bool.eq_iff_iff]
  simp

set_option maxRecDepth 100000 in
set_option maxHeartbeats 2000000 in
theorem refHeld_any (s : Int) (v : Value) (F : List Int) (w : World) (h : SlI w v F) :
    Calls Try.prog 35 #[.int .i64 s, v] w fun e w' => e = .returned (.tuple #[.bool (heldB s F), .int .i64 (heldE s F)]) ∧ w' = w := by
  have C1 := fun w => refWithin_any s (-64) 64 w
  have WS := wide_succ s F
  have WA := wide_any s F
  have W0 : wideTo s F 0 = true := rfl
  unfold heldB heldE heldBad
  have AT := anyI_true (p := fun x => decide (x < 0)) (L := F)
  have AF := anyI_false (p := fun x => decide (x < 0)) (L := F)
  obtain ⟨p, hp⟩ : ∃ p, wi s (-64) 64 = p := ⟨_, rfl⟩
  simp only [hp] at C1
  rw [hp]
  generalize anyI (fun x => decide (x < 0)) F = q at AT AF ⊢
  generalize anyI (fun x => decide (x < -s)) F = r at WA ⊢
  generalize wideTo s F = wd at WS WA W0
  obtain ⟨a, cap, rfl, hl, hc⟩ := h
  have HC := Lib.hid hc
  have HA := Lib.hid AT
  have HF := Lib.hid AF
  have HS := Lib.hid WS
  have HW := Lib.hid WA
  have H0 := Lib.hid W0
  clear hc AT AF WS WA W0
  obtain ⟨n, hn⟩ : ∃ n, F.length = n := ⟨_, rfl⟩
  rw [hn] at HC HA HF HW hl ⊢
  clear hn
  cases p
  · clear hp
    go_enter Try.func35, Try.ntmps35
    go_wp2_with (go_at_call 39; with_reducible refine (C1 _).mono ?_; rintro e w1 ⟨rfl, rfl⟩)
    go_ret2
    exact ⟨by simp, rfl⟩
  · have hs : -64 ≤ s ∧ s ≤ 64 := by unfold wi at hp; simp at hp; omega
    have e1 : IntKind.i64.wrap (-s) = -s := wi64 _ (by omega)
    clear hs hp
    by_cases h4 : 400 < n
    · have j1 : (400 : Int) < (n : Int) := by omega
      have HH : decide (400 < n) = true := by simpa using h4
      rw [HH]
      clear h4 HH e1
      go_enter Try.func35, Try.ntmps35
      go_wp2_with (go_at_call 39; with_reducible refine (C1 _).mono ?_; rintro e w1 ⟨rfl, rfl⟩)
      go_ret2
      exact ⟨by simp, rfl⟩
    · have j1 : ¬ (400 : Int) < (n : Int) := by omega
      have HH : decide (400 < n) = false := by simpa using h4
      rw [HH]
      clear h4 HH
      have E1 := Lib.hid e1
      clear e1
      go_enter Try.func35, Try.ntmps35
      go_wp2_with (go_at_call 39; with_reducible refine (C1 _).mono ?_; rintro e w1 ⟨rfl, rfl⟩)
      clear C1 j1
      go_loop [6, 7] (fun hd i => ∃ k : Nat, k ≤ n ∧ i = .int .i64 k ∧ hd = .bool (wd k) ∧ ∀ j, j < k → decide (iz F j < 0) = false) (fun _ i => n - (intOf i).toNat)
      case atStart => exact ⟨0, Nat.zero_le _, rfl, by rw [H0.out], by simp⟩
      case round =>
        obtain ⟨k, hk, rfl, rfl, hall⟩ := hrel
        have HL := Lib.hid hall
        clear hall
        by_cases hlt : k < n
        · have j1 : (k : Int) < (n : Int) := by omega
          obtain ⟨b, off, rfl, c0⟩ := HC.out k hlt
          have hS := HS.out k
          obtain ⟨x, hx⟩ : ∃ x, iz F k = x := ⟨_, rfl⟩
          rw [hx] at c0 hS
          have HX := Lib.hid hx
          clear hx
          obtain ⟨u, hu⟩ : ∃ u, wd k = u := ⟨_, rfl⟩
          rw [hu] at hS ⊢
          clear hu
          have HSk := Lib.hid hS
          clear hS
          by_cases hx0 : x < 0
          · have hq := HA.out k hlt (by rw [HX.out]; simpa using hx0)
            subst hq
            go_wp2
            go_ret2
            exact ⟨rfl, rfl⟩
          · have e1 := E1.out
            cases u
            · go_wp2
              go_round
              case rel =>
                refine ⟨k + 1, by omega, by simp, by rw [HSk.out]; rfl, fun j hj => ?_⟩
                rcases Nat.lt_or_ge j k with h | h
                · exact HL.out j h
                · obtain rfl : j = k := by omega
                  rw [HX.out]; simpa using hx0
              case measure => simp [intOf]; omega
            · go_wp2
              go_round
              case rel =>
                refine ⟨k + 1, by omega, by simp, by rw [HSk.out]; simp, fun j hj => ?_⟩
                rcases Nat.lt_or_ge j k with h | h
                · exact HL.out j h
                · obtain rfl : j = k := by omega
                  rw [HX.out]; simpa using hx0
              case measure => simp [intOf]; omega
        · obtain rfl : k = n := by omega
          have hq := HF.out (fun j hj => HL.out j hj)
          subst hq
          go_wp2
          go_ret2
          refine ⟨?_, rfl⟩
          rw [HW.out]
          simp

set_option maxRecDepth 100000 in
set_option maxHeartbeats 2000000 in
theorem sameInts_any (u v : Value) (L : List Int) (w : World) (hu : SlI w u L) (hv : SlI w v L) :
    Calls Try.prog 27 #[u, v] w fun e w' => e = .returned (.bool true) ∧ Below w.heap.size w w' := by
  obtain ⟨a, cap, rfl, hl, hc⟩ := hu
  obtain ⟨a', cap', rfl, -, hc'⟩ := hv
  have HC := Lib.hid hc
  have HD := Lib.hid hc'
  clear hc hc'
  obtain ⟨n, hn⟩ : ∃ n, L.length = n := ⟨_, rfl⟩
  rw [hn] at HC HD hl ⊢
  clear hn
  go_enter Try.func27, Try.ntmps27
  go_wp2_with fail
  go_loopw [5] (fun i wr => ∃ k : Nat, k ≤ n ∧ i = .int .i64 k ∧ ∃ q, wr = w.drewN q) (fun i _ => n - (intOf i).toNat)
  case atStart => exact ⟨0, Nat.zero_le _, rfl, 0, rfl⟩
  case round =>
    obtain ⟨k, hk, rfl, q, rfl⟩ := hrel
    by_cases hlt : k < n
    · have j1 : (k : Int) < (n : Int) := by omega
      obtain ⟨b, off, rfl, c0⟩ := HC.out k hlt
      obtain ⟨b', off', rfl, c1⟩ := HD.out k hlt
      generalize iz L k = x at c0 c1
      go_wp2_with fail
      go_quiet (fail)
      clear c0 c1
      go_wp2
      exact ⟨⟨k + 1, by omega, by simp, q + nq, by simp⟩, by simp [intOf]; omega⟩
    · obtain rfl : k = n := by omega
      go_wp2
      go_ret
      exact ⟨rfl, belowN _ _⟩

end Go.Proofs.Ytiebbbeijlfedaa
