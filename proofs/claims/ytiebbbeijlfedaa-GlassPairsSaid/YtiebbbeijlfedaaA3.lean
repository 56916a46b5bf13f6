/- Walks: Greys$1 and lists by it; rising. -/
import Derived.Test.YtiebbbeijlfedaaA1
namespace Go.Proofs.Ytiebbbeijlfedaa
open Go Go.RowKit Go.Proofs

set_option maxHeartbeats 400000 in
theorem colour57_any (x : Int) (w : World) : Calls Try.prog 57 #[.int .i64 x] w fun e w' => e = .returned (.bool (wi x 1 16)) ∧ w' = w := by
  have C := fun w => within_any x 1 16 w
  generalize wi x 1 16 = c at C ⊢
  go_enter Try.func57, Try.ntmps57
  go_wp2_with fail
  refine (C _).mono ?_
  rintro e w1 ⟨rfl, rfl⟩
  go_wp2
  go_ret
  exact ⟨rfl, rfl⟩

set_option maxHeartbeats 400000 in
theorem wrong59_any (x : Int) (w : World) : Calls Try.prog 59 #[.int .i64 x] w fun e w' => e = .returned (.bool (!wi x 1 16)) ∧ w' = w := by
  have C := fun w => colour57_any x w
  generalize wi x 1 16 = c at C ⊢
  go_enter Try.func59, Try.ntmps59
  go_wp2_with fail
  refine (C _).mono ?_
  rintro e w1 ⟨rfl, rfl⟩
  go_wp2
  go_ret
  exact ⟨rfl, rfl⟩

set_option maxHeartbeats 1000000 in
theorem index59_any (v : Value) (L : List Int) (w : World) (h : SlI w v L) :
    Calls Try.prog 71 #[v, .func (.func 59) #[] #[]] w fun e w' => ∃ i : Int, decide (0 ≤ i) = anyI (fun x => !wi x 1 16) L ∧ e = .returned (.int .i64 i) ∧ w' = w := by
  obtain ⟨a, cap, rfl, hl, hc⟩ := h
  have AT := anyI_true (p := fun x => !wi x 1 16) (L := L)
  have AF := anyI_false (p := fun x => !wi x 1 16) (L := L)
  have WR := fun (k : Nat) w => wrong59_any (iz L k) w
  generalize hB : (fun k => !wi (iz L k) 1 16) = bad at *
  have hbad : ∀ k, (!wi (iz L k) 1 16) = bad k := fun k => by rw [← hB]
  simp only [hbad] at AT AF WR
  clear hbad hB
  generalize anyI (fun x => !wi x 1 16) L = r at AT AF ⊢
  have HA := Lib.hid AT
  have HF := Lib.hid AF
  have HC := Lib.hid hc
  clear AT AF hc
  obtain ⟨n, hn⟩ : ∃ n, L.length = n := ⟨_, rfl⟩
  rw [hn] at HA HF HC hl ⊢
  clear hn
  go_enter Try.func71, Try.ntmps71
  go_wp2_with fail
  go_loop [8] (fun i => ∃ k : Nat, k ≤ n ∧ i = .int .i64 k ∧ ∀ j, j < k → bad j = false) (fun i => n - (intOf i).toNat)
  case atStart => exact ⟨0, Nat.zero_le _, rfl, by simp⟩
  case round =>
    obtain ⟨k, hk, rfl, hall⟩ := hrel
    have HL := Lib.hid hall
    clear hall
    by_cases hlt : k < n
    · have j1 : (k : Int) < (n : Int) := by omega
      obtain ⟨b, off, rfl, c0⟩ := HC.out k hlt
      have C := WR k
      obtain ⟨bd, hbd⟩ : ∃ x, bad k = x := ⟨_, rfl⟩
      rw [hbd] at C
      have HB := Lib.hid hbd
      clear hbd WR
      go_wp2_with fail
      refine (C _).mono ?_
      rintro e w1 ⟨rfl, rfl⟩
      clear c0 C
      cases bd
      · go_wp2
        go_round
        case rel =>
          refine ⟨k + 1, by omega, by simp, fun j hj => ?_⟩
          rcases Nat.lt_or_ge j k with h | h
          · exact HL.out j h
          · obtain rfl : j = k := by omega
            exact HB.out
        case measure => simp [intOf]; omega
      · go_wp2
        go_ret
        exact ⟨(k : Nat), by rw [HA.out k hlt HB.out]; simp, rfl, rfl⟩
    · obtain rfl : k = n := by omega
      go_wp2
      go_ret
      exact ⟨-1, by rw [HF.out (fun j hj => HL.out j hj)]; rfl, rfl, rfl⟩

set_option maxHeartbeats 400000 in
theorem contains59_any (v : Value) (L : List Int) (w : World) (h : SlI w v L) :
    Calls Try.prog 43 #[v, .func (.func 59) #[] #[]] w fun e w' => e = .returned (.bool (anyI (fun x => !wi x 1 16) L)) ∧ w' = w := by
  have C := index59_any v L w h
  generalize anyI (fun x => !wi x 1 16) L = r at C ⊢
  go_enter Try.func43, Try.ntmps43
  go_wp2_with fail
  refine C.mono ?_
  rintro e w1 ⟨i, hi, rfl, rfl⟩
  clear C
  subst hi
  go_wp2
  go_ret
  exact ⟨rfl, rfl⟩

theorem belowN (w : World) (n : Nat) : Below w.heap.size w (w.drewN n) := ⟨rfl, rfl, rfl, Nat.le_refl _, fun _ _ => rfl⟩

theorem belowN2 (w : World) (m n : Nat) : Below w.heap.size w ((w.drewN m).drewN n) := ⟨rfl, rfl, rfl, Nat.le_refl _, fun _ _ => rfl⟩

theorem quiet_add_same {P : Program} {f : FuncId} {args : Array Value} {w : World} {a n : Nat} {v : Value}
    (h : Calls P f args (w.drewN (a + n)) fun e w' => e = .returned v ∧ w' = w.drewN (a + n)) :
    Calls P f args (w.drewN (a + n)) fun e w'' => e = .returned v ∧ ∃ m, w'' = w.drewN (a + m) :=
  h.mono fun _ _ ⟨he, hm⟩ => ⟨he, n, hm⟩

def rises (L : List Int) : Bool := (List.range (L.length - 1)).all fun k => decide (iz L k < iz L (k + 1))

theorem rises_true {L : List Int} (h : ∀ k, k + 1 < L.length → decide (0 ≤ Lib.compareInt (iz L k) (iz L (k + 1))) = false) : rises L = true := by
  unfold rises
  rw [List.all_eq_true]
  intro k hk
  have := h k (by have := List.mem_range.1 hk; omega)
  unfold Lib.compareInt at this
  revert this
  repeat' split
  all_goals simp
  all_goals omega

theorem rises_false {L : List Int} (k : Nat) (hk : k + 1 < L.length) (h : decide (0 ≤ Lib.compareInt (iz L k) (iz L (k + 1))) = true) : rises L = false := by
  unfold rises
  rw [List.all_eq_false]
  refine ⟨k, List.mem_range.2 (by omega), ?_⟩
  unfold Lib.compareInt at h
  revert h
  repeat' split
  all_goals simp
  all_goals omega

set_option maxHeartbeats 1000000 in
theorem rising_any (v : Value) (L : List Int) (w : World) (h : SlI w v L) :
    Calls Try.prog 60 #[v, .func (.func 61) #[] #[]] w fun e w' => e = .returned (.bool (rises L)) ∧ Below w.heap.size w w' := by
  obtain ⟨a, cap, rfl, hl, hc⟩ := h
  have HF := Lib.hid (rises_false (L := L))
  have HA := Lib.hid (rises_true (L := L))
  generalize rises L = r at HA HF ⊢
  have HC := Lib.hid hc
  clear hc
  obtain ⟨n, hn⟩ : ∃ n, L.length = n := ⟨_, rfl⟩
  rw [hn] at HA HF HC hl ⊢
  clear hn
  go_enter Try.func60, Try.ntmps60
  go_wp2_with fail
  go_loopw [5] (fun i wr => ∃ k : Nat, (k + 1 ≤ n ∨ k = 0) ∧ i = .int .i64 (k + 1) ∧ (∃ q, wr = w.drewN q) ∧ ∀ j, j < k → j + 1 < n → decide (0 ≤ Lib.compareInt (iz L j) (iz L (j + 1))) = false) (fun i _ => n - (intOf i).toNat)
  case atStart => exact ⟨0, .inr rfl, rfl, ⟨0, rfl⟩, by simp⟩
  case round =>
    obtain ⟨k, hk, rfl, ⟨q, rfl⟩, hall⟩ := hrel
    have HL := Lib.hid hall
    clear hall
    by_cases hlt : k + 1 < n
    · have j1 : (k : Int) + 1 < (n : Int) := by omega
      have e1 : IntKind.i64.wrap (k : Int) = k := wi64 _ (by omega)
      obtain ⟨b, off, rfl, c0⟩ := HC.out k (by omega)
      obtain ⟨b', off', hbb, c1⟩ := HC.out (k + 1) hlt
      obtain ⟨rfl, rfl⟩ : b = b' ∧ off = off' := by cases hbb; exact ⟨rfl, rfl⟩
      clear hbb
      have C := fun w => compare_any (iz L k) (iz L (k + 1)) w
      obtain ⟨c, hcc⟩ : ∃ x, Lib.compareInt (iz L k) (iz L (k + 1)) = x := ⟨_, rfl⟩
      simp only [hcc] at C
      have HB := Lib.hid hcc
      clear hcc
      obtain ⟨x0, hx0⟩ : ∃ x, iz L k = x := ⟨_, rfl⟩
      obtain ⟨x1, hx1⟩ : ∃ x, iz L (k + 1) = x := ⟨_, rfl⟩
      rw [hx0] at c0
      rw [hx1] at c1
      simp only [hx0, hx1] at C
      clear hx0 hx1
      have j2 : (k : Int) < (n : Int) := by omega
      have j3 : (0 : Int) ≤ (k : Int) := by omega
      have j4 : (0 : Int) ≤ (k : Int) + 1 := by omega
      have j5 : ((k : Int) + 1).toNat = k + 1 := by omega
      go_wp2_with fail
      go_quiet ((go_at_call 61; exact quiet_add_same (C _)))
      clear c0 c1 C e1 j5
      by_cases hc0 : (0 : Int) ≤ c
      · go_wp2
        go_ret
        exact ⟨by rw [HF.out k hlt (by rw [HB.out]; simpa using hc0)]; rfl, belowN2 _ _ _⟩
      · go_wp2
        go_round
        case rel =>
          refine ⟨k + 1, by omega, by simp, ⟨_, rfl⟩, fun j hj hj1 => ?_⟩
          rcases Nat.lt_or_ge j k with h | h
          · exact HL.out j h hj1
          · obtain rfl : j = k := by omega
            rw [HB.out]; simpa using hc0
        case measure => simp [intOf]; omega
    · have j1 : ¬ (k : Int) + 1 < (n : Int) := by omega
      go_wp2
      go_ret
      exact ⟨by rw [HA.out (fun j hj => HL.out j (by omega) hj)]; rfl, belowN _ _⟩

end Go.Proofs.Ytiebbbeijlfedaa
