/- Walks: Held, the program's and the reference's; SameInts. -/
import Derived.Test.YtiebbbeijlfedaaB1
namespace Go.Proofs.Ytiebbbeijlfedaa
open Go Go.RowKit Go.Proofs

set_option maxHeartbeats 400000 in
theorem neg62_any (x : Int) (w : World) : Calls Try.prog 62 #[.int .i64 x] w fun e w' => e = .returned (.bool (decide (x < 0))) ∧ w' = w := by
  go_enter Try.func62, Try.ntmps62
  go_wp2
  go_ret
  exact ⟨rfl, rfl⟩

set_option maxHeartbeats 400000 in
theorem neg63_any (x s : Int) (B : Nat) (w : World) (hB : w.cell? ⟨B, 0, none⟩ = some (.int .i64 s)) (hs : -64 ≤ s ∧ s ≤ 64) :
    Calls Try.prog 63 #[.int .i64 x, .pointer (some ⟨B, 0, none⟩)] w fun e w' => e = .returned (.bool (decide (x < -s))) ∧ w' = w := by
  have e1 : IntKind.i64.wrap (-s) = -s := wi64 _ (by omega)
  clear hs
  go_enter Try.func63, Try.ntmps63
  go_wp2
  go_ret
  exact ⟨rfl, rfl⟩

set_option maxHeartbeats 1000000 in
theorem index62_any (v : Value) (L : List Int) (w : World) (h : SlI w v L) :
    Calls Try.prog 71 #[v, .func (.func 62) #[] #[]] w fun e w' => ∃ i : Int, decide (0 ≤ i) = anyI (fun x => decide (x < 0)) L ∧ e = .returned (.int .i64 i) ∧ w' = w := by
  obtain ⟨a, cap, rfl, hl, hc⟩ := h
  have AT := anyI_true (p := fun x => decide (x < 0)) (L := L)
  have AF := anyI_false (p := fun x => decide (x < 0)) (L := L)
  have WR := fun (k : Nat) w => neg62_any (iz L k) w
  generalize hB : (fun k => decide (iz L k < 0)) = bad at *
  have hbad : ∀ k, (decide (iz L k < 0)) = bad k := fun k => by rw [← hB]
  simp only [hbad] at AT AF WR
  clear hbad hB
  generalize anyI (fun x => decide (x < 0)) L = r at AT AF ⊢
  have HA := Lib.hid AT
  have HF := Lib.hid AF
  have HC := Lib.hid hc
  clear AT AF hc
  obtain ⟨n, hn⟩ : ∃ n, L.length = n := ⟨_, rfl⟩
  rw [hn] at HA HF HC hl ⊢
  clear hn
  go_enter Try.func71, Try.ntmps71
  go_wp2_with fail
  go_loop [8] (fun i => ∃ k : Nat, k ≤ n ∧ i = .int .i64 k ∧ ∀ j, j < k → bad j = false) (fun i => n - (intOf i).toNat)
  case atStart => exact ⟨0, Nat.zero_le _, rfl, by simp⟩
  case round =>
    obtain ⟨k, hk, rfl, hall⟩ := hrel
    have HL := Lib.hid hall
    clear hall
    by_cases hlt : k < n
    · have j1 : (k : Int) < (n : Int) := by omega
      obtain ⟨b, off, rfl, c0⟩ := HC.out k hlt
      have C := WR k
      obtain ⟨bd, hbd⟩ : ∃ x, bad k = x := ⟨_, rfl⟩
      rw [hbd] at C
      have HB := Lib.hid hbd
      clear hbd WR
      go_wp2_with fail
      refine (C _).mono ?_
      rintro e w1 ⟨rfl, rfl⟩
      clear c0 C
      cases bd
      · go_wp2
        go_round
        case rel =>
          refine ⟨k + 1, by omega, by simp, fun j hj => ?_⟩
          rcases Nat.lt_or_ge j k with h | h
          · exact HL.out j h
          · obtain rfl : j = k := by omega
            exact HB.out
        case measure => simp [intOf]; omega
      · go_wp2
        go_ret
        exact ⟨(k : Nat), by rw [HA.out k hlt HB.out]; simp, rfl, rfl⟩
    · obtain rfl : k = n := by omega
      go_wp2
      go_ret
      exact ⟨-1, by rw [HF.out (fun j hj => HL.out j hj)]; rfl, rfl, rfl⟩

set_option maxHeartbeats 400000 in
theorem contains62_any (v : Value) (L : List Int) (w : World) (h : SlI w v L) :
    Calls Try.prog 43 #[v, .func (.func 62) #[] #[]] w fun e w' => e = .returned (.bool (anyI (fun x => decide (x < 0)) L)) ∧ w' = w := by
  have C := index62_any v L w h
  generalize anyI (fun x => decide (x < 0)) L = r at C ⊢
  go_enter Try.func43, Try.ntmps43
  go_wp2_with fail
  refine C.mono ?_
  rintro e w1 ⟨i, hi, rfl, rfl⟩
  clear C
  subst hi
  go_wp2
  go_ret
  exact ⟨rfl, rfl⟩

set_option maxHeartbeats 1000000 in
theorem index63_any (v : Value) (L : List Int) (s : Int) (B : Nat) (w : World) (hB : w.cell? ⟨B, 0, none⟩ = some (.int .i64 s)) (hs : -64 ≤ s ∧ s ≤ 64) (h : SlI w v L) :
    Calls Try.prog 71 #[v, .func (.func 63) #[] #[.pointer (some ⟨B, 0, none⟩)]] w fun e w' => ∃ i : Int, decide (0 ≤ i) = anyI (fun x => decide (x < -s)) L ∧ e = .returned (.int .i64 i) ∧ w' = w := by
  obtain ⟨a, cap, rfl, hl, hc⟩ := h
  have AT := anyI_true (p := fun x => decide (x < -s)) (L := L)
  have AF := anyI_false (p := fun x => decide (x < -s)) (L := L)
  have WR := fun (k : Nat) => neg63_any (iz L k) s B w hB hs
  generalize hBB : (fun k => decide (iz L k < -s)) = bad at *
  have hbad : ∀ k, (decide (iz L k < -s)) = bad k := fun k => by rw [← hBB]
  simp only [hbad] at AT AF WR
  clear hbad hBB hB
  generalize anyI (fun x => decide (x < -s)) L = r at AT AF ⊢
  have HA := Lib.hid AT
  have HF := Lib.hid AF
  have HC := Lib.hid hc
  clear AT AF hc
  obtain ⟨n, hn⟩ : ∃ n, L.length = n := ⟨_, rfl⟩
  rw [hn] at HA HF HC hl ⊢
  clear hn
  go_enter Try.func71, Try.ntmps71
  go_wp2_with fail
  go_loop [8] (fun i => ∃ k : Nat, k ≤ n ∧ i = .int .i64 k ∧ ∀ j, j < k → bad j = false) (fun i => n - (intOf i).toNat)
  case atStart => exact ⟨0, Nat.zero_le _, rfl, by simp⟩
  case round =>
    obtain ⟨k, hk, rfl, hall⟩ := hrel
    have HL := Lib.hid hall
    clear hall
    by_cases hlt : k < n
    · have j1 : (k : Int) < (n : Int) := by omega
      obtain ⟨b, off, rfl, c0⟩ := HC.out k hlt
      have C := WR k
      obtain ⟨bd, hbd⟩ : ∃ x, bad k = x := ⟨_, rfl⟩
      rw [hbd] at C
      have HB := Lib.hid hbd
      clear hbd WR
      go_wp2_with fail
      refine C.mono ?_
      rintro e w1 ⟨rfl, rfl⟩
      clear c0 C
      cases bd
      · go_wp2
        go_round
        case rel =>
          refine ⟨k + 1, by omega, by simp, fun j hj => ?_⟩
          rcases Nat.lt_or_ge j k with h | h
          · exact HL.out j h
          · obtain rfl : j = k := by omega
            exact HB.out
        case measure => simp [intOf]; omega
      · go_wp2
        go_ret
        exact ⟨(k : Nat), by rw [HA.out k hlt HB.out]; simp, rfl, rfl⟩
    · obtain rfl : k = n := by omega
      go_wp2
      go_ret
      exact ⟨-1, by rw [HF.out (fun j hj => HL.out j hj)]; rfl, rfl, rfl⟩

set_option maxHeartbeats 400000 in
theorem contains63_any (v : Value) (L : List Int) (s : Int) (B : Nat) (w : World) (hB : w.cell? ⟨B, 0, none⟩ = some (.int .i64 s)) (hs : -64 ≤ s ∧ s ≤ 64) (h : SlI w v L) :
    Calls Try.prog 43 #[v, .func (.func 63) #[] #[.pointer (some ⟨B, 0, none⟩)]] w fun e w' => e = .returned (.bool (anyI (fun x => decide (x < -s)) L)) ∧ w' = w := by
  have C := index63_any v L s B w hB hs h
  generalize anyI (fun x => decide (x < -s)) L = r at C ⊢
  go_enter Try.func43, Try.ntmps43
  go_wp2_with fail
  refine C.mono ?_
  rintro e w1 ⟨i, hi, rfl, rfl⟩
  clear C
  subst hi
  go_wp2
  go_ret
  exact ⟨rfl, rfl⟩

end Go.Proofs.Ytiebbbeijlfedaa
