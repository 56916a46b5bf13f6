/- Walks: numbers within bounds; lists of numbers; the closures over them. -/
import Derived.Test.YtiebbbeijlfedaaWA
import Derived.Test.YtiebbbeijlfedaaQB
import Derived.Lib.Hide
import Derived.Laws.AppendOwn
import Derived.Laws.OwnMore
namespace Go.Proofs.Ytiebbbeijlfedaa
open Go Go.RowKit Go.Proofs

def wi (n lo hi : Int) : Bool := decide (lo ≤ n) && decide (n ≤ hi)

set_option maxHeartbeats 400000 in
theorem within_any (n lo hi : Int) (w : World) :
    Calls Try.prog 36 #[.int .i64 n, .int .i64 lo, .int .i64 hi] w fun e w' => e = .returned (.bool (wi n lo hi)) ∧ w' = w := by
  obtain ⟨v, hv⟩ : ∃ v, wi n lo hi = v := ⟨_, rfl⟩
  rw [hv]
  go_enter Try.func36, Try.ntmps36
  go_wp2
  all_goals go_ret
  all_goals refine ⟨?_, rfl⟩
  all_goals rw [← hv]; unfold wi
  all_goals simp [*]
  all_goals (intros; omega)

def iz (L : List Int) (k : Nat) : Int := L.getD k 0

/-- The value is a slice, nil or not, that holds the numbers of L. -/
def SlI (w : World) (v : Value) (L : List Int) : Prop := ∃ a cap, v = .slice a L.length cap ∧ L.length ≤ 9223372036854775807 ∧
  ∀ k, k < L.length → ∃ b off, a = some ⟨b, off, none⟩ ∧ w.cell? ⟨b, off + k, none⟩ = some (.int .i64 (iz L k))

theorem SlI.keep {w w' : World} {v : Value} {L : List Int} (h : SlI w v L) (hb : Below w.heap.size w w') : SlI w' v L := by
  obtain ⟨a, cap, rfl, hl, hc⟩ := h
  refine ⟨a, cap, rfl, hl, fun k hk => ?_⟩
  obtain ⟨b, off, rfl, h⟩ := hc k hk
  exact ⟨b, off, rfl, keep_cell hb h⟩

def anyI (p : Int → Bool) (L : List Int) : Bool := (List.range L.length).any fun k => p (iz L k)

theorem anyI_true {p : Int → Bool} {L : List Int} (k : Nat) (hk : k < L.length) (h : p (iz L k) = true) : anyI p L = true := by
  unfold anyI
  rw [List.any_eq_true]
  exact ⟨k, List.mem_range.2 hk, h⟩

theorem anyI_false {p : Int → Bool} {L : List Int} (h : ∀ k, k < L.length → p (iz L k) = false) : anyI p L = false := by
  unfold anyI
  rw [List.any_eq_false]
  intro k hk
  simp [h k (List.mem_range.1 hk)]

set_option maxHeartbeats 400000 in
theorem wrong42_any (x : Int) (w : World) : Calls Try.prog 42 #[.int .i64 x] w fun e w' => e = .returned (.bool (!wi x 0 255)) ∧ w' = w := by
  have C := fun w => within_any x 0 255 w
  generalize wi x 0 255 = c at C ⊢
  go_enter Try.func42, Try.ntmps42
  go_wp2_with fail
  refine (C _).mono ?_
  rintro e w1 ⟨rfl, rfl⟩
  go_wp2
  go_ret
  exact ⟨rfl, rfl⟩

set_option maxHeartbeats 1000000 in
theorem index42_any (v : Value) (L : List Int) (w : World) (h : SlI w v L) :
    Calls Try.prog 71 #[v, .func (.func 42) #[] #[]] w fun e w' => ∃ i : Int, decide (0 ≤ i) = anyI (fun x => !wi x 0 255) L ∧ e = .returned (.int .i64 i) ∧ w' = w := by
  obtain ⟨a, cap, rfl, hl, hc⟩ := h
  have AT := anyI_true (p := fun x => !wi x 0 255) (L := L)
  have AF := anyI_false (p := fun x => !wi x 0 255) (L := L)
  have WR := fun (k : Nat) w => wrong42_any (iz L k) w
  generalize hB : (fun k => !wi (iz L k) 0 255) = bad at *
  have hbad : ∀ k, (!wi (iz L k) 0 255) = bad k := fun k => by rw [← hB]
  simp only [hbad] at AT AF WR
  clear hbad hB
  generalize anyI (fun x => !wi x 0 255) L = r at AT AF ⊢
  have HA := Lib.hid AT
  have HF := Lib.hid AF
  have HC := Lib.hid hc
  clear AT AF hc
  obtain ⟨n, hn⟩ : ∃ n, L.length = n := ⟨_, rfl⟩
  rw [hn] at HA HF HC hl ⊢
  clear hn
  go_enter Try.func71, Try.ntmps71
  go_wp2_with fail
  go_loop [8] (fun i => ∃ k : Nat, k ≤ n ∧ i = .int .i64 k ∧ ∀ j, j < k → bad j = false) (fun i => n - (intOf i).toNat)
  case atStart => exact ⟨0, Nat.zero_le _, rfl, by simp⟩
  case round =>
    obtain ⟨k, hk, rfl, hall⟩ := hrel
    have HL := Lib.hid hall
    clear hall
    by_cases hlt : k < n
    · have j1 : (k : Int) < (n : Int) := by omega
      obtain ⟨b, off, rfl, c0⟩ := HC.out k hlt
      have C := WR k
      obtain ⟨bd, hbd⟩ : ∃ x, bad k = x := ⟨_, rfl⟩
      rw [hbd] at C
      have HB := Lib.hid hbd
      clear hbd WR
      go_wp2_with fail
      refine (C _).mono ?_
      rintro e w1 ⟨rfl, rfl⟩
      clear c0 C
      cases bd
      · go_wp2
        go_round
        case rel =>
          refine ⟨k + 1, by omega, by simp, fun j hj => ?_⟩
          rcases Nat.lt_or_ge j k with h | h
          · exact HL.out j h
          · obtain rfl : j = k := by omega
            exact HB.out
        case measure => simp [intOf]; omega
      · go_wp2
        go_ret
        exact ⟨(k : Nat), by rw [HA.out k hlt HB.out]; simp, rfl, rfl⟩
    · obtain rfl : k = n := by omega
      go_wp2
      go_ret
      exact ⟨-1, by rw [HF.out (fun j hj => HL.out j hj)]; rfl, rfl, rfl⟩

set_option maxHeartbeats 400000 in
theorem contains42_any (v : Value) (L : List Int) (w : World) (h : SlI w v L) :
    Calls Try.prog 43 #[v, .func (.func 42) #[] #[]] w fun e w' => e = .returned (.bool (anyI (fun x => !wi x 0 255) L)) ∧ w' = w := by
  have C := index42_any v L w h
  generalize anyI (fun x => !wi x 0 255) L = r at C ⊢
  go_enter Try.func43, Try.ntmps43
  go_wp2_with fail
  refine C.mono ?_
  rintro e w1 ⟨i, hi, rfl, rfl⟩
  clear C
  subst hi
  go_wp2
  go_ret
  exact ⟨rfl, rfl⟩

end Go.Proofs.Ytiebbbeijlfedaa
