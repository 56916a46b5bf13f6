/- The abstract machine, part GA. -/
import Derived.Test.YtlocdadkhdcedaaWA
import Derived.Lib.Hide
/- Settings: the plain law. -/
namespace Go.Plain

/-- The edge on which a setting lays an edge. -/
def ed (sh : Int) (b : Bool) (n i : Int) : Int :=
  if b then (if sh - i < 0 then sh - i + n else sh - i) else (if sh + i < n then sh + i else sh + i - n)

theorem ed_range {sh n i : Int} {b : Bool} (h1 : 0 ≤ sh) (h2 : sh < n) (h3 : 0 ≤ i) (h4 : i < n) : 0 ≤ ed sh b n i ∧ ed sh b n i < n := by
  unfold ed; cases b <;> simp <;> split <;> omega

theorem mod_lo {x n : Int} (h0 : 0 ≤ x) (h : x < n) : x % n = x := Int.emod_eq_of_lt h0 h

theorem mod_hi {x n : Int} (h0 : n ≤ x) (h : x < 2 * n) : x % n = x - n := by
  have e : x = (x - n) + n := by omega
  rw [e, Int.add_emod_right, Int.emod_eq_of_lt (by omega) (by omega)]
  omega

theorem ed_back {sh n i : Int} (h1 : 0 ≤ sh) (h2 : sh < n) (h3 : 0 ≤ i) (h4 : i < n) : (sh - i + n) % n = ed sh true n i := by
  unfold ed
  simp only [if_true]
  split
  · rw [mod_lo] <;> omega
  · rw [mod_hi] <;> omega

theorem ed_forth {sh n i : Int} (h1 : 0 ≤ sh) (h2 : sh < n) (h3 : 0 ≤ i) (h4 : i < n) : (sh + i) % n = ed sh false n i := by
  unfold ed
  simp only [Bool.false_eq_true, if_false]
  split
  · rw [mod_lo] <;> omega
  · rw [mod_hi] <;> omega

theorem ed_ed {s t n i : Int} {b c : Bool} (_h1 : 0 ≤ s) (_h2 : s < n) (h3 : 0 ≤ t) (h4 : t < n) (h5 : 0 ≤ i) (h6 : i < n) :
    ed t c n (ed s b n i) = ed (ed t c n s) (b != c) n i := by
  unfold ed
  cases b <;> cases c <;> simp <;> (repeat' split) <;> omega

theorem ed_zero {s n : Int} {b : Bool} (h1 : 0 ≤ s) (h2 : s < n) : ed s b n 0 = s := by
  unfold ed
  cases b <;> simp <;> (intros; omega)

theorem zero_ed {s n : Int} (_h1 : 0 ≤ s) (h2 : s < n) : ed 0 false n s = s := by
  unfold ed
  simp; omega

def inv (s : Int) (b : Bool) (n : Int) : Int := if b then s else (if s = 0 then 0 else n - s)

theorem inv_range {s n : Int} {b : Bool} (h1 : 0 ≤ s) (h2 : s < n) : 0 ≤ inv s b n ∧ inv s b n < n := by
  unfold inv; cases b <;> simp <;> (try split) <;> omega

theorem inv_forth {s n : Int} (h1 : 0 ≤ s) (h2 : s < n) : (n - s) % n = inv s false n := by
  unfold inv
  simp only [Bool.false_eq_true, if_false]
  split
  · rw [mod_hi] <;> omega
  · rw [mod_lo] <;> omega

theorem inv_ed {s n : Int} {b : Bool} (_h1 : 0 ≤ s) (h2 : s < n) : ed (inv s b n) b n s = 0 := by
  unfold ed inv
  cases b <;> simp <;> (repeat' split) <;> omega

end Go.Plain

/- Walks: settings. -/
namespace Go.Proofs.Ytlocdadkhdcedaa
open Go Go.RowKit Go.Proofs

abbrev st (s : Int) (b : Bool) : Value := .agg #[.int .i64 s, .bool b]

def vset (s n : Int) : Bool := decide (3 ≤ n) && decide (n ≤ 24) && decide (0 ≤ s) && decide (s < n)

set_option maxHeartbeats 400000 in
theorem validSetting_any (s n : Int) (b : Bool) (w : World) :
    Calls Try.prog 53 #[st s b, .int .i64 n] w fun e w' => e = .returned (.bool (vset s n)) ∧ Below w.heap.size w w' := by
  obtain ⟨v, hv⟩ : ∃ v, vset s n = v := ⟨_, rfl⟩
  rw [hv]
  go_enter Try.func53, Try.ntmps53
  go_wp2
  all_goals go_ret
  all_goals refine ⟨?_, (Below.refl _ _).alloc (Nat.le_refl _) _⟩
  all_goals rw [← hv]; unfold vset
  all_goals simp [*]
  all_goals (intros; omega)

set_option maxHeartbeats 400000 in
theorem refSetting_any (s n : Int) (b : Bool) (w : World) :
    Calls Try.prog 54 #[st s b, .int .i64 n] w fun e w' => e = .returned (.bool (vset s n)) ∧ Below w.heap.size w w' := by
  obtain ⟨v, hv⟩ : ∃ v, vset s n = v := ⟨_, rfl⟩
  rw [hv]
  go_enter Try.func54, Try.ntmps54
  go_wp2
  all_goals go_ret
  all_goals refine ⟨?_, (Below.refl _ _).alloc (Nat.le_refl _) _⟩
  all_goals rw [← hv]; unfold vset
  all_goals simp [*]
  all_goals (intros; omega)

abbrev stObj (s : Int) (b : Bool) : Obj := .cells #[.int .i64 s, .bool b] 51

theorem st_new (w : World) (s : Int) (b : Bool) : (w.alloc (stObj s b)).cell? ⟨w.heap.size, 0, none⟩ = some (.int .i64 s) ∧ (w.alloc (stObj s b)).cell? ⟨w.heap.size, 1, none⟩ = some (.bool b) := by
  constructor <;> go_simp

theorem ret_int {k : IntKind} {a b : Int} (h : a = b) : Ending.returned (.int k a) = .returned (.int k b) := by rw [h]

set_option maxHeartbeats 400000 in
theorem edge_any (s n i : Int) (b : Bool) (w : World) (h0 : 3 ≤ n) (hn : n ≤ 24) (h1 : 0 ≤ s) (h2 : s < n) (h3 : 0 ≤ i) (h4 : i < n) :
    Calls Try.prog 113 #[st s b, .int .i64 n, .int .i64 i] w fun e w' => e = .returned (.int .i64 (Plain.ed s b n i)) ∧ Below w.heap.size w w' := by
  have e1 := Plain.ed_back h1 h2 h3 h4
  have e2 := Plain.ed_forth h1 h2 h3 h4
  have E1 := Lib.hid e1
  have E2 := Lib.hid e2
  clear e1 e2
  have p1 : 0 ≤ s - i + n := by omega
  have p2 : 0 ≤ s + i := by omega
  have p3 : s - i + n ≤ 48 := by omega
  have p4 : s + i ≤ 48 := by omega
  have p5 : -24 ≤ s - i := by omega
  have p6 : s - i ≤ 24 := by omega
  cases b
  · go_enter Try.func113, Try.ntmps113
    go_wp2
    go_ret
    exact ⟨ret_int E2.out, (Below.refl _ _).alloc (Nat.le_refl _) _⟩
  · go_enter Try.func113, Try.ntmps113
    go_wp2
    go_ret
    exact ⟨ret_int E1.out, (Below.refl _ _).alloc (Nat.le_refl _) _⟩

theorem edgeP_any (s n i : Int) (b : Bool) (w : World) (h : vset s n = true) (h3 : 0 ≤ i) (h4 : i < n) :
    Calls Try.prog 59 #[st s b, .int .i64 n, .int .i64 i] w fun e w' => e = .returned (.tuple #[.int .i64 (Plain.ed s b n i), .int .i64 0]) ∧ Below w.heap.size w w' := by
  have hh := h
  simp only [vset, Bool.and_eq_true, decide_eq_true_eq] at hh
  obtain ⟨⟨⟨a1, a2⟩, a3⟩, a4⟩ := hh
  go_enter Try.func59, Try.ntmps59
  go_wp2_with fail
  refine (validSetting_any _ _ _ _).mono ?_
  rintro e w1 ⟨rfl, hb⟩
  rw [h]
  have n1 := st_new w s b
  have k0 := keep_cell hb n1.1
  have k1 := keep_cell hb n1.2
  have kb := keep_below ((Below.refl _ _).alloc (Nat.le_refl _) _) hb
  clear n1 hb
  go_wp2_with (first | (go_at_call 113; refine (edge_any _ _ _ _ _ (by assumption) (by assumption) (by assumption) (by assumption) (by assumption) (by assumption)).mono ?_; rintro e w2 ⟨rfl, hb⟩))
  go_ret2
  exact ⟨rfl, keep_below kb hb⟩

end Go.Proofs.Ytlocdadkhdcedaa
