/- Walks: the reference's order of marks; lists of marks that rise. -/
import Derived.Test.YtiebbbeijlfedaaC4
import Derived.Test.YtiebbbeijlfedaaB1
import Derived.Test.YtiebbbeijlfedaaQB
namespace Go.Proofs.Ytiebbbeijlfedaa
open Go Go.RowKit Go.Proofs

set_option maxRecDepth 100000 in
set_option maxHeartbeats 2000000 in
theorem earlier_any (x y z p q r : Int) (w : World) :
    Calls Try.prog 70 #[mk x y z, mk p q r] w fun e w' => e = .returned (.bool (decide (cmpM x y z p q r < 0))) ∧ Below w.heap.size w w' := by
  rw [cmpM_lt]
  obtain ⟨b0, m0, m1⟩ := mk2 w x y z p q r
  by_cases h1 : x = p
  · subst h1
    by_cases h2 : y = q
    · subst h2
      simp only [if_true]
      go_enter Try.func70, Try.ntmps70
      go_wp2
      all_goals first
        | (exfalso; simp_all; done)
        | (go_ret; exact ⟨rfl, b0⟩)
    · rw [if_pos rfl, if_neg h2]
      have j2 : (y == q) = false := by rw [beq_eq_false_iff_ne]; exact h2
      go_enter Try.func70, Try.ntmps70
      go_wp2
      all_goals first
        | (exfalso; simp_all; done)
        | (go_ret; exact ⟨rfl, b0⟩)
  · rw [if_neg h1]
    have j1 : (x == p) = false := by rw [beq_eq_false_iff_ne]; exact h1
    go_enter Try.func70, Try.ntmps70
    go_wp2
    all_goals first
      | (exfalso; simp_all; done)
      | (go_ret; exact ⟨rfl, b0⟩)

structure M3 where
  x : Int
  y : Int
  z : Int

def mq (M : List M3) (k : Nat) : M3 := M.getD k ⟨0, 0, 0⟩

/-- The value is a slice, nil or not, that holds the marks of M. -/
def SlM (w : World) (v : Value) (M : List M3) : Prop := ∃ a cap, v = .slice a M.length cap ∧ M.length ≤ 9223372036854775807 ∧
  ∀ k, k < M.length → ∃ b off, a = some ⟨b, off, none⟩ ∧ w.cell? ⟨b, off + k * 3, none⟩ = some (.int .i64 (mq M k).x) ∧ w.cell? ⟨b, off + k * 3 + 1, none⟩ = some (.int .i64 (mq M k).y) ∧ w.cell? ⟨b, off + k * 3 + 2, none⟩ = some (.int .i64 (mq M k).z)

theorem SlM.keep {w w' : World} {v : Value} {M : List M3} (h : SlM w v M) (hb : Below w.heap.size w w') : SlM w' v M := by
  obtain ⟨a, cap, rfl, hl, hc⟩ := h
  refine ⟨a, cap, rfl, hl, fun k hk => ?_⟩
  obtain ⟨b, off, rfl, h0, h1, h2⟩ := hc k hk
  exact ⟨b, off, rfl, keep_cell hb h0, keep_cell hb h1, keep_cell hb h2⟩

def cmpK (M : List M3) (k : Nat) : Int := cmpM (mq M k).x (mq M k).y (mq M k).z (mq M (k + 1)).x (mq M (k + 1)).y (mq M (k + 1)).z
def risesM (M : List M3) : Bool := (List.range (M.length - 1)).all fun k => decide (cmpK M k < 0)

theorem risesM_true {M : List M3} (h : ∀ k, k + 1 < M.length → cmpK M k < 0) : risesM M = true := by
  unfold risesM
  rw [List.all_eq_true]
  intro k hk
  exact decide_eq_true (h k (by have := List.mem_range.1 hk; omega))

theorem risesM_false {M : List M3} (k : Nat) (hk : k + 1 < M.length) (h : 0 ≤ cmpK M k) : risesM M = false := by
  unfold risesM
  rw [List.all_eq_false]
  exact ⟨k, List.mem_range.2 (by omega), by simp; omega⟩

set_option maxRecDepth 100000 in
set_option maxHeartbeats 2000000 in
theorem risingM_any (v : Value) (M : List M3) (w : World) (h : SlM w v M) :
    Calls Try.prog 67 #[v, .func (.func 68) #[] #[]] w fun e w' => e = .returned (.bool (risesM M)) ∧ Below w.heap.size w w' := by
  obtain ⟨a, cap, rfl, hl, hc⟩ := h
  have HF := Lib.hid (risesM_false (M := M))
  have HA := Lib.hid (risesM_true (M := M))
  generalize risesM M = r at HA HF ⊢
  have HC := Lib.hid hc
  clear hc
  obtain ⟨n, hn⟩ : ∃ n, M.length = n := ⟨_, rfl⟩
  rw [hn] at HA HF HC hl ⊢
  clear hn
  go_enter Try.func67, Try.ntmps67
  go_wp2_with fail
  go_loopw [5] (fun i wr => ∃ k : Nat, (k + 1 ≤ n ∨ k = 0) ∧ i = .int .i64 (k + 1) ∧ Below w.heap.size w wr ∧ ∀ j, j < k → j + 1 < n → cmpK M j < 0) (fun i _ => n - (intOf i).toNat)
  case atStart => exact ⟨0, .inr rfl, rfl, Below.refl _ _, by simp⟩
  case round =>
    obtain ⟨k, hk, rfl, hbel, hall⟩ := hrel
    have HL := Lib.hid hall
    clear hall
    by_cases hlt : k + 1 < n
    · have j1 : (k : Int) + 1 < (n : Int) := by omega
      have e1 : IntKind.i64.wrap (k : Int) = k := wi64 _ (by omega)
      obtain ⟨b, off, rfl, c0, c1, c2⟩ := HC.out k (by omega)
      obtain ⟨b', off', hbb, d0, d1, d2⟩ := HC.out (k + 1) hlt
      obtain ⟨rfl, rfl⟩ : b = b' ∧ off = off' := by cases hbb; exact ⟨rfl, rfl⟩
      clear hbb
      replace c0 := keep_cell hbel c0
      replace c1 := keep_cell hbel c1
      replace c2 := keep_cell hbel c2
      replace d0 := keep_cell hbel d0
      replace d1 := keep_cell hbel d1
      replace d2 := keep_cell hbel d2
      have C := fun w => compareMarks_any (mq M k).x (mq M k).y (mq M k).z (mq M (k + 1)).x (mq M (k + 1)).y (mq M (k + 1)).z w
      obtain ⟨c, hcc⟩ : ∃ x, cmpM (mq M k).x (mq M k).y (mq M k).z (mq M (k + 1)).x (mq M (k + 1)).y (mq M (k + 1)).z = x := ⟨_, rfl⟩
      simp only [hcc] at C
      have HB : Hid (cmpK M k = c) := hcc
      clear hcc
      generalize (mq M k).x = x0 at c0 C
      generalize (mq M k).y = x1 at c1 C
      generalize (mq M k).z = x2 at c2 C
      generalize (mq M (k + 1)).x = y0 at d0 C
      generalize (mq M (k + 1)).y = y1 at d1 C
      generalize (mq M (k + 1)).z = y2 at d2 C
      have j2 : (k : Int) < (n : Int) := by omega
      have j3 : (0 : Int) ≤ (k : Int) := by omega
      have j4 : (0 : Int) ≤ (k : Int) + 1 := by omega
      have j5 : ((k : Int) + 1).toNat = k + 1 := by omega
      have G0 := grow_cell c0
      have G1 := grow_cell c1
      have G2 := grow_cell c2
      have G3 := grow_cell d0
      have G4 := grow_cell d1
      have G5 := grow_cell d2
      go_wp2_with fail
      refine wp_region_grow (by kernel_rfl) (by kernel_rfl) ?_
      repeat (go_big_quiet_step ((go_at_call 68; with_reducible exact calls_grow (C _))))
      refine wpQuiet_nil ?_
      rintro w2 ⟨x, hx⟩
      have hb : Below wr.heap.size wr w2 := by rw [hx]; exact x.b
      clear hx x G0 G1 G2 G3 G4 G5 c0 c1 c2 d0 d1 d2 C e1 j5 j2 j3 j4
      have hbel2 := keep_below hbel hb
      clear hb
      by_cases hc0 : (0 : Int) ≤ c
      · go_wp2
        go_ret
        exact ⟨by rw [HF.out k hlt (by rw [HB.out]; exact hc0)]; rfl, hbel2⟩
      · go_wp2
        refine ⟨⟨k + 1, by omega, by simp, hbel2, fun j hj hj1 => ?_⟩, by simp [intOf]; omega⟩
        rcases Nat.lt_or_ge j k with h | h
        · exact HL.out j h hj1
        · obtain rfl : j = k := by omega
          rw [HB.out]; omega
    · have j1 : ¬ (k : Int) + 1 < (n : Int) := by omega
      go_wp2
      go_ret
      exact ⟨by rw [HA.out (fun j hj => HL.out j (by omega) hj)]; rfl, hbel⟩

end Go.Proofs.Ytiebbbeijlfedaa
