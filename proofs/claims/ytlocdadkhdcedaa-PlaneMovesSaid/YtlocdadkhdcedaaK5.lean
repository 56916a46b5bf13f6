/- Walks: simple. -/
import Derived.Test.YtlocdadkhdcedaaK4
import Derived.Test.YtlocdadkhdcedaaW4
namespace Go.Proofs.Ytlocdadkhdcedaa
open Go Go.RowKit Go.Proofs

def wantS (n i k : Nat) : Int := if k = i + 1 ∨ (i = 0 ∧ k = n - 1) then 1 else 0
def meetK (xs ys : Nat → Int) (n i k : Nat) : Int := meetS (xs i) (ys i) (xs (i + 1)) (ys (i + 1)) (xs k) (ys k) (xs ((k + 1) % n)) (ys ((k + 1) % n))
def simpleS (xs ys : Nat → Int) (n : Nat) : Bool := decide (∀ k, k < n → ∀ i, i < k → meetK xs ys n i k = wantS n i k)

theorem want_bool {n i k : Nat} (h : 0 < n) : wantS n i k = if (((k : Int) == (i : Int) + 1) || (((i : Int) == 0) && ((k : Int) == (n : Int) - 1))) = true then 1 else 0 := by
  unfold wantS
  congr 1
  simp only [Bool.or_eq_true, Bool.and_eq_true, beq_iff_eq, eq_iff_iff]
  omega

set_option maxRecDepth 100000 in
set_option maxHeartbeats 4000000 in
theorem simple_any (b off len cap : Nat) (xs ys : Nat → Int) (hlen : len ≤ 1000000) (hsm : ∀ k, Small (xs k) ∧ Small (ys k)) (w : World)
    (hc : ∀ k, k < len → w.cell? ⟨b, off + k * 2, none⟩ = some (.int .i64 (xs k)) ∧ w.cell? ⟨b, off + k * 2 + 1, none⟩ = some (.int .i64 (ys k))) :
    Calls Try.prog 84 #[.slice (some ⟨b, off, none⟩) len cap] w fun e w' => e = .returned (.bool (simpleS xs ys len)) ∧ Below w.heap.size w w' := by
  go_enter Try.func84, Try.ntmps84
  go_wp2_with fail
  go_loopw [11] (fun i wr => ∃ k : Nat, k ≤ len ∧ i = .int .i64 k ∧ Below w.heap.size w wr ∧ ∀ i, i < k → ∀ k', i < k' → k' < len → meetK xs ys len i k' = wantS len i k') (fun i _ => len - (intOf i).toNat)
  case atStart => exact ⟨0, Nat.zero_le _, rfl, Below.refl _ _, by simp⟩
  case round =>
    obtain ⟨i, hi, rfl, hbel, hall⟩ := hrel
    have HA := Lib.hid hall
    clear hall
    by_cases hlt : i < len
    · have j1 : (i : Int) < (len : Int) := by omega
      go_wp2_with fail
      go_loopw [5] (fun k wi => ∃ k' : Nat, i + 1 ≤ k' ∧ k' ≤ len ∧ k = .int .i64 k' ∧ Below w.heap.size w wi ∧ ∀ k, i < k → k < k' → meetK xs ys len i k = wantS len i k) (fun k _ => len - (intOf k).toNat)
      case atStart => exact ⟨i + 1, Nat.le_refl _, by omega, by simp, hbel, by omega⟩
      case round =>
        obtain ⟨k, hk1, hk2, rfl, hbel2, hin⟩ := hrel
        have HI := Lib.hid hin
        clear hin hbel
        by_cases hkl : k < len
        · have j2 : (k : Int) < (len : Int) := by omega
          have j3 : (i : Int) + 1 < (len : Int) := by omega
          obtain ⟨q, hq⟩ : ∃ q, (k + 1) % len = q := ⟨_, rfl⟩
          have hql : q < len := by rw [← hq]; exact Nat.mod_lt _ (by omega)
          have j4 : (q : Int) < (len : Int) := by omega
          have T1 := Lib.hid (show ((k : Int) + 1).tmod len = (q : Int) by rw [Int.tmod_eq_emod_of_nonneg (by omega), ← hq, Int.natCast_emod]; congr 1)
          have T2 := Lib.hid (show ((k : Int) + 1) % len = (q : Int) by rw [← hq, Int.natCast_emod]; congr 1)
          have a0 := keep_cell2 hbel2 (hc i hlt).1
          have a1 := keep_cell2 hbel2 (hc i hlt).2
          have b0 := keep_cell2 hbel2 (hc (i + 1) (by omega)).1
          have b1 := keep_cell2 hbel2 (hc (i + 1) (by omega)).2
          have c0 := keep_cell2 hbel2 (hc k hkl).1
          have c1 := keep_cell2 hbel2 (hc k hkl).2
          have d0 := keep_cell2 hbel2 (hc q hql).1
          have d1 := keep_cell2 hbel2 (hc q hql).2
          obtain ⟨m, hm⟩ : ∃ m, meetK xs ys len i k = m := ⟨_, rfl⟩
          have M := fun w => meet_any (xs i) (ys i) (xs (i + 1)) (ys (i + 1)) (xs k) (ys k) (xs q) (ys q) w (hsm _).1 (hsm _).2 (hsm _).1 (hsm _).2 (hsm _).1 (hsm _).2 (hsm _).1 (hsm _).2
          rw [show meetS (xs i) (ys i) (xs (i + 1)) (ys (i + 1)) (xs k) (ys k) (xs q) (ys q) = m by rw [← hm, ← hq]; rfl] at M
          have HM := Lib.hid hm
          obtain ⟨wt, hwt⟩ : ∃ wt, wantS len i k = wt := ⟨_, rfl⟩
          have HW := Lib.hid hwt
          have HW3 := Lib.hid hwt
          have hl0 : ¬ len = 0 := by omega
          clear hq hm hc hsm hwt
          obtain ⟨β1, e1⟩ : ∃ β, ((k : Int) == (i : Int) + 1) = β := ⟨_, rfl⟩
          obtain ⟨β2, e2⟩ : ∃ β, ((i : Int) == 0) = β := ⟨_, rfl⟩
          obtain ⟨β3, e3⟩ : ∃ β, ((k : Int) == (len : Int) - 1) = β := ⟨_, rfl⟩
          have HW2 : Hid (wt = if (β1 || (β2 && β3)) = true then 1 else 0) := by
            refine Lib.hid ?_
            rw [← HW.out, ← e1, ← e2, ← e3]
            exact want_bool (by omega)
          clear HW
          cases β1 <;> cases β2 <;> cases β3
          all_goals
            go_wp2_with fail
            have T3 := T1.out
            have T4 := T2.out
            have G0 := grow_cell a0
            have G1 := grow_cell a1
            have G2 := grow_cell b0
            have G3 := grow_cell b1
            have G4 := grow_cell c0
            have G5 := grow_cell c1
            have G6 := grow_cell d0
            have G7 := grow_cell d1
            refine wp_region_grow (by kernel_rfl) (by kernel_rfl) ?_
            repeat (go_big_quiet_step ((go_at_call 78; with_reducible exact calls_grow (M _))))
            refine wpQuiet_nil ?_
            rintro w2 ⟨x, hx⟩
            have hb : Below wr.heap.size wr w2 := by rw [hx]; exact x.b
            clear hx x G0 G1 G2 G3 G4 G5 G6 G7 T3 T4
            have hbel3 := keep_below hbel2 hb
            clear hb
            have hfalse : m ≠ wt → simpleS xs ys len = false := fun h => decide_eq_false (fun hh => h (by rw [← HM.out, ← HW3.out]; exact hh k hkl i (by omega)))
            have hnext : m = wt → ∀ k', i < k' → k' < k + 1 → meetK xs ys len i k' = wantS len i k' := fun h k' h1 h2 => by
              rcases Nat.lt_or_ge k' k with h3 | h3
              · exact HI.out k' h1 h3
              · obtain rfl : k' = k := by omega
                rw [HM.out, HW3.out]; exact h
            have HF := Lib.hid hfalse
            have HN := Lib.hid hnext
            clear hfalse hnext
            by_cases hmw : m = wt
            · have HMW := Lib.hid hmw
              first
                | (obtain rfl : wt = 1 := HW2.out)
                | (obtain rfl : wt = 0 := HW2.out)
              go_wp2
              refine ⟨⟨k + 1, by omega, by omega, by simp, hbel3, HN.out HMW.out⟩, by simp [intOf]; omega⟩
            · have HMW := Lib.hid hmw
              first
                | (obtain rfl : wt = 1 := HW2.out)
                | (obtain rfl : wt = 0 := HW2.out)
              go_wp2
              go_ret
              refine ⟨?_, hbel3⟩
              rw [HF.out HMW.out]
              rfl
        · obtain rfl : k = len := by omega
          go_wp2
          refine ⟨⟨i + 1, by omega, by simp, hbel2, fun i' hi' k' h1 h2 => ?_⟩, by simp [intOf]; omega⟩
          rcases Nat.lt_or_ge i' i with h | h
          · exact HA.out i' h k' h1 h2
          · obtain rfl : i' = i := by omega
            exact HI.out k' h1 h2
    · obtain rfl : i = len := by omega
      go_wp2
      go_ret
      refine ⟨?_, hbel⟩
      rw [show simpleS xs ys i = true from decide_eq_true (fun k hk i' hi' => HA.out i' (by omega) k hi' hk)]
      rfl

end Go.Proofs.Ytlocdadkhdcedaa
