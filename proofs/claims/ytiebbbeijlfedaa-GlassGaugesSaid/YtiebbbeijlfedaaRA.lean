/- The abstract machine, part RA. -/
import Derived.Test.YtiebbbeijlfedaaKE
/- Walks: the reference's points, at, less. -/
namespace Go.Proofs.Ytiebbbeijlfedaa
open Go Go.RowKit Go.Proofs

set_option maxHeartbeats 1000000 in
theorem refPoints_any (xs ys : Nat → Int) (b off n cap : Nat) (w : World) (hn : n ≤ 9223372036854775807) (hc : ∀ k, k < n → w.cell? ⟨b, off + k * 2, none⟩ = some (.int .i64 (xs k)) ∧ w.cell? ⟨b, off + k * 2 + 1, none⟩ = some (.int .i64 (ys k))) :
    Calls Try.prog 81 #[.slice (some ⟨b, off, none⟩) n cap] w fun e w' => e = .returned (.bool (allValid xs ys n)) ∧ Below w.heap.size w w' := by
  go_enter Try.func81, Try.ntmps81
  go_wp2_with fail
  go_loopw [3] (fun i wr => ∃ k : Nat, k ≤ n ∧ i = .int .i64 k ∧ Below w.heap.size w wr ∧ allValid xs ys k = true) (fun i _ => n - (intOf i).toNat)
  case atStart => exact ⟨0, Nat.zero_le _, rfl, Below.refl _ _, rfl⟩
  case round =>
    obtain ⟨k, hk, rfl, hbel, hall⟩ := hrel
    have hx : k < n → wr.cell? ⟨b, off + k * 2, none⟩ = some (.int .i64 (xs k)) := fun h => (hbel.cell (lt_of_cell (hc k h).1)).trans (hc k h).1
    have hy : k < n → wr.cell? ⟨b, off + k * 2 + 1, none⟩ = some (.int .i64 (ys k)) := fun h => (hbel.cell (lt_of_cell (hc k h).2)).trans (hc k h).2
    clear hc
    go_wp2_with (first
      | (go_at_call 109; refine (refValid_any _ _ _).mono ?_; rintro e w1 ⟨rfl, hb⟩))
    · have hk' : k < n := by assumption
      have hv : (!valid (xs k) (ys k)) = true := by assumption
      go_ret
      refine ⟨?_, keep_below hbel hb⟩
      rw [allValid_false hk' (by simpa using hv)]
      rfl
    · have hk' : k < n := by assumption
      have hv : (!valid (xs k) (ys k)) = false := by assumption
      refine ⟨⟨k + 1, hk', by simp, keep_below hbel hb, ?_⟩, by simp [intOf]; omega⟩
      rw [allValid_succ, hall]
      simpa using hv
    · have hk' : ¬ k < n := by assumption
      go_ret
      refine ⟨?_, hbel⟩
      have : k = n := by omega
      subst this
      rw [hall]
      rfl

/-- The number of a corner, modulo their number. -/
def atN (n : Nat) (i : Int) : Nat := (i % (n : Int)).toNat

theorem atN_lt {n : Nat} {i : Int} (h : 0 < n) : atN n i < n := by
  unfold atN
  have := Int.emod_nonneg i (show (n : Int) ≠ 0 by omega)
  have := Int.emod_lt_of_pos i (show (0 : Int) < n by omega)
  omega

theorem at_tmod {n : Nat} {i : Int} (h : 0 < n) : (i.tmod n + n).tmod n = (atN n i : Int) := by
  have h1 := Int.emod_nonneg i (show (n : Int) ≠ 0 by omega)
  have h3 := Int.lt_tmod_of_pos i (show (0 : Int) < n by omega)
  rw [Int.tmod_eq_emod_of_nonneg (by omega)]
  unfold atN
  rw [Int.toNat_of_nonneg h1, Int.add_emod_right]
  have := Int.tmod_def i n
  rw [this, Int.sub_mul_emod_self_left]

set_option maxRecDepth 100000 in
set_option maxHeartbeats 1000000 in
theorem at_any (b off len cap : Nat) (xs ys : Nat → Int) (hlen : len ≤ 1000000) (hpos : 0 < len) (i : Int) (w : World)
    (hc : ∀ k, k < len → w.cell? ⟨b, off + k * 2, none⟩ = some (.int .i64 (xs k)) ∧ w.cell? ⟨b, off + k * 2 + 1, none⟩ = some (.int .i64 (ys k))) :
    Calls Try.prog 86 #[.slice (some ⟨b, off, none⟩) len cap, .int .i64 i] w fun e w' => e = .returned (pt (xs (atN len i)) (ys (atN len i))) ∧ Below w.heap.size w w' := by
  have T0 := at_tmod (n := len) (i := i) hpos
  have L0 := atN_lt (n := len) (i := i) hpos
  obtain ⟨q, hq⟩ : ∃ q, atN len i = q := ⟨_, rfl⟩
  rw [hq] at T0 L0 ⊢
  have h3 := Int.lt_tmod_of_pos i (show (0 : Int) < len by omega)
  have h4 := Int.tmod_lt_of_pos i (show (0 : Int) < len by omega)
  obtain ⟨r, hr⟩ : ∃ r, i.tmod len = r := ⟨_, rfl⟩
  rw [hr] at T0 h3 h4
  have T1 : (r + len) % (len : Int) = q := by rw [← T0, Int.tmod_eq_emod_of_nonneg (by omega)]
  have j1 : (q : Int) < (len : Int) := by omega
  have a0 := keep_cell2 ((Below.refl w.heap.size w).alloc (Nat.le_refl _) (ptObj 0 0)) (hc q L0).1
  have a1 := keep_cell2 ((Below.refl w.heap.size w).alloc (Nat.le_refl _) (ptObj 0 0)) (hc q L0).2
  have hl0 : ¬ len = 0 := by omega
  clear hq hc
  go_enter Try.func86, Try.ntmps86
  go_wp2
  refine bodyPost_ret (v := pt (xs q) (ys q)) ?_ rfl ⟨rfl, (Below.refl _ _).alloc (Nat.le_refl _) _⟩
  have n1 := pt_new w (xs q) (ys q)
  simp [results, go_sem, n1.1, n1.2]

/-- Less: by x, then by y. -/
def lessS (ax ay bx b_y : Int) : Bool := decide (ax < bx) || (decide (ax = bx) && decide (ay < b_y))

set_option maxRecDepth 100000 in
set_option maxHeartbeats 1000000 in
theorem less_any (ax ay bx b_y : Int) (w : World) :
    Calls Try.prog 84 #[pt ax ay, pt bx b_y] w fun e w' => e = .returned (.bool (lessS ax ay bx b_y)) ∧ Below w.heap.size w w' := by
  obtain ⟨v, hv⟩ : ∃ v, lessS ax ay bx b_y = v := ⟨_, rfl⟩
  rw [hv]
  have HV := Lib.hid hv
  clear hv
  go_enter Try.func84, Try.ntmps84
  by_cases h1 : ax < bx
  · go_wp2
    all_goals
      go_ret
      refine ⟨?_, ((Below.refl _ _).alloc (by simp) _).alloc (by simp) _⟩
      rw [← HV.out]
      unfold lessS
      simp [*]
  · by_cases h2 : ax = bx
    · go_wp2
      all_goals
        go_ret
        refine ⟨?_, ((Below.refl _ _).alloc (by simp) _).alloc (by simp) _⟩
        rw [← HV.out]
        unfold lessS
        simp [*]
    · go_wp2
      all_goals
        go_ret
        refine ⟨?_, ((Below.refl _ _).alloc (by simp) _).alloc (by simp) _⟩
        rw [← HV.out]
        unfold lessS
        simp [*]

end Go.Proofs.Ytiebbbeijlfedaa

/- Walks: the reference's sum. -/
namespace Go.Proofs.Ytiebbbeijlfedaa
open Go Go.RowKit Go.Proofs

theorem at_from {b off len cap : Nat} {xs ys : Nat → Int} (hlen : len ≤ 1000000) {w0 : World}
    (hc : Hid (∀ k, k < len → w0.cell? ⟨b, off + k * 2, none⟩ = some (.int .i64 (xs k)) ∧ w0.cell? ⟨b, off + k * 2 + 1, none⟩ = some (.int .i64 (ys k))))
    (i : Int) (q : Nat) (x y : Int) (hq : Hid (0 < len ∧ atN len i = q ∧ xs q = x ∧ ys q = y)) (w : World) (hb : Below w0.heap.size w0 w) :
    Calls Try.prog 86 #[.slice (some ⟨b, off, none⟩) len cap, .int .i64 i] w fun e w' => e = .returned (pt x y) ∧ Below w.heap.size w w' := by
  obtain ⟨h0, rfl, rfl, rfl⟩ := hq.out
  exact at_any b off len cap xs ys hlen h0 i w (fun k hk => ⟨keep_cell2 hb (hc.out k hk).1, keep_cell2 hb (hc.out k hk).2⟩)

theorem atN_nat {len k : Nat} (h : k < len) : atN len (k : Int) = k := by
  unfold atN
  rw [Int.emod_eq_of_lt (by omega) (by omega)]
  simp

theorem atN_succ {len k : Nat} (_h : k < len) : atN len ((k : Int) + 1) = (k + 1) % len := by
  unfold atN
  have : ((k : Int) + 1) % (len : Int) = ((k + 1) % len : Nat) := by rw [Int.natCast_emod]; congr 1
  rw [this, Int.toNat_natCast]

theorem atN_pred {len k : Nat} (h : k < len) : atN len ((k : Int) - 1) = (k + len - 1) % len := by
  unfold atN
  have : ((k : Int) - 1) % (len : Int) = ((k + len - 1) % len : Nat) := by
    rw [Int.natCast_emod, ← Int.add_emod_right]
    congr 1
    omega
  rw [this, Int.toNat_natCast]

set_option maxRecDepth 100000 in
set_option maxHeartbeats 2000000 in
theorem sum_any (b off len cap : Nat) (xs ys : Nat → Int) (hlen : len ≤ 1000000) (hsm : ∀ k, Small (xs k) ∧ Small (ys k)) (w : World)
    (hc : ∀ k, k < len → w.cell? ⟨b, off + k * 2, none⟩ = some (.int .i64 (xs k)) ∧ w.cell? ⟨b, off + k * 2 + 1, none⟩ = some (.int .i64 (ys k))) :
    Calls Try.prog 83 #[.slice (some ⟨b, off, none⟩) len cap] w fun e w' => e = .returned (.int .i64 (sumD xs ys len (List.range len))) ∧ Below w.heap.size w w' := by
  have HC := Lib.hid hc
  clear hc
  go_enter Try.func83, Try.ntmps83
  go_wp2_with fail
  go_loopw [3, 4] (fun s i wr => ∃ k : Nat, k ≤ len ∧ i = .int .i64 k ∧ s = .int .i64 (sumD xs ys len (List.range k)) ∧ Below w.heap.size w wr) (fun _ i _ => len - (intOf i).toNat)
  case atStart => exact ⟨0, Nat.zero_le _, rfl, rfl, Below.refl _ _⟩
  case round =>
    obtain ⟨k, hk, rfl, rfl, hbel⟩ := hrel
    by_cases hlt : k < len
    · have j1 : (k : Int) < (len : Int) := by omega
      have E := sum_step hsm len k (List.range k) (by simp; omega)
      obtain ⟨x0, hx0⟩ : ∃ x, xs k = x := ⟨_, rfl⟩
      obtain ⟨y0, hy0⟩ : ∃ y, ys k = y := ⟨_, rfl⟩
      obtain ⟨x1, hx1⟩ : ∃ x, xs ((k + 1) % len) = x := ⟨_, rfl⟩
      obtain ⟨y1, hy1⟩ : ∃ y, ys ((k + 1) % len) = y := ⟨_, rfl⟩
      rw [hx0, hy0, hx1, hy1] at E
      rw [show List.range k ++ [k] = List.range (k + 1) from List.range_succ.symm] at E
      have A0 := at_from (cap := cap) hlen HC (k : Int) k x0 y0 (Lib.hid ⟨by omega, atN_nat hlt, hx0, hy0⟩)
      have A1 := at_from (cap := cap) hlen HC ((k : Int) + 1) ((k + 1) % len) x1 y1 (Lib.hid ⟨by omega, atN_succ hlt, hx1, hy1⟩)
      clear hx0 hy0 hx1 hy1
      obtain ⟨s, hs⟩ : ∃ s, sumD xs ys len (List.range k) = s := ⟨_, rfl⟩
      rw [hs] at E ⊢
      obtain ⟨t, ht⟩ : ∃ t, sumD xs ys len (List.range (k + 1)) = t := ⟨_, rfl⟩
      rw [ht] at E
      have E' := Lib.hid E
      have HT := Lib.hid ht
      clear E hs ht hsm
      go_wp2_with fail
      refine (A0 _ hbel).mono ?_
      rintro e w1 ⟨rfl, hb⟩
      have b1 := keep_below hbel hb
      clear hb
      go_wp2_with fail
      have n0 := pt_new w1 x0 y0
      have b2 := b1.alloc b1.size (ptObj x0 y0)
      refine (A1 _ b2).mono ?_
      rintro e w2 ⟨rfl, hb⟩
      have k0 := keep_cell hb n0.1
      have k1 := keep_cell hb n0.2
      have b3 := keep_below b2 hb
      clear hb n0 A0 A1
      have m0 := pt_old w2 (ptObj x1 y1) k0
      have m1 := pt_old w2 (ptObj x1 y1) k1
      have b4 := b3.alloc b3.size (ptObj x1 y1)
      go_wp2
      refine ⟨⟨k + 1, by omega, by simp, ?_, b4⟩, by simp [intOf]; omega⟩
      rw [HT.out, ← E'.out]
    · obtain rfl : k = len := by omega
      go_wp2
      go_ret
      exact ⟨rfl, hbel⟩

end Go.Proofs.Ytiebbbeijlfedaa
