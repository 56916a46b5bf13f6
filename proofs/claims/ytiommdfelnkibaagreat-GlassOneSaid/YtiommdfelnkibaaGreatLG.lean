/- The abstract machine, part LG. -/
import Derived.Test.YtiommdfelnkibaaGreatLF
import Derived.Test.YtiommdfelnkibaaGreatW4
/- Walks: simple. -/
namespace Go.Proofs.YtiommdfelnkibaaGreat
open Go Go.RowKit Go.Proofs

def wantS (n i k : Nat) : Int := if k = i + 1 ∨ (i = 0 ∧ k = n - 1) then 1 else 0
def meetK (xs ys : Nat → Int) (n i k : Nat) : Int := meetS (xs i) (ys i) (xs (i + 1)) (ys (i + 1)) (xs k) (ys k) (xs ((k + 1) % n)) (ys ((k + 1) % n))
def simpleS (xs ys : Nat → Int) (n : Nat) : Bool := decide (∀ k, k < n → ∀ i, i < k → meetK xs ys n i k = wantS n i k)

theorem want_bool {n i k : Nat} (h : 0 < n) : wantS n i k = if (((k : Int) == (i : Int) + 1) || (((i : Int) == 0) && ((k : Int) == (n : Int) - 1))) = true then 1 else 0 := by
  unfold wantS
  congr 1
  simp only [Bool.or_eq_true, Bool.and_eq_true, beq_iff_eq, eq_iff_iff]
  omega

set_option maxRecDepth 100000 in
set_option maxHeartbeats 4000000 in
theorem simple_any (b off len cap : Nat) (xs ys : Nat → Int) (hlen : len ≤ 1000000) (hsm : ∀ k, Small (xs k) ∧ Small (ys k)) (w : World)
    (hc : ∀ k, k < len → w.cell? ⟨b, off + k * 2, none⟩ = some (.int .i64 (xs k)) ∧ w.cell? ⟨b, off + k * 2 + 1, none⟩ = some (.int .i64 (ys k))) :
    Calls Tryz.prog 92 #[.slice (some ⟨b, off, none⟩) len cap] w fun e w' => e = .returned (.bool (simpleS xs ys len)) ∧ Below w.heap.size w w' := by
  go_enter Tryz.func92, Tryz.ntmps92
  go_wp2_with fail
  go_loopw [11] (fun i wr => ∃ k : Nat, k ≤ len ∧ i = .int .i64 k ∧ Below w.heap.size w wr ∧ ∀ i, i < k → ∀ k', i < k' → k' < len → meetK xs ys len i k' = wantS len i k') (fun i _ => len - (intOf i).toNat)
  case atStart => exact ⟨0, Nat.zero_le _, rfl, Below.refl _ _, by simp⟩
  case round =>
    obtain ⟨i, hi, rfl, hbel, hall⟩ := hrel
    have HA := Lib.hid hall
    clear hall
    by_cases hlt : i < len
    · have j1 : (i : Int) < (len : Int) := by omega
      go_wp2_with fail
      go_loopw [5] (fun k wi => ∃ k' : Nat, i + 1 ≤ k' ∧ k' ≤ len ∧ k = .int .i64 k' ∧ Below w.heap.size w wi ∧ ∀ k, i < k → k < k' → meetK xs ys len i k = wantS len i k) (fun k _ => len - (intOf k).toNat)
      case atStart => exact ⟨i + 1, Nat.le_refl _, by omega, by simp, hbel, by omega⟩
      case round =>
        obtain ⟨k, hk1, hk2, rfl, hbel2, hin⟩ := hrel
        have HI := Lib.hid hin
        clear hin hbel
        by_cases hkl : k < len
        · have j2 : (k : Int) < (len : Int) := by omega
          have j3 : (i : Int) + 1 < (len : Int) := by omega
          obtain ⟨q, hq⟩ : ∃ q, (k + 1) % len = q := ⟨_, rfl⟩
          have hql : q < len := by rw [← hq]; exact Nat.mod_lt _ (by omega)
          have j4 : (q : Int) < (len : Int) := by omega
          have T1 := Lib.hid (show ((k : Int) + 1).tmod len = (q : Int) by rw [Int.tmod_eq_emod_of_nonneg (by omega), ← hq, Int.natCast_emod]; congr 1)
          have T2 := Lib.hid (show ((k : Int) + 1) % len = (q : Int) by rw [← hq, Int.natCast_emod]; congr 1)
          have a0 := keep_cell2 hbel2 (hc i hlt).1
          have a1 := keep_cell2 hbel2 (hc i hlt).2
          have b0 := keep_cell2 hbel2 (hc (i + 1) (by omega)).1
          have b1 := keep_cell2 hbel2 (hc (i + 1) (by omega)).2
          have c0 := keep_cell2 hbel2 (hc k hkl).1
          have c1 := keep_cell2 hbel2 (hc k hkl).2
          have d0 := keep_cell2 hbel2 (hc q hql).1
          have d1 := keep_cell2 hbel2 (hc q hql).2
          obtain ⟨m, hm⟩ : ∃ m, meetK xs ys len i k = m := ⟨_, rfl⟩
          have M := fun w => meet_any (xs i) (ys i) (xs (i + 1)) (ys (i + 1)) (xs k) (ys k) (xs q) (ys q) w (hsm _).1 (hsm _).2 (hsm _).1 (hsm _).2 (hsm _).1 (hsm _).2 (hsm _).1 (hsm _).2
          rw [show meetS (xs i) (ys i) (xs (i + 1)) (ys (i + 1)) (xs k) (ys k) (xs q) (ys q) = m by rw [← hm, ← hq]; rfl] at M
          have HM := Lib.hid hm
          obtain ⟨wt, hwt⟩ : ∃ wt, wantS len i k = wt := ⟨_, rfl⟩
          have HW := Lib.hid hwt
          have HW3 := Lib.hid hwt
          have hl0 : ¬ len = 0 := by omega
          clear hq hm hc hsm hwt
          obtain ⟨β1, e1⟩ : ∃ β, ((k : Int) == (i : Int) + 1) = β := ⟨_, rfl⟩
          obtain ⟨β2, e2⟩ : ∃ β, ((i : Int) == 0) = β := ⟨_, rfl⟩
          obtain ⟨β3, e3⟩ : ∃ β, ((k : Int) == (len : Int) - 1) = β := ⟨_, rfl⟩
          have HW2 : Hid (wt = if (β1 || (β2 && β3)) = true then 1 else 0) := by
            refine Lib.hid ?_
            rw [← HW.out, ← e1, ← e2, ← e3]
            exact want_bool (by omega)
          clear HW
          cases β1 <;> cases β2 <;> cases β3
          all_goals
            go_wp2_with fail
            have T3 := T1.out
            have T4 := T2.out
            have G0 := grow_cell a0
            have G1 := grow_cell a1
            have G2 := grow_cell b0
            have G3 := grow_cell b1
            have G4 := grow_cell c0
            have G5 := grow_cell c1
            have G6 := grow_cell d0
            have G7 := grow_cell d1
            refine wp_region_grow (by kernel_rfl) (by kernel_rfl) ?_
            repeat (go_big_quiet_step ((go_at_call 143; with_reducible exact calls_grow (M _))))
            refine wpQuiet_nil ?_
            rintro w2 ⟨x, hx⟩
            have hb : Below wr.heap.size wr w2 := by rw [hx]; exact x.b
            clear hx x G0 G1 G2 G3 G4 G5 G6 G7 T3 T4
            have hbel3 := keep_below hbel2 hb
            clear hb
            have hfalse : m ≠ wt → simpleS xs ys len = false := fun h => decide_eq_false (fun hh => h (by rw [← HM.out, ← HW3.out]; exact hh k hkl i (by omega)))
            have hnext : m = wt → ∀ k', i < k' → k' < k + 1 → meetK xs ys len i k' = wantS len i k' := fun h k' h1 h2 => by
              rcases Nat.lt_or_ge k' k with h3 | h3
              · exact HI.out k' h1 h3
              · obtain rfl : k' = k := by omega
                rw [HM.out, HW3.out]; exact h
            have HF := Lib.hid hfalse
            have HN := Lib.hid hnext
            clear hfalse hnext
            by_cases hmw : m = wt
            · have HMW := Lib.hid hmw
              first
                | (obtain rfl : wt = 1 := HW2.out)
                | (obtain rfl : wt = 0 := HW2.out)
              go_wp2
              refine ⟨⟨k + 1, by omega, by omega, by simp, hbel3, HN.out HMW.out⟩, by simp [intOf]; omega⟩
            · have HMW := Lib.hid hmw
              first
                | (obtain rfl : wt = 1 := HW2.out)
                | (obtain rfl : wt = 0 := HW2.out)
              go_wp2
              go_ret
              refine ⟨?_, hbel3⟩
              rw [HF.out HMW.out]
              rfl
        · obtain rfl : k = len := by omega
          go_wp2
          refine ⟨⟨i + 1, by omega, by simp, hbel2, fun i' hi' k' h1 h2 => ?_⟩, by simp [intOf]; omega⟩
          rcases Nat.lt_or_ge i' i with h | h
          · exact HA.out i' h k' h1 h2
          · obtain rfl : i' = i := by omega
            exact HI.out k' h1 h2
    · obtain rfl : i = len := by omega
      go_wp2
      go_ret
      refine ⟨?_, hbel⟩
      rw [show simpleS xs ys i = true from decide_eq_true (fun k hk i' hi' => HA.out i' (by omega) k hi' hk)]
      rfl

end Go.Proofs.YtiommdfelnkibaaGreat

/- Walks: ValidOutline. -/
namespace Go.Proofs.YtiommdfelnkibaaGreat
open Go Go.RowKit Go.Proofs

def px (L : List (Int × Int)) (k : Nat) : Int := (L.getD k (0, 0)).1
def py (L : List (Int × Int)) (k : Nat) : Int := (L.getD k (0, 0)).2

/-- The points of L lie in block b from offset off on. -/
def PtsAt (w : World) (b off : Nat) (L : List (Int × Int)) : Prop := ∀ k, k < L.length → w.cell? ⟨b, off + k * 2, none⟩ = some (.int .i64 (px L k)) ∧ w.cell? ⟨b, off + k * 2 + 1, none⟩ = some (.int .i64 (py L k))

theorem PtsAt.keep {w w' : World} {b off : Nat} {L : List (Int × Int)} (h : PtsAt w b off L) (hb : Below w.heap.size w w') : PtsAt w' b off L := fun k hk => ⟨keep_cell hb (h k hk).1, keep_cell hb (h k hk).2⟩

theorem PtsAt.lt {w : World} {b off : Nat} {L : List (Int × Int)} (h : PtsAt w b off L) (hn : 0 < L.length) : b < w.heap.size := lt_of_cell (h 0 hn).1

/-- All points lie on the grid. -/
def vPts (L : List (Int × Int)) : Bool := allValid (px L) (py L) L.length

/-- Is the list an outline? -/
def vOut (L : List (Int × Int)) : Bool :=
  decide (3 ≤ L.length) && (decide (L.length ≤ 24) && (vPts L && (decide (firstS (px L) (py L) L.length < 0) && (decide (0 < sumD (px L) (py L) L.length (List.range L.length)) && (decide (leastK (px L) (py L) L.length = 0) && simpleS (px L) (py L) L.length)))))

theorem vPts_small {L : List (Int × Int)} (h : vPts L = true) : ∀ k, Small (px L k) ∧ Small (py L k) := by
  intro k
  by_cases hk : k < L.length
  · unfold vPts allValid at h
    rw [List.all_eq_true] at h
    exact valid_small (h k (List.mem_range.2 hk))
  · have : L.getD k (0, 0) = (0, 0) := by simp [List.getD_eq_getElem?_getD, List.getElem?_eq_none (Nat.le_of_not_lt hk)]
    unfold px py Small
    rw [this]
    simp

theorem calls_wide_doubled (b off len cap : Nat) (xs ys : Nat → Int) (hlen : len ≤ 1000000) (hsm : ∀ k, Small (xs k) ∧ Small (ys k)) (w : World)
    (hc : ∀ k, k < len → w.cell? ⟨b, off + k * 2, none⟩ = some (.int .i64 (xs k)) ∧ w.cell? ⟨b, off + k * 2 + 1, none⟩ = some (.int .i64 (ys k))) (hb : b < w.heap.size) :
    Calls Tryz.prog 90 #[.slice (some ⟨b, off, none⟩) len cap] w fun e w' => e = .returned (.int .i64 (sumD xs ys len (List.range len))) ∧ Below w.heap.size w w' :=
  (callsIn_wide (n := 6)).1 (doubled_in Fence.wide 6 trivial trivial trivial rfl (by omega) b off len cap xs ys hlen hsm w hc hb)

set_option maxRecDepth 100000 in
set_option maxHeartbeats 4000000 in
theorem validOutline_any (b off cap : Nat) (L : List (Int × Int)) (hn : L.length ≤ 9223372036854775807) (w : World) (hp : PtsAt w b off L) :
    Calls Tryz.prog 45 #[.slice (some ⟨b, off, none⟩) L.length cap] w fun e w' => e = .returned (.bool (vOut L)) ∧ Below w.heap.size w w' := by
  obtain ⟨v, hv⟩ : ∃ v, vOut L = v := ⟨_, rfl⟩
  rw [hv]
  have HV : Hid (v = (decide (3 ≤ L.length) && (decide (L.length ≤ 24) && (vPts L && (decide (firstS (px L) (py L) L.length < 0) && (decide (0 < sumD (px L) (py L) L.length (List.range L.length)) && (decide (leastK (px L) (py L) L.length = 0) && simpleS (px L) (py L) L.length))))))) := Lib.hid hv.symm
  clear hv
  obtain ⟨n, hnn⟩ : ∃ n, L.length = n := ⟨_, rfl⟩
  rw [hnn] at HV hn ⊢
  have HN := Lib.hid hnn
  clear hnn
  by_cases h3 : 3 ≤ n
  · by_cases h24 : n ≤ 24
    · have i3 : (3 : Int) ≤ (n : Int) := by omega
      have i24 : (n : Int) ≤ 24 := by omega
      have D1 := Lib.hid (decide_eq_true h3)
      have D2 := Lib.hid (decide_eq_true h24)
      have hb0 := Lib.hid hp
      clear hp
      go_enter Tryz.func45, Tryz.ntmps45
      go_wp2_with fail
      have V := validPoints_any (px L) (py L) b off n cap w hn (fun k hk => hb0.out k (by rw [HN.out]; exact hk))
      refine V.mono ?_
      clear V
      rintro e w1 ⟨rfl, hb⟩
      have P1 := Lib.hid (hb0.out.keep hb)
      have B1 := hb
      clear hb hb0
      obtain ⟨b1, hb1⟩ : ∃ b1, allValid (px L) (py L) n = b1 := ⟨_, rfl⟩
      rw [hb1]
      have V1 : Hid (vPts L = b1) := Lib.hid (by unfold vPts; rw [HN.out]; exact hb1)
      clear hb1
      cases b1
      · have hvv : v = false := by rw [HV.out, V1.out, D1.out, D2.out]; rfl
        subst hvv
        go_wp2
        go_ret
        exact ⟨rfl, B1⟩
      · have hsm := Lib.hid (vPts_small V1.out)
        go_wp2_with fail
        have C := first_any b off n cap (px L) (py L) (by omega) hsm.out w1 (fun k hk => P1.out k (by rw [HN.out]; exact hk)) (P1.out.lt (by rw [HN.out]; omega))
        obtain ⟨z, hz⟩ : ∃ z, firstS (px L) (py L) n = z := ⟨_, rfl⟩
        rw [hz] at C
        have Z0 := Lib.hid hz
        clear hz
        refine C.mono ?_
        clear C
        rintro e w2 ⟨rfl, hb⟩
        have P2 := Lib.hid (P1.out.keep hb)
        have B2 := B1.trans (hb.mono B1.size)
        clear hb P1
        by_cases hz : z < 0
        · have Q0 : Hid (decide (firstS (px L) (py L) n < 0) = true) := Lib.hid (by rw [Z0.out]; exact decide_eq_true hz)
          go_wp2_with fail
          have C := calls_wide_doubled b off n cap (px L) (py L) (by omega) hsm.out w2 (fun k hk => P2.out k (by rw [HN.out]; exact hk)) (P2.out.lt (by rw [HN.out]; omega))
          obtain ⟨z, hz⟩ : ∃ z, sumD (px L) (py L) n (List.range n) = z := ⟨_, rfl⟩
          rw [hz] at C
          have Z1 := Lib.hid hz
          clear hz
          refine C.mono ?_
          clear C
          rintro e w3 ⟨rfl, hb⟩
          have P3 := Lib.hid (P2.out.keep hb)
          have B3 := B2.trans (hb.mono B2.size)
          clear hb P2
          by_cases hz : 0 < z
          · have Q1 : Hid (decide (0 < sumD (px L) (py L) n (List.range n)) = true) := Lib.hid (by rw [Z1.out]; exact decide_eq_true hz)
            go_wp2_with fail
            have C := least_any b off n cap (px L) (py L) (by omega) (by omega) w3 (fun k hk => P3.out k (by rw [HN.out]; exact hk))
            obtain ⟨z, hz⟩ : ∃ z, leastK (px L) (py L) n = z := ⟨_, rfl⟩
            rw [hz] at C
            have Z2 := Lib.hid hz
            clear hz
            refine C.mono ?_
            clear C
            rintro e w4 ⟨rfl, hb⟩
            have P4 := Lib.hid (P3.out.keep hb)
            have B4 := B3.trans (hb.mono B3.size)
            clear hb P3
            by_cases hz : z = 0
            · have Q2 : Hid (decide (leastK (px L) (py L) n = 0) = true) := Lib.hid (by rw [Z2.out]; exact decide_eq_true hz)
              go_wp2_with fail
              have hvv : simpleS (px L) (py L) n = v := by rw [HV.out, D1.out, D2.out, V1.out, Q0.out, Q1.out, Q2.out]; simp
              have C := simple_any b off n cap (px L) (py L) (by omega) hsm.out w4 (fun k hk => P4.out k (by rw [HN.out]; exact hk))
              rw [hvv] at C
              refine C.mono ?_
              clear C
              rintro e w5 ⟨rfl, hb⟩
              go_wp2
              all_goals
                go_ret
                exact ⟨rfl, B4.trans (hb.mono B4.size)⟩
            · have Q2 : Hid (decide (leastK (px L) (py L) n = 0) = false) := Lib.hid (by rw [Z2.out]; exact decide_eq_false hz)
              have hvv : v = false := by rw [HV.out, D1.out, D2.out, V1.out, Q0.out, Q1.out, Q2.out]; rfl
              subst hvv
              have hz2 : ¬ (z : Int) = 0 := by omega
              go_wp2
              go_ret
              exact ⟨rfl, B4⟩
          · have Q1 : Hid (decide (0 < sumD (px L) (py L) n (List.range n)) = false) := Lib.hid (by rw [Z1.out]; exact decide_eq_false hz)
            have hvv : v = false := by rw [HV.out, D1.out, D2.out, V1.out, Q0.out, Q1.out]; rfl
            subst hvv
            skip
            go_wp2
            go_ret
            exact ⟨rfl, B3⟩
        · have Q0 : Hid (decide (firstS (px L) (py L) n < 0) = false) := Lib.hid (by rw [Z0.out]; exact decide_eq_false hz)
          have hvv : v = false := by rw [HV.out, D1.out, D2.out, V1.out, Q0.out]; rfl
          subst hvv
          skip
          go_wp2
          go_ret
          exact ⟨rfl, B2⟩
    · have i3 : (3 : Int) ≤ (n : Int) := by omega
      have i24 : ¬ (n : Int) ≤ 24 := by omega
      have hvv : v = false := by rw [HV.out, decide_eq_false h24]; simp
      subst hvv
      clear hp
      go_enter Tryz.func45, Tryz.ntmps45
      go_wp2
      go_ret
      exact ⟨rfl, Below.refl _ _⟩
  · have i3 : ¬ (3 : Int) ≤ (n : Int) := by omega
    have hvv : v = false := by rw [HV.out, decide_eq_false h3]; simp
    subst hvv
    clear hp
    go_enter Tryz.func45, Tryz.ntmps45
    go_wp2
    go_ret
    exact ⟨rfl, Below.refl _ _⟩

theorem validOutline_nil (w : World) : Calls Tryz.prog 45 #[.slice none 0 0] w fun e w' => e = .returned (.bool (vOut [])) ∧ Below w.heap.size w w' := by
  go_enter Tryz.func45, Tryz.ntmps45
  go_wp2
  go_ret
  exact ⟨rfl, Below.refl _ _⟩

end Go.Proofs.YtiommdfelnkibaaGreat

/- Walks: the reference's points, at, less. -/
namespace Go.Proofs.YtiommdfelnkibaaGreat
open Go Go.RowKit Go.Proofs

set_option maxHeartbeats 1000000 in
theorem refPoints_any (xs ys : Nat → Int) (b off n cap : Nat) (w : World) (hn : n ≤ 9223372036854775807) (hc : ∀ k, k < n → w.cell? ⟨b, off + k * 2, none⟩ = some (.int .i64 (xs k)) ∧ w.cell? ⟨b, off + k * 2 + 1, none⟩ = some (.int .i64 (ys k))) :
    Calls Tryz.prog 60 #[.slice (some ⟨b, off, none⟩) n cap] w fun e w' => e = .returned (.bool (allValid xs ys n)) ∧ Below w.heap.size w w' := by
  go_enter Tryz.func60, Tryz.ntmps60
  go_wp2_with fail
  go_loopw [3] (fun i wr => ∃ k : Nat, k ≤ n ∧ i = .int .i64 k ∧ Below w.heap.size w wr ∧ allValid xs ys k = true) (fun i _ => n - (intOf i).toNat)
  case atStart => exact ⟨0, Nat.zero_le _, rfl, Below.refl _ _, rfl⟩
  case round =>
    obtain ⟨k, hk, rfl, hbel, hall⟩ := hrel
    have hx : k < n → wr.cell? ⟨b, off + k * 2, none⟩ = some (.int .i64 (xs k)) := fun h => (hbel.cell (lt_of_cell (hc k h).1)).trans (hc k h).1
    have hy : k < n → wr.cell? ⟨b, off + k * 2 + 1, none⟩ = some (.int .i64 (ys k)) := fun h => (hbel.cell (lt_of_cell (hc k h).2)).trans (hc k h).2
    clear hc
    go_wp2_with (first
      | (go_at_call 110; refine (refValid_any _ _ _).mono ?_; rintro e w1 ⟨rfl, hb⟩))
    · have hk' : k < n := by assumption
      have hv : (!valid (xs k) (ys k)) = true := by assumption
      go_ret
      refine ⟨?_, keep_below hbel hb⟩
      rw [allValid_false hk' (by simpa using hv)]
      rfl
    · have hk' : k < n := by assumption
      have hv : (!valid (xs k) (ys k)) = false := by assumption
      refine ⟨⟨k + 1, hk', by simp, keep_below hbel hb, ?_⟩, by simp [intOf]; omega⟩
      rw [allValid_succ, hall]
      simpa using hv
    · have hk' : ¬ k < n := by assumption
      go_ret
      refine ⟨?_, hbel⟩
      have : k = n := by omega
      subst this
      rw [hall]
      rfl

/-- The number of a corner, modulo their number. -/
def atN (n : Nat) (i : Int) : Nat := (i % (n : Int)).toNat

theorem atN_lt {n : Nat} {i : Int} (h : 0 < n) : atN n i < n := by
  unfold atN
  have := Int.emod_nonneg i (show (n : Int) ≠ 0 by omega)
  have := Int.emod_lt_of_pos i (show (0 : Int) < n by omega)
  omega

theorem at_tmod {n : Nat} {i : Int} (h : 0 < n) : (i.tmod n + n).tmod n = (atN n i : Int) := by
  have h1 := Int.emod_nonneg i (show (n : Int) ≠ 0 by omega)
  have h3 := Int.lt_tmod_of_pos i (show (0 : Int) < n by omega)
  rw [Int.tmod_eq_emod_of_nonneg (by omega)]
  unfold atN
  rw [Int.toNat_of_nonneg h1, Int.add_emod_right]
  have := Int.tmod_def i n
  rw [this, Int.sub_mul_emod_self_left]

set_option maxRecDepth 100000 in
set_option maxHeartbeats 1000000 in
theorem at_any (b off len cap : Nat) (xs ys : Nat → Int) (hlen : len ≤ 1000000) (hpos : 0 < len) (i : Int) (w : World)
    (hc : ∀ k, k < len → w.cell? ⟨b, off + k * 2, none⟩ = some (.int .i64 (xs k)) ∧ w.cell? ⟨b, off + k * 2 + 1, none⟩ = some (.int .i64 (ys k))) :
    Calls Tryz.prog 65 #[.slice (some ⟨b, off, none⟩) len cap, .int .i64 i] w fun e w' => e = .returned (pt (xs (atN len i)) (ys (atN len i))) ∧ Below w.heap.size w w' := by
  have T0 := at_tmod (n := len) (i := i) hpos
  have L0 := atN_lt (n := len) (i := i) hpos
  obtain ⟨q, hq⟩ : ∃ q, atN len i = q := ⟨_, rfl⟩
  rw [hq] at T0 L0 ⊢
  have h3 := Int.lt_tmod_of_pos i (show (0 : Int) < len by omega)
  have h4 := Int.tmod_lt_of_pos i (show (0 : Int) < len by omega)
  obtain ⟨r, hr⟩ : ∃ r, i.tmod len = r := ⟨_, rfl⟩
  rw [hr] at T0 h3 h4
  have T1 : (r + len) % (len : Int) = q := by rw [← T0, Int.tmod_eq_emod_of_nonneg (by omega)]
  have j1 : (q : Int) < (len : Int) := by omega
  have a0 := keep_cell2 ((Below.refl w.heap.size w).alloc (Nat.le_refl _) (ptObj 0 0)) (hc q L0).1
  have a1 := keep_cell2 ((Below.refl w.heap.size w).alloc (Nat.le_refl _) (ptObj 0 0)) (hc q L0).2
  have hl0 : ¬ len = 0 := by omega
  clear hq hc
  go_enter Tryz.func65, Tryz.ntmps65
  go_wp2
  refine bodyPost_ret (v := pt (xs q) (ys q)) ?_ rfl ⟨rfl, (Below.refl _ _).alloc (Nat.le_refl _) _⟩
  have n1 := pt_new w (xs q) (ys q)
  simp [results, go_sem, n1.1, n1.2]

/-- Less: by x, then by y. -/
def lessS (ax ay bx b_y : Int) : Bool := decide (ax < bx) || (decide (ax = bx) && decide (ay < b_y))

set_option maxRecDepth 100000 in
set_option maxHeartbeats 1000000 in
theorem less_any (ax ay bx b_y : Int) (w : World) :
    Calls Tryz.prog 63 #[pt ax ay, pt bx b_y] w fun e w' => e = .returned (.bool (lessS ax ay bx b_y)) ∧ Below w.heap.size w w' := by
  obtain ⟨v, hv⟩ : ∃ v, lessS ax ay bx b_y = v := ⟨_, rfl⟩
  rw [hv]
  have HV := Lib.hid hv
  clear hv
  go_enter Tryz.func63, Tryz.ntmps63
  by_cases h1 : ax < bx
  · go_wp2
    all_goals
      go_ret
      refine ⟨?_, ((Below.refl _ _).alloc (by simp) _).alloc (by simp) _⟩
      rw [← HV.out]
      unfold lessS
      simp [*]
  · by_cases h2 : ax = bx
    · go_wp2
      all_goals
        go_ret
        refine ⟨?_, ((Below.refl _ _).alloc (by simp) _).alloc (by simp) _⟩
        rw [← HV.out]
        unfold lessS
        simp [*]
    · go_wp2
      all_goals
        go_ret
        refine ⟨?_, ((Below.refl _ _).alloc (by simp) _).alloc (by simp) _⟩
        rw [← HV.out]
        unfold lessS
        simp [*]

end Go.Proofs.YtiommdfelnkibaaGreat

/- Walks: the reference's sum. -/
namespace Go.Proofs.YtiommdfelnkibaaGreat
open Go Go.RowKit Go.Proofs

theorem at_from {b off len cap : Nat} {xs ys : Nat → Int} (hlen : len ≤ 1000000) {w0 : World}
    (hc : Hid (∀ k, k < len → w0.cell? ⟨b, off + k * 2, none⟩ = some (.int .i64 (xs k)) ∧ w0.cell? ⟨b, off + k * 2 + 1, none⟩ = some (.int .i64 (ys k))))
    (i : Int) (q : Nat) (x y : Int) (hq : Hid (0 < len ∧ atN len i = q ∧ xs q = x ∧ ys q = y)) (w : World) (hb : Below w0.heap.size w0 w) :
    Calls Tryz.prog 65 #[.slice (some ⟨b, off, none⟩) len cap, .int .i64 i] w fun e w' => e = .returned (pt x y) ∧ Below w.heap.size w w' := by
  obtain ⟨h0, rfl, rfl, rfl⟩ := hq.out
  exact at_any b off len cap xs ys hlen h0 i w (fun k hk => ⟨keep_cell2 hb (hc.out k hk).1, keep_cell2 hb (hc.out k hk).2⟩)

theorem atN_nat {len k : Nat} (h : k < len) : atN len (k : Int) = k := by
  unfold atN
  rw [Int.emod_eq_of_lt (by omega) (by omega)]
  simp

theorem atN_succ {len k : Nat} (_h : k < len) : atN len ((k : Int) + 1) = (k + 1) % len := by
  unfold atN
  have : ((k : Int) + 1) % (len : Int) = ((k + 1) % len : Nat) := by rw [Int.natCast_emod]; congr 1
  rw [this, Int.toNat_natCast]

theorem atN_pred {len k : Nat} (h : k < len) : atN len ((k : Int) - 1) = (k + len - 1) % len := by
  unfold atN
  have : ((k : Int) - 1) % (len : Int) = ((k + len - 1) % len : Nat) := by
    rw [Int.natCast_emod, ← Int.add_emod_right]
    congr 1
    omega
  rw [this, Int.toNat_natCast]

set_option maxRecDepth 100000 in
set_option maxHeartbeats 2000000 in
theorem sum_any (b off len cap : Nat) (xs ys : Nat → Int) (hlen : len ≤ 1000000) (hsm : ∀ k, Small (xs k) ∧ Small (ys k)) (w : World)
    (hc : ∀ k, k < len → w.cell? ⟨b, off + k * 2, none⟩ = some (.int .i64 (xs k)) ∧ w.cell? ⟨b, off + k * 2 + 1, none⟩ = some (.int .i64 (ys k))) :
    Calls Tryz.prog 62 #[.slice (some ⟨b, off, none⟩) len cap] w fun e w' => e = .returned (.int .i64 (sumD xs ys len (List.range len))) ∧ Below w.heap.size w w' := by
  have HC := Lib.hid hc
  clear hc
  go_enter Tryz.func62, Tryz.ntmps62
  go_wp2_with fail
  go_loopw [3, 4] (fun s i wr => ∃ k : Nat, k ≤ len ∧ i = .int .i64 k ∧ s = .int .i64 (sumD xs ys len (List.range k)) ∧ Below w.heap.size w wr) (fun _ i _ => len - (intOf i).toNat)
  case atStart => exact ⟨0, Nat.zero_le _, rfl, rfl, Below.refl _ _⟩
  case round =>
    obtain ⟨k, hk, rfl, rfl, hbel⟩ := hrel
    by_cases hlt : k < len
    · have j1 : (k : Int) < (len : Int) := by omega
      have E := sum_step hsm len k (List.range k) (by simp; omega)
      obtain ⟨x0, hx0⟩ : ∃ x, xs k = x := ⟨_, rfl⟩
      obtain ⟨y0, hy0⟩ : ∃ y, ys k = y := ⟨_, rfl⟩
      obtain ⟨x1, hx1⟩ : ∃ x, xs ((k + 1) % len) = x := ⟨_, rfl⟩
      obtain ⟨y1, hy1⟩ : ∃ y, ys ((k + 1) % len) = y := ⟨_, rfl⟩
      rw [hx0, hy0, hx1, hy1] at E
      rw [show List.range k ++ [k] = List.range (k + 1) from List.range_succ.symm] at E
      have A0 := at_from (cap := cap) hlen HC (k : Int) k x0 y0 (Lib.hid ⟨by omega, atN_nat hlt, hx0, hy0⟩)
      have A1 := at_from (cap := cap) hlen HC ((k : Int) + 1) ((k + 1) % len) x1 y1 (Lib.hid ⟨by omega, atN_succ hlt, hx1, hy1⟩)
      clear hx0 hy0 hx1 hy1
      obtain ⟨s, hs⟩ : ∃ s, sumD xs ys len (List.range k) = s := ⟨_, rfl⟩
      rw [hs] at E ⊢
      obtain ⟨t, ht⟩ : ∃ t, sumD xs ys len (List.range (k + 1)) = t := ⟨_, rfl⟩
      rw [ht] at E
      have E' := Lib.hid E
      have HT := Lib.hid ht
      clear E hs ht hsm
      go_wp2_with fail
      refine (A0 _ hbel).mono ?_
      rintro e w1 ⟨rfl, hb⟩
      have b1 := keep_below hbel hb
      clear hb
      go_wp2_with fail
      have n0 := pt_new w1 x0 y0
      have b2 := b1.alloc b1.size (ptObj x0 y0)
      refine (A1 _ b2).mono ?_
      rintro e w2 ⟨rfl, hb⟩
      have k0 := keep_cell hb n0.1
      have k1 := keep_cell hb n0.2
      have b3 := keep_below b2 hb
      clear hb n0 A0 A1
      have m0 := pt_old w2 (ptObj x1 y1) k0
      have m1 := pt_old w2 (ptObj x1 y1) k1
      have b4 := b3.alloc b3.size (ptObj x1 y1)
      go_wp2
      refine ⟨⟨k + 1, by omega, by simp, ?_, b4⟩, by simp [intOf]; omega⟩
      rw [HT.out, ← E'.out]
    · obtain rfl : k = len := by omega
      go_wp2
      go_ret
      exact ⟨rfl, hbel⟩

end Go.Proofs.YtiommdfelnkibaaGreat

/- How two segments meet: it does not depend on their order, nor on that of the ends of one. -/
namespace Go.Proofs.YtiommdfelnkibaaGreat
open Go Go.RowKit Go.Proofs

def val : Option (Int × Int × Int) → Int
  | none => 3
  | some (f, _, _) => f

theorem meetS_val (ax ay bx b_y cx cy dx dy : Int) : meetS ax ay bx b_y cx cy dx dy =
    if (parted ax ay bx b_y cx cy dx dy && parted cx cy dx dy ax ay bx b_y) = true then 2 else val ((items ax ay bx b_y cx cy dx dy).foldl scanStep (some (0, 0, 0))) := by
  unfold meetS
  have : scanUpto (items ax ay bx b_y cx cy dx dy) 4 = (items ax ay bx b_y cx cy dx dy).foldl scanStep (some (0, 0, 0)) := rfl
  rw [this]
  split <;> (try rfl)

end Go.Proofs.YtiommdfelnkibaaGreat

/- The ends that two segments have in common: plain lists. -/
namespace Go.Proofs.YtiommdfelnkibaaGreat
open Go Go.RowKit Go.Proofs

/-- The ends that both segments have, up to the k-th, each once. -/
def comStep (l : List (Int × Int)) (x : Bool × Int × Int) : List (Int × Int) := if x.1 then (if l.contains x.2 then l else l ++ [x.2]) else l
def comUpto (l : List (Bool × Int × Int)) (k : Nat) : List (Int × Int) := (l.take k).foldl comStep []

theorem comUpto_succ {l : List (Bool × Int × Int)} {k : Nat} {x : Bool × Int × Int} (h : l[k]? = some x) : comUpto l (k + 1) = comStep (comUpto l k) x := by
  unfold comUpto
  rw [List.take_add_one, h, List.foldl_append]
  rfl

theorem comStep_old {L : List (Int × Int)} {x y : Int} (h : L.contains (x, y) = true) : comStep L (true && true, x, y) = L := by
  show (if L.contains (x, y) = true then L else L ++ [(x, y)]) = L
  rw [if_pos h]

theorem comStep_new {L : List (Int × Int)} {x y : Int} (h : L.contains (x, y) = false) : comStep L (true && true, x, y) = L ++ [(x, y)] := by
  show (if L.contains (x, y) = true then L else L ++ [(x, y)]) = L ++ [(x, y)]
  rw [if_neg (by rw [h]; simp)]

/-- The four ends: whether both segments have each. -/
def both (ax ay bx b_y cx cy dx dy : Int) : List (Bool × Int × Int) :=
  [(onSeg ax ay ax ay bx b_y && onSeg ax ay cx cy dx dy, ax, ay), (onSeg bx b_y ax ay bx b_y && onSeg bx b_y cx cy dx dy, bx, b_y), (onSeg cx cy ax ay bx b_y && onSeg cx cy cx cy dx dy, cx, cy), (onSeg dx dy ax ay bx b_y && onSeg dx dy cx cy dx dy, dx, dy)]

theorem onSeg_head (ax ay bx b_y : Int) : onSeg ax ay ax ay bx b_y = true := by
  unfold onSeg cross
  simp only [Int.sub_self, Int.mul_zero, decide_true, Bool.true_and, Bool.and_eq_true, decide_eq_true_eq]
  omega

theorem onSeg_last (ax ay bx b_y : Int) : onSeg bx b_y ax ay bx b_y = true := by
  unfold onSeg cross
  rw [Int.mul_comm (b_y - ay) (bx - ax)]
  simp only [Int.sub_self, decide_true, Bool.true_and, Bool.and_eq_true, decide_eq_true_eq]
  omega

theorem both_items (ax ay bx b_y cx cy dx dy : Int) : both ax ay bx b_y cx cy dx dy = items ax ay bx b_y cx cy dx dy := by
  unfold both items
  rw [onSeg_head, onSeg_last, onSeg_head, onSeg_last]
  simp

theorem compare_zero (x : Int) (h : x = 0) : Lib.compareInt x 0 = 0 := by subst h; rfl

theorem parted_off {ax ay bx b_y cx cy dx dy : Int} (h : parted ax ay bx b_y cx cy dx dy = true) : onSeg cx cy ax ay bx b_y = false ∧ onSeg dx dy ax ay bx b_y = false := by
  unfold parted at h
  simp only [decide_eq_true_eq] at h
  constructor
  · unfold onSeg
    by_cases e : cross ax ay bx b_y cx cy = 0
    · rw [compare_zero _ e] at h; simp at h
    · simp [e]
  · unfold onSeg
    by_cases e : cross ax ay bx b_y dx dy = 0
    · rw [compare_zero _ e] at h; simp at h
    · simp [e]

theorem com_scan (f0 f1 f2 f3 : Bool) (x0 y0 x1 y1 x2 y2 x3 y3 : Int) :
    val ([(f0, x0, y0), (f1, x1, y1), (f2, x2, y2), (f3, x3, y3)].foldl scanStep (some (0, 0, 0))) =
      if 2 ≤ ([(f0, x0, y0), (f1, x1, y1), (f2, x2, y2), (f3, x3, y3)].foldl comStep []).length then 3
      else if ([(f0, x0, y0), (f1, x1, y1), (f2, x2, y2), (f3, x3, y3)].foldl comStep []).length = 1 then 1 else 0 := by
  cases f0 <;> cases f1 <;> cases f2 <;> cases f3 <;> simp [List.foldl, scanStep, val, comStep] <;> grind [scanStep, val, comStep]

theorem meetS_com (ax ay bx b_y cx cy dx dy : Int) : meetS ax ay bx b_y cx cy dx dy =
    if 2 ≤ (comUpto (both ax ay bx b_y cx cy dx dy) 4).length then 3
    else if (comUpto (both ax ay bx b_y cx cy dx dy) 4).length = 1 then 1
    else if (parted ax ay bx b_y cx cy dx dy && parted cx cy dx dy ax ay bx b_y) = true then 2 else 0 := by
  have e : comUpto (both ax ay bx b_y cx cy dx dy) 4 = (items ax ay bx b_y cx cy dx dy).foldl comStep [] := by rw [both_items]; rfl
  rw [e, meetS_val]
  cases hp : (parted ax ay bx b_y cx cy dx dy && parted cx cy dx dy ax ay bx b_y)
  · simp only [Bool.false_eq_true, if_false]
    unfold items
    exact com_scan _ _ _ _ _ _ _ _ _ _ _ _
  · simp only [if_true]
    simp only [Bool.and_eq_true] at hp
    obtain ⟨o1, o2⟩ := parted_off hp.1
    obtain ⟨o3, o4⟩ := parted_off hp.2
    unfold items
    rw [o1, o2, o3, o4]
    rfl

end Go.Proofs.YtiommdfelnkibaaGreat

/- Walks: the reference's On. -/
namespace Go.Proofs.YtiommdfelnkibaaGreat
open Go Go.RowKit Go.Proofs

set_option maxHeartbeats 1000000 in
theorem refOn_any (ax ay bx b_y px py : Int) (w : World) (h1 : Small ax) (h2 : Small ay) (h3 : Small bx) (h4 : Small b_y) (h5 : Small px) (h6 : Small py) :
    Calls Tryz.prog 152 #[pt ax ay, pt bx b_y, pt px py] w fun e w' => e = .returned (.bool (onSeg px py ax ay bx b_y)) ∧ Below w.heap.size w w' := by
  obtain ⟨v, hv⟩ : ∃ v, onSeg px py ax ay bx b_y = v := ⟨_, rfl⟩
  rw [hv]
  go_enter Tryz.func152, Tryz.ntmps152
  go_wp2_with (first
      | (go_at_call 64; refine (refCross_any _ _ _ _ _ _ _ (by assumption) (by assumption) (by assumption) (by assumption) (by assumption) (by assumption)).mono ?_; rintro e w' ⟨rfl, hb⟩
         obtain ⟨b0, c0, c1, c2, c3, c4, c5⟩ := pts3 w ax ay bx b_y px py
         have k0 := keep_cell hb c0
         have k1 := keep_cell hb c1
         have k2 := keep_cell hb c2
         have k3 := keep_cell hb c3
         have k4 := keep_cell hb c4
         have k5 := keep_cell hb c5
         have kb := keep_below b0 hb
         clear c0 c1 c2 c3 c4 c5 b0 hb))
  all_goals go_ret
  all_goals refine ⟨?_, by assumption⟩
  all_goals (subst hv; refine congrArg (fun x => Ending.returned (Value.bool x)) ?_)
  all_goals (show _ = onSeg px py ax ay bx b_y)
  all_goals (unfold onSeg; rw [Bool.eq_iff_iff])
  all_goals simp only [Bool.and_eq_true, decide_eq_true_eq, Bool.false_eq_true, false_iff]
  all_goals omega

end Go.Proofs.YtiommdfelnkibaaGreat
