/- The abstract machine, part GrLG. -/
import Derived.Test.YtkmcboincjohlaaGreatGrLF
import Derived.Test.YtkmcboincjohlaaGreatW4
/- Walks: simple. -/
namespace Go.Proofs.YtkmcboincjohlaaGreat
open Go Go.RowKit Go.Proofs

def wantS (n i k : Nat) : Int := if k = i + 1 ∨ (i = 0 ∧ k = n - 1) then 1 else 0
def meetK (xs ys : Nat → Int) (n i k : Nat) : Int := meetS (xs i) (ys i) (xs (i + 1)) (ys (i + 1)) (xs k) (ys k) (xs ((k + 1) % n)) (ys ((k + 1) % n))
def simpleS (xs ys : Nat → Int) (n : Nat) : Bool := decide (∀ k, k < n → ∀ i, i < k → meetK xs ys n i k = wantS n i k)

theorem want_bool {n i k : Nat} (h : 0 < n) : wantS n i k = if (((k : Int) == (i : Int) + 1) || (((i : Int) == 0) && ((k : Int) == (n : Int) - 1))) = true then 1 else 0 := by
  unfold wantS
  congr 1
  simp only [Bool.or_eq_true, Bool.and_eq_true, beq_iff_eq, eq_iff_iff]
  omega

set_option maxRecDepth 100000 in
set_option maxHeartbeats 4000000 in
theorem simple_any (b off len cap : Nat) (xs ys : Nat → Int) (hlen : len ≤ 1000000) (hsm : ∀ k, Small (xs k) ∧ Small (ys k)) (w : World)
    (hc : ∀ k, k < len → w.cell? ⟨b, off + k * 2, none⟩ = some (.int .i64 (xs k)) ∧ w.cell? ⟨b, off + k * 2 + 1, none⟩ = some (.int .i64 (ys k))) :
    Calls Tryz.prog 49 #[.slice (some ⟨b, off, none⟩) len cap] w fun e w' => e = .returned (.bool (simpleS xs ys len)) ∧ Below w.heap.size w w' := by
  go_enter Tryz.func49, Tryz.ntmps49
  go_wp2_with fail
  go_loopw [11] (fun i wr => ∃ k : Nat, k ≤ len ∧ i = .int .i64 k ∧ Below w.heap.size w wr ∧ ∀ i, i < k → ∀ k', i < k' → k' < len → meetK xs ys len i k' = wantS len i k') (fun i _ => len - (intOf i).toNat)
  case atStart => exact ⟨0, Nat.zero_le _, rfl, Below.refl _ _, by simp⟩
  case round =>
    obtain ⟨i, hi, rfl, hbel, hall⟩ := hrel
    have HA := Lib.hid hall
    clear hall
    by_cases hlt : i < len
    · have j1 : (i : Int) < (len : Int) := by omega
      go_wp2_with fail
      go_loopw [5] (fun k wi => ∃ k' : Nat, i + 1 ≤ k' ∧ k' ≤ len ∧ k = .int .i64 k' ∧ Below w.heap.size w wi ∧ ∀ k, i < k → k < k' → meetK xs ys len i k = wantS len i k) (fun k _ => len - (intOf k).toNat)
      case atStart => exact ⟨i + 1, Nat.le_refl _, by omega, by simp, hbel, by omega⟩
      case round =>
        obtain ⟨k, hk1, hk2, rfl, hbel2, hin⟩ := hrel
        have HI := Lib.hid hin
        clear hin hbel
        by_cases hkl : k < len
        · have j2 : (k : Int) < (len : Int) := by omega
          have j3 : (i : Int) + 1 < (len : Int) := by omega
          obtain ⟨q, hq⟩ : ∃ q, (k + 1) % len = q := ⟨_, rfl⟩
          have hql : q < len := by rw [← hq]; exact Nat.mod_lt _ (by omega)
          have j4 : (q : Int) < (len : Int) := by omega
          have T1 := Lib.hid (show ((k : Int) + 1).tmod len = (q : Int) by rw [Int.tmod_eq_emod_of_nonneg (by omega), ← hq, Int.natCast_emod]; congr 1)
          have T2 := Lib.hid (show ((k : Int) + 1) % len = (q : Int) by rw [← hq, Int.natCast_emod]; congr 1)
          have a0 := keep_cell2 hbel2 (hc i hlt).1
          have a1 := keep_cell2 hbel2 (hc i hlt).2
          have b0 := keep_cell2 hbel2 (hc (i + 1) (by omega)).1
          have b1 := keep_cell2 hbel2 (hc (i + 1) (by omega)).2
          have c0 := keep_cell2 hbel2 (hc k hkl).1
          have c1 := keep_cell2 hbel2 (hc k hkl).2
          have d0 := keep_cell2 hbel2 (hc q hql).1
          have d1 := keep_cell2 hbel2 (hc q hql).2
          obtain ⟨m, hm⟩ : ∃ m, meetK xs ys len i k = m := ⟨_, rfl⟩
          have M := fun w => meet_any (xs i) (ys i) (xs (i + 1)) (ys (i + 1)) (xs k) (ys k) (xs q) (ys q) w (hsm _).1 (hsm _).2 (hsm _).1 (hsm _).2 (hsm _).1 (hsm _).2 (hsm _).1 (hsm _).2
          rw [show meetS (xs i) (ys i) (xs (i + 1)) (ys (i + 1)) (xs k) (ys k) (xs q) (ys q) = m by rw [← hm, ← hq]; rfl] at M
          have HM := Lib.hid hm
          obtain ⟨wt, hwt⟩ : ∃ wt, wantS len i k = wt := ⟨_, rfl⟩
          have HW := Lib.hid hwt
          have HW3 := Lib.hid hwt
          have hl0 : ¬ len = 0 := by omega
          clear hq hm hc hsm hwt
          obtain ⟨β1, e1⟩ : ∃ β, ((k : Int) == (i : Int) + 1) = β := ⟨_, rfl⟩
          obtain ⟨β2, e2⟩ : ∃ β, ((i : Int) == 0) = β := ⟨_, rfl⟩
          obtain ⟨β3, e3⟩ : ∃ β, ((k : Int) == (len : Int) - 1) = β := ⟨_, rfl⟩
          have HW2 : Hid (wt = if (β1 || (β2 && β3)) = true then 1 else 0) := by
            refine Lib.hid ?_
            rw [← HW.out, ← e1, ← e2, ← e3]
            exact want_bool (by omega)
          clear HW
          cases β1 <;> cases β2 <;> cases β3
          all_goals
            go_wp2_with fail
            have T3 := T1.out
            have T4 := T2.out
            have G0 := grow_cell a0
            have G1 := grow_cell a1
            have G2 := grow_cell b0
            have G3 := grow_cell b1
            have G4 := grow_cell c0
            have G5 := grow_cell c1
            have G6 := grow_cell d0
            have G7 := grow_cell d1
            refine wp_region_grow (by kernel_rfl) (by kernel_rfl) ?_
            repeat (go_big_quiet_step ((go_at_call 91; with_reducible exact calls_grow (M _))))
            refine wpQuiet_nil ?_
            rintro w2 ⟨x, hx⟩
            have hb : Below wr.heap.size wr w2 := by rw [hx]; exact x.b
            clear hx x G0 G1 G2 G3 G4 G5 G6 G7 T3 T4
            have hbel3 := keep_below hbel2 hb
            clear hb
            have hfalse : m ≠ wt → simpleS xs ys len = false := fun h => decide_eq_false (fun hh => h (by rw [← HM.out, ← HW3.out]; exact hh k hkl i (by omega)))
            have hnext : m = wt → ∀ k', i < k' → k' < k + 1 → meetK xs ys len i k' = wantS len i k' := fun h k' h1 h2 => by
              rcases Nat.lt_or_ge k' k with h3 | h3
              · exact HI.out k' h1 h3
              · obtain rfl : k' = k := by omega
                rw [HM.out, HW3.out]; exact h
            have HF := Lib.hid hfalse
            have HN := Lib.hid hnext
            clear hfalse hnext
            by_cases hmw : m = wt
            · have HMW := Lib.hid hmw
              first
                | (obtain rfl : wt = 1 := HW2.out)
                | (obtain rfl : wt = 0 := HW2.out)
              go_wp2
              refine ⟨⟨k + 1, by omega, by omega, by simp, hbel3, HN.out HMW.out⟩, by simp [intOf]; omega⟩
            · have HMW := Lib.hid hmw
              first
                | (obtain rfl : wt = 1 := HW2.out)
                | (obtain rfl : wt = 0 := HW2.out)
              go_wp2
              go_ret
              refine ⟨?_, hbel3⟩
              rw [HF.out HMW.out]
              rfl
        · obtain rfl : k = len := by omega
          go_wp2
          refine ⟨⟨i + 1, by omega, by simp, hbel2, fun i' hi' k' h1 h2 => ?_⟩, by simp [intOf]; omega⟩
          rcases Nat.lt_or_ge i' i with h | h
          · exact HA.out i' h k' h1 h2
          · obtain rfl : i' = i := by omega
            exact HI.out k' h1 h2
    · obtain rfl : i = len := by omega
      go_wp2
      go_ret
      refine ⟨?_, hbel⟩
      rw [show simpleS xs ys i = true from decide_eq_true (fun k hk i' hi' => HA.out i' (by omega) k hi' hk)]
      rfl

end Go.Proofs.YtkmcboincjohlaaGreat

/- Walks: ValidOutline. -/
namespace Go.Proofs.YtkmcboincjohlaaGreat
open Go Go.RowKit Go.Proofs

def px (L : List (Int × Int)) (k : Nat) : Int := (L.getD k (0, 0)).1
def py (L : List (Int × Int)) (k : Nat) : Int := (L.getD k (0, 0)).2

/-- The points of L lie in block b from offset off on. -/
def PtsAt (w : World) (b off : Nat) (L : List (Int × Int)) : Prop := ∀ k, k < L.length → w.cell? ⟨b, off + k * 2, none⟩ = some (.int .i64 (px L k)) ∧ w.cell? ⟨b, off + k * 2 + 1, none⟩ = some (.int .i64 (py L k))

theorem PtsAt.keep {w w' : World} {b off : Nat} {L : List (Int × Int)} (h : PtsAt w b off L) (hb : Below w.heap.size w w') : PtsAt w' b off L := fun k hk => ⟨keep_cell hb (h k hk).1, keep_cell hb (h k hk).2⟩

theorem PtsAt.lt {w : World} {b off : Nat} {L : List (Int × Int)} (h : PtsAt w b off L) (hn : 0 < L.length) : b < w.heap.size := lt_of_cell (h 0 hn).1

/-- All points lie on the grid. -/
def vPts (L : List (Int × Int)) : Bool := allValid (px L) (py L) L.length

/-- Is the list an outline? -/
def vOut (L : List (Int × Int)) : Bool :=
  decide (3 ≤ L.length) && (decide (L.length ≤ 24) && (vPts L && (decide (firstS (px L) (py L) L.length < 0) && (decide (0 < sumD (px L) (py L) L.length (List.range L.length)) && (decide (leastK (px L) (py L) L.length = 0) && simpleS (px L) (py L) L.length)))))

theorem vPts_small {L : List (Int × Int)} (h : vPts L = true) : ∀ k, Small (px L k) ∧ Small (py L k) := by
  intro k
  by_cases hk : k < L.length
  · unfold vPts allValid at h
    rw [List.all_eq_true] at h
    exact valid_small (h k (List.mem_range.2 hk))
  · have : L.getD k (0, 0) = (0, 0) := by simp [List.getD_eq_getElem?_getD, List.getElem?_eq_none (Nat.le_of_not_lt hk)]
    unfold px py Small
    rw [this]
    simp

theorem calls_wide_doubled (b off len cap : Nat) (xs ys : Nat → Int) (hlen : len ≤ 1000000) (hsm : ∀ k, Small (xs k) ∧ Small (ys k)) (w : World)
    (hc : ∀ k, k < len → w.cell? ⟨b, off + k * 2, none⟩ = some (.int .i64 (xs k)) ∧ w.cell? ⟨b, off + k * 2 + 1, none⟩ = some (.int .i64 (ys k))) (hb : b < w.heap.size) :
    Calls Tryz.prog 47 #[.slice (some ⟨b, off, none⟩) len cap] w fun e w' => e = .returned (.int .i64 (sumD xs ys len (List.range len))) ∧ Below w.heap.size w w' :=
  (callsIn_wide (n := 6)).1 (doubled_in Fence.wide 6 trivial trivial trivial rfl (by omega) b off len cap xs ys hlen hsm w hc hb)

set_option maxRecDepth 100000 in
set_option maxHeartbeats 4000000 in
theorem validOutline_any (b off cap : Nat) (L : List (Int × Int)) (hn : L.length ≤ 9223372036854775807) (w : World) (hp : PtsAt w b off L) :
    Calls Tryz.prog 19 #[.slice (some ⟨b, off, none⟩) L.length cap] w fun e w' => e = .returned (.bool (vOut L)) ∧ Below w.heap.size w w' := by
  obtain ⟨v, hv⟩ : ∃ v, vOut L = v := ⟨_, rfl⟩
  rw [hv]
  have HV : Hid (v = (decide (3 ≤ L.length) && (decide (L.length ≤ 24) && (vPts L && (decide (firstS (px L) (py L) L.length < 0) && (decide (0 < sumD (px L) (py L) L.length (List.range L.length)) && (decide (leastK (px L) (py L) L.length = 0) && simpleS (px L) (py L) L.length))))))) := Lib.hid hv.symm
  clear hv
  obtain ⟨n, hnn⟩ : ∃ n, L.length = n := ⟨_, rfl⟩
  rw [hnn] at HV hn ⊢
  have HN := Lib.hid hnn
  clear hnn
  by_cases h3 : 3 ≤ n
  · by_cases h24 : n ≤ 24
    · have i3 : (3 : Int) ≤ (n : Int) := by omega
      have i24 : (n : Int) ≤ 24 := by omega
      have D1 := Lib.hid (decide_eq_true h3)
      have D2 := Lib.hid (decide_eq_true h24)
      have hb0 := Lib.hid hp
      clear hp
      go_enter Tryz.func19, Tryz.ntmps19
      go_wp2_with fail
      have V := validPoints_any (px L) (py L) b off n cap w hn (fun k hk => hb0.out k (by rw [HN.out]; exact hk))
      refine V.mono ?_
      clear V
      rintro e w1 ⟨rfl, hb⟩
      have P1 := Lib.hid (hb0.out.keep hb)
      have B1 := hb
      clear hb hb0
      obtain ⟨b1, hb1⟩ : ∃ b1, allValid (px L) (py L) n = b1 := ⟨_, rfl⟩
      rw [hb1]
      have V1 : Hid (vPts L = b1) := Lib.hid (by unfold vPts; rw [HN.out]; exact hb1)
      clear hb1
      cases b1
      · have hvv : v = false := by rw [HV.out, V1.out, D1.out, D2.out]; rfl
        subst hvv
        go_wp2
        go_ret
        exact ⟨rfl, B1⟩
      · have hsm := Lib.hid (vPts_small V1.out)
        go_wp2_with fail
        have C := first_any b off n cap (px L) (py L) (by omega) hsm.out w1 (fun k hk => P1.out k (by rw [HN.out]; exact hk)) (P1.out.lt (by rw [HN.out]; omega))
        obtain ⟨z, hz⟩ : ∃ z, firstS (px L) (py L) n = z := ⟨_, rfl⟩
        rw [hz] at C
        have Z0 := Lib.hid hz
        clear hz
        refine C.mono ?_
        clear C
        rintro e w2 ⟨rfl, hb⟩
        have P2 := Lib.hid (P1.out.keep hb)
        have B2 := B1.trans (hb.mono B1.size)
        clear hb P1
        by_cases hz : z < 0
        · have Q0 : Hid (decide (firstS (px L) (py L) n < 0) = true) := Lib.hid (by rw [Z0.out]; exact decide_eq_true hz)
          go_wp2_with fail
          have C := calls_wide_doubled b off n cap (px L) (py L) (by omega) hsm.out w2 (fun k hk => P2.out k (by rw [HN.out]; exact hk)) (P2.out.lt (by rw [HN.out]; omega))
          obtain ⟨z, hz⟩ : ∃ z, sumD (px L) (py L) n (List.range n) = z := ⟨_, rfl⟩
          rw [hz] at C
          have Z1 := Lib.hid hz
          clear hz
          refine C.mono ?_
          clear C
          rintro e w3 ⟨rfl, hb⟩
          have P3 := Lib.hid (P2.out.keep hb)
          have B3 := B2.trans (hb.mono B2.size)
          clear hb P2
          by_cases hz : 0 < z
          · have Q1 : Hid (decide (0 < sumD (px L) (py L) n (List.range n)) = true) := Lib.hid (by rw [Z1.out]; exact decide_eq_true hz)
            go_wp2_with fail
            have C := least_any b off n cap (px L) (py L) (by omega) (by omega) w3 (fun k hk => P3.out k (by rw [HN.out]; exact hk))
            obtain ⟨z, hz⟩ : ∃ z, leastK (px L) (py L) n = z := ⟨_, rfl⟩
            rw [hz] at C
            have Z2 := Lib.hid hz
            clear hz
            refine C.mono ?_
            clear C
            rintro e w4 ⟨rfl, hb⟩
            have P4 := Lib.hid (P3.out.keep hb)
            have B4 := B3.trans (hb.mono B3.size)
            clear hb P3
            by_cases hz : z = 0
            · have Q2 : Hid (decide (leastK (px L) (py L) n = 0) = true) := Lib.hid (by rw [Z2.out]; exact decide_eq_true hz)
              go_wp2_with fail
              have hvv : simpleS (px L) (py L) n = v := by rw [HV.out, D1.out, D2.out, V1.out, Q0.out, Q1.out, Q2.out]; simp
              have C := simple_any b off n cap (px L) (py L) (by omega) hsm.out w4 (fun k hk => P4.out k (by rw [HN.out]; exact hk))
              rw [hvv] at C
              refine C.mono ?_
              clear C
              rintro e w5 ⟨rfl, hb⟩
              go_wp2
              all_goals
                go_ret
                exact ⟨rfl, B4.trans (hb.mono B4.size)⟩
            · have Q2 : Hid (decide (leastK (px L) (py L) n = 0) = false) := Lib.hid (by rw [Z2.out]; exact decide_eq_false hz)
              have hvv : v = false := by rw [HV.out, D1.out, D2.out, V1.out, Q0.out, Q1.out, Q2.out]; rfl
              subst hvv
              have hz2 : ¬ (z : Int) = 0 := by omega
              go_wp2
              go_ret
              exact ⟨rfl, B4⟩
          · have Q1 : Hid (decide (0 < sumD (px L) (py L) n (List.range n)) = false) := Lib.hid (by rw [Z1.out]; exact decide_eq_false hz)
            have hvv : v = false := by rw [HV.out, D1.out, D2.out, V1.out, Q0.out, Q1.out]; rfl
            subst hvv
            skip
            go_wp2
            go_ret
            exact ⟨rfl, B3⟩
        · have Q0 : Hid (decide (firstS (px L) (py L) n < 0) = false) := Lib.hid (by rw [Z0.out]; exact decide_eq_false hz)
          have hvv : v = false := by rw [HV.out, D1.out, D2.out, V1.out, Q0.out]; rfl
          subst hvv
          skip
          go_wp2
          go_ret
          exact ⟨rfl, B2⟩
    · have i3 : (3 : Int) ≤ (n : Int) := by omega
      have i24 : ¬ (n : Int) ≤ 24 := by omega
      have hvv : v = false := by rw [HV.out, decide_eq_false h24]; simp
      subst hvv
      clear hp
      go_enter Tryz.func19, Tryz.ntmps19
      go_wp2
      go_ret
      exact ⟨rfl, Below.refl _ _⟩
  · have i3 : ¬ (3 : Int) ≤ (n : Int) := by omega
    have hvv : v = false := by rw [HV.out, decide_eq_false h3]; simp
    subst hvv
    clear hp
    go_enter Tryz.func19, Tryz.ntmps19
    go_wp2
    go_ret
    exact ⟨rfl, Below.refl _ _⟩

theorem validOutline_nil (w : World) : Calls Tryz.prog 19 #[.slice none 0 0] w fun e w' => e = .returned (.bool (vOut [])) ∧ Below w.heap.size w w' := by
  go_enter Tryz.func19, Tryz.ntmps19
  go_wp2
  go_ret
  exact ⟨rfl, Below.refl _ _⟩

end Go.Proofs.YtkmcboincjohlaaGreat

/- Walks: the reference's points, at, less. -/
namespace Go.Proofs.YtkmcboincjohlaaGreat
open Go Go.RowKit Go.Proofs

end Go.Proofs.YtkmcboincjohlaaGreat

/- Walks: the reference's sum. -/
namespace Go.Proofs.YtkmcboincjohlaaGreat
open Go Go.RowKit Go.Proofs

end Go.Proofs.YtkmcboincjohlaaGreat

/- How two segments meet: it does not depend on their order, nor on that of the ends of one. -/
namespace Go.Proofs.YtkmcboincjohlaaGreat
open Go Go.RowKit Go.Proofs

def val : Option (Int × Int × Int) → Int
  | none => 3
  | some (f, _, _) => f

def allV (ax ay bx b_y cx cy dx dy : Int) : Bool := valid ax ay && (valid bx b_y && (valid cx cy && valid dx dy))

theorem allV_small {ax ay bx b_y cx cy dx dy : Int} (h : allV ax ay bx b_y cx cy dx dy = true) : (Small ax ∧ Small ay) ∧ (Small bx ∧ Small b_y) ∧ (Small cx ∧ Small cy) ∧ (Small dx ∧ Small dy) := by
  simp only [allV, Bool.and_eq_true] at h
  exact ⟨valid_small h.1, valid_small h.2.1, valid_small h.2.2.1, valid_small h.2.2.2⟩

/-- What Meet returns: the value, the error. -/
def meetV (ax ay bx b_y cx cy dx dy : Int) : Int := if allV ax ay bx b_y cx cy dx dy = true then meetS ax ay bx b_y cx cy dx dy else 0
def meetE (ax ay bx b_y cx cy dx dy : Int) : Int := if allV ax ay bx b_y cx cy dx dy = true then 0 else 1

end Go.Proofs.YtkmcboincjohlaaGreat

/- The ends that two segments have in common: plain lists. -/
namespace Go.Proofs.YtkmcboincjohlaaGreat
open Go Go.RowKit Go.Proofs

/-- The four ends: whether both segments have each. -/
def both (ax ay bx b_y cx cy dx dy : Int) : List (Bool × Int × Int) :=
  [(onSeg ax ay ax ay bx b_y && onSeg ax ay cx cy dx dy, ax, ay), (onSeg bx b_y ax ay bx b_y && onSeg bx b_y cx cy dx dy, bx, b_y), (onSeg cx cy ax ay bx b_y && onSeg cx cy cx cy dx dy, cx, cy), (onSeg dx dy ax ay bx b_y && onSeg dx dy cx cy dx dy, dx, dy)]

end Go.Proofs.YtkmcboincjohlaaGreat

/- Walks: the reference's On. -/
namespace Go.Proofs.YtkmcboincjohlaaGreat
open Go Go.RowKit Go.Proofs

end Go.Proofs.YtkmcboincjohlaaGreat
