/- Walks: ValidOutline. -/
import Derived.Test.YtlocdadkhdcedaaK5
import Derived.Test.YtlocdadkhdcedaaWB
namespace Go.Proofs.Ytlocdadkhdcedaa
open Go Go.RowKit Go.Proofs

def px (L : List (Int × Int)) (k : Nat) : Int := (L.getD k (0, 0)).1
def py (L : List (Int × Int)) (k : Nat) : Int := (L.getD k (0, 0)).2

/-- The points of L lie in block b from offset off on. -/
def PtsAt (w : World) (b off : Nat) (L : List (Int × Int)) : Prop := ∀ k, k < L.length → w.cell? ⟨b, off + k * 2, none⟩ = some (.int .i64 (px L k)) ∧ w.cell? ⟨b, off + k * 2 + 1, none⟩ = some (.int .i64 (py L k))

theorem PtsAt.keep {w w' : World} {b off : Nat} {L : List (Int × Int)} (h : PtsAt w b off L) (hb : Below w.heap.size w w') : PtsAt w' b off L := fun k hk => ⟨keep_cell hb (h k hk).1, keep_cell hb (h k hk).2⟩

theorem PtsAt.lt {w : World} {b off : Nat} {L : List (Int × Int)} (h : PtsAt w b off L) (hn : 0 < L.length) : b < w.heap.size := lt_of_cell (h 0 hn).1

/-- All points lie on the grid. -/
def vPts (L : List (Int × Int)) : Bool := allValid (px L) (py L) L.length

/-- Is the list an outline? -/
def vOut (L : List (Int × Int)) : Bool :=
  decide (3 ≤ L.length) && (decide (L.length ≤ 24) && (vPts L && (decide (firstS (px L) (py L) L.length < 0) && (decide (0 < sumD (px L) (py L) L.length (List.range L.length)) && (decide (leastK (px L) (py L) L.length = 0) && simpleS (px L) (py L) L.length)))))

theorem vPts_small {L : List (Int × Int)} (h : vPts L = true) : ∀ k, Small (px L k) ∧ Small (py L k) := by
  intro k
  by_cases hk : k < L.length
  · unfold vPts allValid at h
    rw [List.all_eq_true] at h
    exact valid_small (h k (List.mem_range.2 hk))
  · have : L.getD k (0, 0) = (0, 0) := by simp [List.getD_eq_getElem?_getD, List.getElem?_eq_none (Nat.le_of_not_lt hk)]
    unfold px py Small
    rw [this]
    simp

theorem calls_wide_doubled (b off len cap : Nat) (xs ys : Nat → Int) (hlen : len ≤ 1000000) (hsm : ∀ k, Small (xs k) ∧ Small (ys k)) (w : World)
    (hc : ∀ k, k < len → w.cell? ⟨b, off + k * 2, none⟩ = some (.int .i64 (xs k)) ∧ w.cell? ⟨b, off + k * 2 + 1, none⟩ = some (.int .i64 (ys k))) (hb : b < w.heap.size) :
    Calls Try.prog 93 #[.slice (some ⟨b, off, none⟩) len cap] w fun e w' => e = .returned (.int .i64 (sumD xs ys len (List.range len))) ∧ Below w.heap.size w w' :=
  (callsIn_wide (n := 6)).1 (doubled_in Fence.wide 6 trivial trivial trivial rfl (by omega) b off len cap xs ys hlen hsm w hc hb)

set_option maxRecDepth 100000 in
set_option maxHeartbeats 4000000 in
theorem validOutline_any (b off cap : Nat) (L : List (Int × Int)) (hn : L.length ≤ 9223372036854775807) (w : World) (hp : PtsAt w b off L) :
    Calls Try.prog 29 #[.slice (some ⟨b, off, none⟩) L.length cap] w fun e w' => e = .returned (.bool (vOut L)) ∧ Below w.heap.size w w' := by
  obtain ⟨v, hv⟩ : ∃ v, vOut L = v := ⟨_, rfl⟩
  rw [hv]
  have HV : Hid (v = (decide (3 ≤ L.length) && (decide (L.length ≤ 24) && (vPts L && (decide (firstS (px L) (py L) L.length < 0) && (decide (0 < sumD (px L) (py L) L.length (List.range L.length)) && (decide (leastK (px L) (py L) L.length = 0) && simpleS (px L) (py L) L.length))))))) := Lib.hid hv.symm
  clear hv
  obtain ⟨n, hnn⟩ : ∃ n, L.length = n := ⟨_, rfl⟩
  rw [hnn] at HV hn ⊢
  have HN := Lib.hid hnn
  clear hnn
  by_cases h3 : 3 ≤ n
  · by_cases h24 : n ≤ 24
    · have i3 : (3 : Int) ≤ (n : Int) := by omega
      have i24 : (n : Int) ≤ 24 := by omega
      have D1 := Lib.hid (decide_eq_true h3)
      have D2 := Lib.hid (decide_eq_true h24)
      have hb0 := Lib.hid hp
      clear hp
      go_enter Try.func29, Try.ntmps29
      go_wp2_with fail
      have V := validPoints_any (px L) (py L) b off n cap w hn (fun k hk => hb0.out k (by rw [HN.out]; exact hk))
      refine V.mono ?_
      clear V
      rintro e w1 ⟨rfl, hb⟩
      have P1 := Lib.hid (hb0.out.keep hb)
      have B1 := hb
      clear hb hb0
      obtain ⟨b1, hb1⟩ : ∃ b1, allValid (px L) (py L) n = b1 := ⟨_, rfl⟩
      rw [hb1]
      have V1 : Hid (vPts L = b1) := Lib.hid (by unfold vPts; rw [HN.out]; exact hb1)
      clear hb1
      cases b1
      · have hvv : v = false := by rw [HV.out, V1.out, D1.out, D2.out]; rfl
        subst hvv
        go_wp2
        go_ret
        exact ⟨rfl, B1⟩
      · have hsm := Lib.hid (vPts_small V1.out)
        go_wp2_with fail
        have C := first_any b off n cap (px L) (py L) (by omega) hsm.out w1 (fun k hk => P1.out k (by rw [HN.out]; exact hk)) (P1.out.lt (by rw [HN.out]; omega))
        obtain ⟨z, hz⟩ : ∃ z, firstS (px L) (py L) n = z := ⟨_, rfl⟩
        rw [hz] at C
        have Z0 := Lib.hid hz
        clear hz
        refine C.mono ?_
        clear C
        rintro e w2 ⟨rfl, hb⟩
        have P2 := Lib.hid (P1.out.keep hb)
        have B2 := B1.trans (hb.mono B1.size)
        clear hb P1
        by_cases hz : z < 0
        · have Q0 : Hid (decide (firstS (px L) (py L) n < 0) = true) := Lib.hid (by rw [Z0.out]; exact decide_eq_true hz)
          go_wp2_with fail
          have C := calls_wide_doubled b off n cap (px L) (py L) (by omega) hsm.out w2 (fun k hk => P2.out k (by rw [HN.out]; exact hk)) (P2.out.lt (by rw [HN.out]; omega))
          obtain ⟨z, hz⟩ : ∃ z, sumD (px L) (py L) n (List.range n) = z := ⟨_, rfl⟩
          rw [hz] at C
          have Z1 := Lib.hid hz
          clear hz
          refine C.mono ?_
          clear C
          rintro e w3 ⟨rfl, hb⟩
          have P3 := Lib.hid (P2.out.keep hb)
          have B3 := B2.trans (hb.mono B2.size)
          clear hb P2
          by_cases hz : 0 < z
          · have Q1 : Hid (decide (0 < sumD (px L) (py L) n (List.range n)) = true) := Lib.hid (by rw [Z1.out]; exact decide_eq_true hz)
            go_wp2_with fail
            have C := least_any b off n cap (px L) (py L) (by omega) (by omega) w3 (fun k hk => P3.out k (by rw [HN.out]; exact hk))
            obtain ⟨z, hz⟩ : ∃ z, leastK (px L) (py L) n = z := ⟨_, rfl⟩
            rw [hz] at C
            have Z2 := Lib.hid hz
            clear hz
            refine C.mono ?_
            clear C
            rintro e w4 ⟨rfl, hb⟩
            have P4 := Lib.hid (P3.out.keep hb)
            have B4 := B3.trans (hb.mono B3.size)
            clear hb P3
            by_cases hz : z = 0
            · have Q2 : Hid (decide (leastK (px L) (py L) n = 0) = true) := Lib.hid (by rw [Z2.out]; exact decide_eq_true hz)
              go_wp2_with fail
              have hvv : simpleS (px L) (py L) n = v := by rw [HV.out, D1.out, D2.out, V1.out, Q0.out, Q1.out, Q2.out]; simp
              have C := simple_any b off n cap (px L) (py L) (by omega) hsm.out w4 (fun k hk => P4.out k (by rw [HN.out]; exact hk))
              rw [hvv] at C
              refine C.mono ?_
              clear C
              rintro e w5 ⟨rfl, hb⟩
              go_wp2
              all_goals
                go_ret
                exact ⟨rfl, B4.trans (hb.mono B4.size)⟩
            · have Q2 : Hid (decide (leastK (px L) (py L) n = 0) = false) := Lib.hid (by rw [Z2.out]; exact decide_eq_false hz)
              have hvv : v = false := by rw [HV.out, D1.out, D2.out, V1.out, Q0.out, Q1.out, Q2.out]; rfl
              subst hvv
              have hz2 : ¬ (z : Int) = 0 := by omega
              go_wp2
              go_ret
              exact ⟨rfl, B4⟩
          · have Q1 : Hid (decide (0 < sumD (px L) (py L) n (List.range n)) = false) := Lib.hid (by rw [Z1.out]; exact decide_eq_false hz)
            have hvv : v = false := by rw [HV.out, D1.out, D2.out, V1.out, Q0.out, Q1.out]; rfl
            subst hvv
            skip
            go_wp2
            go_ret
            exact ⟨rfl, B3⟩
        · have Q0 : Hid (decide (firstS (px L) (py L) n < 0) = false) := Lib.hid (by rw [Z0.out]; exact decide_eq_false hz)
          have hvv : v = false := by rw [HV.out, D1.out, D2.out, V1.out, Q0.out]; rfl
          subst hvv
          skip
          go_wp2
          go_ret
          exact ⟨rfl, B2⟩
    · have i3 : (3 : Int) ≤ (n : Int) := by omega
      have i24 : ¬ (n : Int) ≤ 24 := by omega
      have hvv : v = false := by rw [HV.out, decide_eq_false h24]; simp
      subst hvv
      clear hp
      go_enter Try.func29, Try.ntmps29
      go_wp2
      go_ret
      exact ⟨rfl, Below.refl _ _⟩
  · have i3 : ¬ (3 : Int) ≤ (n : Int) := by omega
    have hvv : v = false := by rw [HV.out, decide_eq_false h3]; simp
    subst hvv
    clear hp
    go_enter Try.func29, Try.ntmps29
    go_wp2
    go_ret
    exact ⟨rfl, Below.refl _ _⟩

theorem validOutline_nil (w : World) : Calls Try.prog 29 #[.slice none 0 0] w fun e w' => e = .returned (.bool (vOut [])) ∧ Below w.heap.size w w' := by
  go_enter Try.func29, Try.ntmps29
  go_wp2
  go_ret
  exact ⟨rfl, Below.refl _ _⟩

end Go.Proofs.Ytlocdadkhdcedaa
