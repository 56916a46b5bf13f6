/- The abstract machine, part LH. -/
import Derived.Test.YtiommdfelnkibaaGreatLG
import Derived.Test.YtiommdfelnkibaaGreatN1
/- Walks: the reference's simple. -/
namespace Go.Proofs.YtiommdfelnkibaaGreat
open Go Go.RowKit Go.Proofs

set_option maxRecDepth 100000 in
set_option maxHeartbeats 8000000 in
theorem refSimple_any (b off len cap : Nat) (xs ys : Nat → Int) (hlen : len ≤ 1000000) (hsm : ∀ k, Small (xs k) ∧ Small (ys k)) (w : World)
    (hc : ∀ k, k < len → w.cell? ⟨b, off + k * 2, none⟩ = some (.int .i64 (xs k)) ∧ w.cell? ⟨b, off + k * 2 + 1, none⟩ = some (.int .i64 (ys k))) :
    Calls Tryz.prog 61 #[.slice (some ⟨b, off, none⟩) len cap] w fun e w' => e = .returned (.bool (simpleS xs ys len)) ∧ Below w.heap.size w w' := by
  have HC := Lib.hid hc
  clear hc
  go_enter Tryz.func61, Tryz.ntmps61
  go_wp2_with fail
  go_loopw [4] (fun i wr => ∃ k : Nat, k ≤ len ∧ i = .int .i64 k ∧ Below w.heap.size w wr ∧ ∀ i, i < k → ∀ k', i < k' → k' < len → meetK xs ys len i k' = wantS len i k') (fun i _ => len - (intOf i).toNat)
  case atStart => exact ⟨0, Nat.zero_le _, rfl, Below.refl _ _, by simp⟩
  case round =>
    obtain ⟨i, hi, rfl, hbel, hall⟩ := hrel
    have HA := Lib.hid hall
    clear hall
    by_cases hlt : i < len
    · have j1 : (i : Int) < (len : Int) := by omega
      go_wp2_with fail
      go_loopw [5] (fun k wi => ∃ k' : Nat, i + 1 ≤ k' ∧ k' ≤ len ∧ k = .int .i64 k' ∧ Below w.heap.size w wi ∧ ∀ k, i < k → k < k' → meetK xs ys len i k = wantS len i k) (fun k _ => len - (intOf k).toNat)
      case atStart => exact ⟨i + 1, Nat.le_refl _, by omega, by simp, hbel, by omega⟩
      case round =>
        obtain ⟨k, hk1, hk2, rfl, hbel2, hin⟩ := hrel
        have HI := Lib.hid hin
        clear hin hbel
        by_cases hkl : k < len
        · have j2 : (k : Int) < (len : Int) := by omega
          have q0 : atN len (i : Int) = i := atN_nat hlt
          have q1 : atN len ((i : Int) + 1) = i + 1 := by rw [atN_succ hlt]; exact Nat.mod_eq_of_lt (by omega)
          have q2 : atN len (k : Int) = k := atN_nat hkl
          have q3 : atN len ((k : Int) + 1) = (k + 1) % len := atN_succ hkl
          have M := fun w => refMeet_any (xs i) (ys i) (xs (i + 1)) (ys (i + 1)) (xs k) (ys k) (xs ((k + 1) % len)) (ys ((k + 1) % len)) w (hsm _).1 (hsm _).2 (hsm _).1 (hsm _).2 (hsm _).1 (hsm _).2 (hsm _).1 (hsm _).2
          obtain ⟨m, hm⟩ : ∃ m, meetK xs ys len i k = m := ⟨_, rfl⟩
          rw [show meetS (xs i) (ys i) (xs (i + 1)) (ys (i + 1)) (xs k) (ys k) (xs ((k + 1) % len)) (ys ((k + 1) % len)) = m by rw [← hm]; rfl] at M
          have A0 := at_from (cap := cap) hlen HC (i : Int) i (xs i) (ys i) (Lib.hid ⟨by omega, q0, rfl, rfl⟩)
          have A1 := at_from (cap := cap) hlen HC ((i : Int) + 1) (i + 1) (xs (i + 1)) (ys (i + 1)) (Lib.hid ⟨by omega, q1, rfl, rfl⟩)
          have A2 := at_from (cap := cap) hlen HC (k : Int) k (xs k) (ys k) (Lib.hid ⟨by omega, q2, rfl, rfl⟩)
          have A3 := at_from (cap := cap) hlen HC ((k : Int) + 1) ((k + 1) % len) (xs ((k + 1) % len)) (ys ((k + 1) % len)) (Lib.hid ⟨by omega, q3, rfl, rfl⟩)
          generalize xs i = x0, ys i = y0, xs (i + 1) = x1, ys (i + 1) = y1, xs k = x2, ys k = y2, xs ((k + 1) % len) = x3, ys ((k + 1) % len) = y3 at M A0 A1 A2 A3
          have HM := Lib.hid hm
          obtain ⟨wt, hwt⟩ : ∃ wt, wantS len i k = wt := ⟨_, rfl⟩
          have HW := Lib.hid hwt
          have HW3 := Lib.hid hwt
          have hl0 : ¬ len = 0 := by omega
          clear hm hsm hwt q0 q1 q2 q3
          obtain ⟨β1, e1⟩ : ∃ β, ((k : Int) == (i : Int) + 1) = β := ⟨_, rfl⟩
          obtain ⟨β2, e2⟩ : ∃ β, ((i : Int) == 0) = β := ⟨_, rfl⟩
          obtain ⟨β3, e3⟩ : ∃ β, ((k : Int) == (len : Int) - 1) = β := ⟨_, rfl⟩
          have HW2 : Hid (wt = if (β1 || (β2 && β3)) = true then 1 else 0) := by
            refine Lib.hid ?_
            rw [← HW.out, ← e1, ← e2, ← e3]
            exact want_bool (by omega)
          have E1 := Lib.hid e1
          have E2 := Lib.hid e2
          have E3 := Lib.hid e3
          clear HW e1 e2 e3
          go_wp2_with fail
          refine (A0 _ hbel2).mono ?_
          rintro e w1 ⟨rfl, hb⟩
          have b1 := keep_below hbel2 hb
          clear hb
          go_wp2_with fail
          have n0 := pt_new w1 x0 y0
          have b2 := b1.alloc b1.size (ptObj x0 y0)
          clear b1
          refine (A1 _ b2).mono ?_
          rintro e w2 ⟨rfl, hb⟩
          have c0 := keep_cell hb n0.1
          have c1 := keep_cell hb n0.2
          have b3 := keep_below b2 hb
          clear hb n0 b2
          go_wp2_with fail
          have n0 := pt_new w2 x1 y1
          replace c0 := pt_old w2 (ptObj x1 y1) c0
          replace c1 := pt_old w2 (ptObj x1 y1) c1
          have b4 := b3.alloc b3.size (ptObj x1 y1)
          clear b3
          refine (A2 _ b4).mono ?_
          rintro e w3 ⟨rfl, hb⟩
          replace c0 := keep_cell hb c0
          replace c1 := keep_cell hb c1
          have c2 := keep_cell hb n0.1
          have c3 := keep_cell hb n0.2
          have b5 := keep_below b4 hb
          clear hb n0 b4
          go_wp2_with fail
          have n0 := pt_new w3 x2 y2
          replace c0 := pt_old w3 (ptObj x2 y2) c0
          replace c1 := pt_old w3 (ptObj x2 y2) c1
          replace c2 := pt_old w3 (ptObj x2 y2) c2
          replace c3 := pt_old w3 (ptObj x2 y2) c3
          have b6 := b5.alloc b5.size (ptObj x2 y2)
          clear b5
          refine (A3 _ b6).mono ?_
          rintro e w4 ⟨rfl, hb⟩
          replace c0 := keep_cell hb c0
          replace c1 := keep_cell hb c1
          replace c2 := keep_cell hb c2
          replace c3 := keep_cell hb c3
          have c4 := keep_cell hb n0.1
          have c5 := keep_cell hb n0.2
          have b7 := keep_below b6 hb
          clear hb n0 b6 A0 A1 A2 A3
          have n0 := pt_new w4 x3 y3
          replace c0 := pt_old w4 (ptObj x3 y3) c0
          replace c1 := pt_old w4 (ptObj x3 y3) c1
          replace c2 := pt_old w4 (ptObj x3 y3) c2
          replace c3 := pt_old w4 (ptObj x3 y3) c3
          replace c4 := pt_old w4 (ptObj x3 y3) c4
          replace c5 := pt_old w4 (ptObj x3 y3) c5
          have c6 := n0.1
          have c7 := n0.2
          have b8 := b7.alloc b7.size (ptObj x3 y3)
          clear b7 n0
          go_wp2_with fail
          refine (M _).mono ?_
          rintro e w5 ⟨rfl, hb⟩
          have hbel3 := keep_below b8 hb
          clear hb b8 c0 c1 c2 c3 c4 c5 c6 c7 M
          have hfalse : m ≠ wt → simpleS xs ys len = false := fun h => decide_eq_false (fun hh => h (by rw [← HM.out, ← HW3.out]; exact hh k hkl i (by omega)))
          have hnext : m = wt → ∀ k', i < k' → k' < k + 1 → meetK xs ys len i k' = wantS len i k' := fun h k' h1 h2 => by
            rcases Nat.lt_or_ge k' k with h3 | h3
            · exact HI.out k' h1 h3
            · obtain rfl : k' = k := by omega
              rw [HM.out, HW3.out]; exact h
          have HF := Lib.hid hfalse
          have HN := Lib.hid hnext
          clear hfalse hnext
          have e1 := E1.out
          have e2 := E2.out
          have e3 := E3.out
          clear E1 E2 E3
          cases β1 <;> cases β2 <;> cases β3
          all_goals
            by_cases hmw : m = wt
            · have HMW := Lib.hid hmw
              first
                | (obtain rfl : wt = 1 := HW2.out)
                | (obtain rfl : wt = 0 := HW2.out)
              go_wp2
              refine ⟨⟨k + 1, by omega, by omega, by simp, hbel3, HN.out HMW.out⟩, by simp [intOf]; omega⟩
            · have HMW := Lib.hid hmw
              first
                | (obtain rfl : wt = 1 := HW2.out)
                | (obtain rfl : wt = 0 := HW2.out)
              go_wp2
              go_ret
              refine ⟨?_, hbel3⟩
              rw [HF.out HMW.out]
              rfl
        · obtain rfl : k = len := by omega
          go_wp2
          refine ⟨⟨i + 1, by omega, by simp, hbel2, fun i' hi' k' h1 h2 => ?_⟩, by simp [intOf]; omega⟩
          rcases Nat.lt_or_ge i' i with h | h
          · exact HA.out i' h k' h1 h2
          · obtain rfl : i' = i := by omega
            exact HI.out k' h1 h2
    · obtain rfl : i = len := by omega
      go_wp2
      go_ret
      refine ⟨?_, hbel⟩
      rw [show simpleS xs ys i = true from decide_eq_true (fun k hk i' hi' => HA.out i' (by omega) k hi' hk)]
      rfl

end Go.Proofs.YtiommdfelnkibaaGreat

/- Walks: the reference's ValidOutline. -/
namespace Go.Proofs.YtiommdfelnkibaaGreat
open Go Go.RowKit Go.Proofs

/-- Is the corner not as it must be: less than the corner 0, or straight? -/
def badR (xs ys : Nat → Int) (n i : Nat) : Bool := (decide (0 < i) && !lessS (xs 0) (ys 0) (xs i) (ys i)) || strK xs ys n i

def rOut (L : List (Int × Int)) : Bool :=
  decide (3 ≤ L.length) && (decide (L.length ≤ 24) && (vPts L && (simpleS (px L) (py L) L.length && (decide (0 < sumD (px L) (py L) L.length (List.range L.length)) && (List.range L.length).all fun i => !badR (px L) (py L) L.length i))))

set_option maxRecDepth 100000 in
set_option maxHeartbeats 8000000 in
theorem refOut_any (b off cap : Nat) (L : List (Int × Int)) (hn : L.length ≤ 9223372036854775807) (w : World) (hp : PtsAt w b off L) :
    Calls Tryz.prog 29 #[.slice (some ⟨b, off, none⟩) L.length cap] w fun e w' => e = .returned (.bool (rOut L)) ∧ Below w.heap.size w w' := by
  obtain ⟨v, hv⟩ : ∃ v, rOut L = v := ⟨_, rfl⟩
  rw [hv]
  have HV : Hid (v = (decide (3 ≤ L.length) && (decide (L.length ≤ 24) && (vPts L && (simpleS (px L) (py L) L.length && (decide (0 < sumD (px L) (py L) L.length (List.range L.length)) && (List.range L.length).all fun i => !badR (px L) (py L) L.length i)))))) := Lib.hid hv.symm
  clear hv
  have hvp : vPts L = allValid (px L) (py L) L.length := rfl
  have hvs := @vPts_small L
  have hp' : ∀ k, k < L.length → w.cell? ⟨b, off + k * 2, none⟩ = some (.int .i64 (px L k)) ∧ w.cell? ⟨b, off + k * 2 + 1, none⟩ = some (.int .i64 (py L k)) := hp
  clear hp
  generalize px L = xs at *
  generalize py L = ys at *
  generalize hVP : vPts L = vp at *
  clear hVP
  obtain ⟨n, hnn⟩ : ∃ n, L.length = n := ⟨_, rfl⟩
  rw [hnn] at HV hn hp' hvp ⊢
  clear hnn
  have HC := Lib.hid hp'
  clear hp'
  have HS := Lib.hid hvs
  have HP := Lib.hid hvp
  clear hvs hvp
  by_cases h3 : 3 ≤ n
  · have i3 : ¬ (n : Int) < 3 := by omega
    by_cases h24 : n ≤ 24
    · have i24 : ¬ (n : Int) > 24 := by omega
      have D1 := Lib.hid (decide_eq_true h3)
      have D2 := Lib.hid (decide_eq_true h24)
      go_enter Tryz.func29, Tryz.ntmps29
      go_wp2_with fail
      have C := refPoints_any xs ys b off n cap w (by omega) HC.out
      rw [← HP.out] at C
      refine C.mono ?_
      clear C
      rintro e w1 ⟨rfl, hb1⟩
      cases vp
      · have hvv : v = false := by rw [HV.out]; simp
        subst hvv
        go_wp2
        go_ret
        exact ⟨rfl, hb1⟩
      · have hsm := HS.out rfl
        have C := refSimple_any b off n cap xs ys (by omega) hsm w1 (fun k hk => ⟨keep_cell2 hb1 (HC.out k hk).1, keep_cell2 hb1 (HC.out k hk).2⟩)
        obtain ⟨s, hs⟩ : ∃ s, simpleS xs ys n = s := ⟨_, rfl⟩
        rw [hs] at C HV
        clear hs
        go_wp2_with fail
        refine C.mono ?_
        clear C
        rintro e w2 ⟨rfl, hb⟩
        have hb2 := keep_below hb1 hb
        clear hb hb1
        cases s
        · have hvv : v = false := by rw [HV.out]; simp
          subst hvv
          go_wp2
          go_ret
          exact ⟨rfl, hb2⟩
        · have C := sum_any b off n cap xs ys (by omega) hsm w2 (fun k hk => ⟨keep_cell2 hb2 (HC.out k hk).1, keep_cell2 hb2 (HC.out k hk).2⟩)
          obtain ⟨s, hs⟩ : ∃ s, sumD xs ys n (List.range n) = s := ⟨_, rfl⟩
          rw [hs] at C HV
          clear hs
          go_wp2_with fail
          refine C.mono ?_
          clear C
          rintro e w3 ⟨rfl, hb⟩
          have hb3 := keep_below hb2 hb
          clear hb hb2
          by_cases hpos : 0 < s
          · have i5 : ¬ s ≤ 0 := by omega
            have D3 := Lib.hid (decide_eq_true hpos)
            have HV2 : Hid (v = (List.range n).all fun i => !badR xs ys n i) := Lib.hid (by rw [HV.out, D1.out, D2.out, D3.out]; simp)
            clear HV D1 D2 D3
            go_wp2_with fail
            clear hpos i5
            go_loopw [3] (fun i wr => ∃ k : Nat, k ≤ n ∧ i = .int .i64 k ∧ Below w.heap.size w wr ∧ ∀ j, j < k → badR xs ys n j = false) (fun i _ => n - (intOf i).toNat)
            case atStart => exact ⟨0, Nat.zero_le _, rfl, hb3, by simp⟩
            case round =>
              obtain ⟨k, hk, rfl, hbel, hall⟩ := hrel
              have HA := Lib.hid hall
              clear hall hb3
              by_cases hlt : k < n
              · have j1 : (k : Int) < (n : Int) := by omega
                have h0n : 0 < n := by omega
                have j2 : (0 : Int) < (n : Int) := by omega
                have HF : Hid (badR xs ys n k = true → v = false) := Lib.hid (fun hh => by
                  rw [HV2.out, List.all_eq_false]
                  exact ⟨k, List.mem_range.2 hlt, by simp [hh]⟩)
                have HN : Hid (badR xs ys n k = false → ∀ j, j < k + 1 → badR xs ys n j = false) := Lib.hid (fun hh j hj => by
                  rcases Nat.lt_or_ge j k with h | h
                  · exact HA.out j h
                  · obtain rfl : j = k := by omega
                    exact hh)
                have a0 := keep_cell2 hbel (HC.out k hlt).1
                have a1 := keep_cell2 hbel (HC.out k hlt).2
                have o0 := keep_cell2 hbel (HC.out 0 h0n).1
                have o1 := keep_cell2 hbel (HC.out 0 h0n).2
                rw [show off + 0 * 2 = off by omega] at o0 o1
                have CL := fun w => less_any (xs 0) (ys 0) (xs k) (ys k) w
                have CC := fun w => refCross_any (xs ((k + n - 1) % n)) (ys ((k + n - 1) % n)) (xs k) (ys k) (xs ((k + 1) % n)) (ys ((k + 1) % n)) w (hsm _).1 (hsm _).2 (hsm _).1 (hsm _).2 (hsm _).1 (hsm _).2
                have A0' := at_from (cap := cap) (by omega) HC ((k : Int) - 1) ((k + n - 1) % n) (xs ((k + n - 1) % n)) (ys ((k + n - 1) % n)) (Lib.hid ⟨by omega, atN_pred hlt, rfl, rfl⟩)
                have A1' := at_from (cap := cap) (by omega) HC ((k : Int) + 1) ((k + 1) % n) (xs ((k + 1) % n)) (ys ((k + 1) % n)) (Lib.hid ⟨by omega, atN_succ hlt, rfl, rfl⟩)
                have A0 := fun x : Grow wr => A0' x.w (keep_below hbel x.b)
                have A1 := fun x : Grow wr => A1' x.w (keep_below hbel x.b)
                clear A0' A1'
                obtain ⟨lv, hlv⟩ : ∃ lv, lessS (xs 0) (ys 0) (xs k) (ys k) = lv := ⟨_, rfl⟩
                obtain ⟨cv, hcv⟩ : ∃ cv, cross (xs ((k + n - 1) % n)) (ys ((k + n - 1) % n)) (xs k) (ys k) (xs ((k + 1) % n)) (ys ((k + 1) % n)) = cv := ⟨_, rfl⟩
                have HB : Hid (badR xs ys n k = ((decide (0 < k) && !lv) || (cv == 0))) := Lib.hid (by rw [← hlv, ← hcv]; rfl)
                rw [hlv] at CL
                rw [hcv] at CC
                clear hlv hcv hsm HS
                generalize xs ((k + n - 1) % n) = x1, ys ((k + n - 1) % n) = y1, xs k = x2, ys k = y2, xs ((k + 1) % n) = x3, ys ((k + 1) % n) = y3, xs 0 = x0, ys 0 = y0 at CL CC A0 A1 a0 a1 o0 o1
                go_wp2_with fail
                have G0 := grow_cell a0
                have G1 := grow_cell a1
                have G2 := grow_cell o0
                have G3 := grow_cell o1
                by_cases hk0 : 0 < k
                · have i0 : (0 : Int) < (k : Int) := by omega
                  cases lv
                  · refine wp_region_grow (by kernel_rfl) (by kernel_rfl) ?_
                    repeat (go_big_quiet_step ((first | (go_at_call 63; with_reducible exact calls_grow (CL _)))))
                    refine wpQuiet_nil ?_
                    rintro w2 ⟨x, hx⟩
                    have hb : Below wr.heap.size wr w2 := by rw [hx]; exact x.b
                    clear hx x G0 G1 G2 G3 a0 a1 o0 o1 CL CC A0 A1
                    have hbel2 := keep_below hbel hb
                    clear hb
                    have hvv : v = false := HF.out (by rw [HB.out, decide_eq_true hk0]; simp)
                    subst hvv
                    go_wp2
                    go_ret
                    exact ⟨rfl, hbel2⟩
                  · refine wp_region_grow (by kernel_rfl) (by kernel_rfl) ?_
                    repeat (go_big_quiet_step ((first | (go_at_call 63; with_reducible exact calls_grow (CL _)) | (go_at_call 64; with_reducible exact calls_grow (CC _)) | (go_at_call 65; with_reducible exact calls_grow (A0 _)) | (go_at_call 65; with_reducible exact calls_grow (A1 _)))))
                    refine wpQuiet_nil ?_
                    rintro w2 ⟨x, hx⟩
                    have hb : Below wr.heap.size wr w2 := by rw [hx]; exact x.b
                    clear hx x G0 G1 G2 G3 a0 a1 o0 o1 CL CC A0 A1
                    have hbel2 := keep_below hbel hb
                    clear hb
                    by_cases hcz : cv = 0
                    · have hvv : v = false := HF.out (by rw [HB.out, hcz]; simp)
                      subst hvv
                      go_wp2
                      go_ret
                      exact ⟨rfl, hbel2⟩
                    · have hnb := HN.out (by rw [HB.out]; simp [hcz, hk0])
                      have HN2 := Lib.hid hnb
                      clear hnb
                      go_wp2
                      exact ⟨⟨k + 1, by omega, by simp, hbel2, HN2.out⟩, by simp [intOf]; omega⟩
                · have i0 : ¬ (0 : Int) < (k : Int) := by omega
                  refine wp_region_grow (by kernel_rfl) (by kernel_rfl) ?_
                  repeat (go_big_quiet_step ((first | (go_at_call 64; with_reducible exact calls_grow (CC _)) | (go_at_call 65; with_reducible exact calls_grow (A0 _)) | (go_at_call 65; with_reducible exact calls_grow (A1 _)))))
                  refine wpQuiet_nil ?_
                  rintro w2 ⟨x, hx⟩
                  have hb : Below wr.heap.size wr w2 := by rw [hx]; exact x.b
                  clear hx x G0 G1 G2 G3 a0 a1 o0 o1 CL CC A0 A1
                  have hbel2 := keep_below hbel hb
                  clear hb
                  by_cases hcz : cv = 0
                  · have hvv : v = false := HF.out (by rw [HB.out, hcz]; simp)
                    subst hvv
                    go_wp2
                    go_ret
                    exact ⟨rfl, hbel2⟩
                  · have hnb := HN.out (by rw [HB.out]; simp [hcz, hk0])
                    have HN2 := Lib.hid hnb
                    clear hnb
                    go_wp2
                    exact ⟨⟨k + 1, by omega, by simp, hbel2, HN2.out⟩, by simp [intOf]; omega⟩
              · obtain rfl : k = n := by omega
                have hvv : v = true := by
                  rw [HV2.out, List.all_eq_true]
                  exact fun j hj => by rw [HA.out j (List.mem_range.1 hj)]; rfl
                subst hvv
                go_wp2
                go_ret
                exact ⟨rfl, hbel⟩
          · have i5 : s ≤ 0 := by omega
            have D3 := Lib.hid (decide_eq_false hpos)
            have hvv : v = false := by rw [HV.out, D3.out]; simp
            subst hvv
            go_wp2
            go_ret
            exact ⟨rfl, hb3⟩
    · have i24 : (n : Int) > 24 := by omega
      have hvv : v = false := by rw [HV.out, decide_eq_false h24]; simp
      subst hvv
      go_enter Tryz.func29, Tryz.ntmps29
      go_wp2
      go_ret
      exact ⟨rfl, Below.refl _ _⟩
  · have i3 : (n : Int) < 3 := by omega
    have hvv : v = false := by rw [HV.out, decide_eq_false h3]; simp
    subst hvv
    go_enter Tryz.func29, Tryz.ntmps29
    go_wp2
    go_ret
    exact ⟨rfl, Below.refl _ _⟩

theorem refOut_nil (w : World) : Calls Tryz.prog 29 #[.slice none 0 0] w fun e w' => e = .returned (.bool (rOut [])) ∧ Below w.heap.size w w' := by
  go_enter Tryz.func29, Tryz.ntmps29
  go_wp2
  go_ret
  exact ⟨rfl, Below.refl _ _⟩

end Go.Proofs.YtiommdfelnkibaaGreat

/- The two tests of an outline are one. -/
namespace Go.Proofs.YtiommdfelnkibaaGreat
open Go Go.RowKit Go.Proofs

theorem firstS_neg {xs ys : Nat → Int} {n : Nat} : firstS xs ys n < 0 ↔ ∀ x, x < n → strK xs ys n x = false := by
  constructor
  · intro h x hx
    unfold firstS at h
    cases hf : (List.range n).find? (strK xs ys n) with
    | none => simpa using List.find?_eq_none.1 hf x (List.mem_range.2 hx)
    | some k => rw [hf] at h; simp at h; omega
  · intro h
    rw [firstS_none (fun x hx => h x (List.mem_range.1 hx))]
    omega

theorem leastK_zero {xs ys : Nat → Int} : ∀ {n : Nat}, leastK xs ys n = 0 ↔ ∀ i, 0 < i → i < n → ¬ cmpP (xs i) (ys i) (xs 0) (ys 0) < 0
  | 0 => by simp [leastK]
  | k + 1 => by
    have ih := leastK_zero (xs := xs) (ys := ys) (n := k)
    constructor
    · intro h i h0 hi
      unfold leastK at h
      by_cases hc : cmpP (xs k) (ys k) (xs (leastK xs ys k)) (ys (leastK xs ys k)) < 0
      · rw [if_pos hc] at h
        omega
      · rw [if_neg hc] at h
        rcases Nat.lt_or_ge i k with h1 | h1
        · exact ih.1 h i h0 h1
        · obtain rfl : i = k := by omega
          rw [h] at hc
          exact hc
    · intro h
      have hk : leastK xs ys k = 0 := ih.2 (fun i h0 hi => h i h0 (by omega))
      unfold leastK
      rw [hk]
      rcases Nat.eq_zero_or_pos k with rfl | h0
      · simp
      · rw [if_neg (h k h0 (by omega))]

theorem cmpP_less (px py qx qy : Int) : cmpP px py qx qy < 0 ↔ lessS px py qx qy = true := by
  unfold cmpP lessS Lib.compareInt
  simp only [Bool.or_eq_true, Bool.and_eq_true, decide_eq_true_eq]
  repeat' split
  all_goals omega

theorem lessS_other (px py qx qy : Int) : lessS qx qy px py = true ↔ ¬ lessS px py qx qy = true ∧ ¬ (px = qx ∧ py = qy) := by
  unfold lessS
  simp only [Bool.or_eq_true, Bool.and_eq_true, decide_eq_true_eq]
  omega

theorem cross_same (ax ay bx b_y : Int) : cross ax ay bx b_y bx b_y = 0 := by
  unfold cross
  rw [Int.mul_comm (b_y - ay) (bx - ax)]
  omega

theorem meetS_shared (ax ay bx b_y dx dy : Int) : meetS ax ay bx b_y ax ay dx dy ≠ 0 := by
  have e : 1 ≤ (comUpto (both ax ay bx b_y ax ay dx dy) 4).length := by
    unfold both comUpto
    rw [onSeg_head, onSeg_last, onSeg_head, onSeg_last]
    simp only [List.take, List.foldl, Bool.and_self, Bool.and_true, Bool.true_and]
    cases onSeg bx b_y ax ay dx dy <;> cases onSeg dx dy ax ay bx b_y <;> simp [comStep] <;> grind
  rw [meetS_com]
  split
  · omega
  · rw [if_pos (by omega)]
    omega

theorem no_twice {xs ys : Nat → Int} {n i : Nat} (hs : simpleS xs ys n = true) (hf : ∀ x, x < n → strK xs ys n x = false) (h0 : 0 < i) (hi : i < n) : ¬ (xs i = xs 0 ∧ ys i = ys 0) := by
  rintro ⟨ex, ey⟩
  unfold simpleS at hs
  rw [decide_eq_true_eq] at hs
  have hstr : ∀ x, x < n → ¬ (xs ((x + 1) % n) = xs x ∧ ys ((x + 1) % n) = ys x) := by
    rintro x hx ⟨e1, e2⟩
    have := hf x hx
    unfold strK strB at this
    rw [e1, e2, cross_same] at this
    simp at this
  rcases Nat.lt_or_ge i 2 with h2 | h2
  · obtain rfl : i = 1 := by omega
    refine hstr 0 (by omega) ?_
    rw [show (0 + 1) % n = 1 from Nat.mod_eq_of_lt (by omega)]
    exact ⟨ex, ey⟩
  · rcases Nat.lt_or_ge i (n - 1) with h3 | h3
    · have hm := hs i hi 0 h0
      have hw : wantS n 0 i = 0 := by unfold wantS; rw [if_neg (by omega)]
      rw [hw] at hm
      unfold meetK at hm
      rw [ex, ey] at hm
      exact meetS_shared _ _ _ _ _ _ hm
    · obtain rfl : i = n - 1 := by omega
      refine hstr (n - 1) (by omega) ?_
      rw [show (n - 1 + 1) % n = 0 by rw [show n - 1 + 1 = n by omega, Nat.mod_self]]
      exact ⟨ex.symm, ey.symm⟩

theorem vOut_rOut (L : List (Int × Int)) : vOut L = rOut L := by
  rw [Bool.eq_iff_iff]
  unfold vOut rOut
  simp only [Bool.and_eq_true, decide_eq_true_eq, List.all_eq_true, List.mem_range, Bool.not_eq_true']
  generalize px L = xs, py L = ys, L.length = n
  constructor
  · rintro ⟨h3, h24, hv, hf, hd, hl, hs⟩
    refine ⟨h3, h24, hv, hs, hd, fun i hi => ?_⟩
    have hf' := firstS_neg.1 hf
    have hl' := leastK_zero.1 hl
    unfold badR
    rw [hf' i hi, Bool.or_false]
    rcases Nat.eq_zero_or_pos i with rfl | h0
    · simp
    · have : lessS (xs 0) (ys 0) (xs i) (ys i) = true := (lessS_other _ _ _ _).2 ⟨fun h => hl' i h0 hi ((cmpP_less _ _ _ _).2 h), no_twice hs hf' h0 hi⟩
      rw [this]
      simp
  · rintro ⟨h3, h24, hv, hs, hd, hb⟩
    refine ⟨h3, h24, hv, firstS_neg.2 fun x hx => ?_, hd, leastK_zero.2 fun i h0 hi hc => ?_, hs⟩
    · have := hb x hx
      unfold badR at this
      rw [Bool.or_eq_false_iff] at this
      exact this.2
    · have := hb i hi
      unfold badR at this
      rw [Bool.or_eq_false_iff, decide_eq_true h0, Bool.true_and] at this
      have h1 := ((lessS_other _ _ _ _).1 (show lessS (xs 0) (ys 0) (xs i) (ys i) = true by simpa using this.1)).1
      exact h1 ((cmpP_less _ _ _ _).1 hc)

end Go.Proofs.YtiommdfelnkibaaGreat
