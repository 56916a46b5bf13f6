/- The abstract machine, part SA. -/
import Derived.Test.YtlocdadkhdcedaaKD
import Derived.Test.YtlocdadkhdcedaaRB
/- Walks: the reference's Laid, cornerLaid. -/
namespace Go.Proofs.Ytlocdadkhdcedaa
open Go Go.RowKit Go.Proofs

set_option maxHeartbeats 400000 in
theorem refLaid_any (s n i : Int) (b : Bool) (w : World) (h0 : 3 ≤ n) (hn : n ≤ 24) (h1 : 0 ≤ s) (h2 : s < n) (h3 : 0 ≤ i) (h4 : i < n) :
    Calls Try.prog 114 #[st s b, .int .i64 n, .int .i64 i] w fun e w' => e = .returned (.int .i64 (Plain.ed s b n i)) ∧ Below w.heap.size w w' := by
  have e1 := Plain.ed_back h1 h2 h3 h4
  have e2 := Plain.ed_forth h1 h2 h3 h4
  rw [show s - i + n = s + n - i by omega] at e1
  have E1 := Lib.hid e1
  have E2 := Lib.hid e2
  clear e1 e2
  have p1 : 0 ≤ s + n - i := by omega
  have p2 : 0 ≤ s + i := by omega
  have p3 : s + n - i ≤ 48 := by omega
  have p4 : s + i ≤ 48 := by omega
  have p5 : 0 ≤ s + n := by omega
  have p6 : s + n ≤ 48 := by omega
  cases b
  · go_enter Try.func114, Try.ntmps114
    go_wp2
    go_ret
    exact ⟨ret_int E2.out, (Below.refl _ _).alloc (Nat.le_refl _) _⟩
  · go_enter Try.func114, Try.ntmps114
    go_wp2
    go_ret
    exact ⟨ret_int E1.out, (Below.refl _ _).alloc (Nat.le_refl _) _⟩

theorem lay_back {s n i : Int} (h1 : 0 ≤ s) (h2 : s < n) (h3 : 0 ≤ i) (h4 : i < n) : (s + n - i + 1) % n = layI s true n i := by
  unfold layI Plain.ed
  simp only [if_true]
  rcases (show s + n - i + 1 < n ∨ (n ≤ s + n - i + 1 ∧ s + n - i + 1 < 2 * n) ∨ s + n - i + 1 = 2 * n by omega) with h | h | h
  · rw [Plain.mod_lo (by omega) h]; (repeat' split) <;> omega
  · rw [Plain.mod_hi h.1 h.2]; (repeat' split) <;> omega
  · rw [h, show 2 * n = n + n by omega, Int.add_emod_right, Int.emod_self]; (repeat' split) <;> omega

set_option maxHeartbeats 400000 in
theorem cornerLaid_any (s n i : Int) (b : Bool) (w : World) (h0 : 3 ≤ n) (hn : n ≤ 24) (h1 : 0 ≤ s) (h2 : s < n) (h3 : 0 ≤ i) (h4 : i < n) :
    Calls Try.prog 144 #[st s b, .int .i64 n, .int .i64 i] w fun e w' => e = .returned (.int .i64 (layI s b n i)) ∧ Below w.heap.size w w' := by
  have e1 := lay_back h1 h2 h3 h4
  have e2 : (s + i) % n = layI s false n i := Plain.ed_forth h1 h2 h3 h4
  have E1 := Lib.hid e1
  have E2 := Lib.hid e2
  clear e1 e2
  have p1 : 0 ≤ s + n - i := by omega
  have p2 : 0 ≤ s + i := by omega
  have p3 : s + n - i ≤ 48 := by omega
  have p4 : s + i ≤ 48 := by omega
  have p5 : 0 ≤ s + n := by omega
  have p6 : s + n ≤ 48 := by omega
  have p7 : 0 ≤ s + n - i + 1 := by omega
  have p8 : s + n - i + 1 ≤ 48 := by omega
  cases b
  · go_enter Try.func144, Try.ntmps144
    go_wp2
    go_ret
    exact ⟨ret_int E2.out, (Below.refl _ _).alloc (Nat.le_refl _) _⟩
  · go_enter Try.func144, Try.ntmps144
    go_wp2
    go_ret
    exact ⟨ret_int E1.out, (Below.refl _ _).alloc (Nat.le_refl _) _⟩

end Go.Proofs.Ytlocdadkhdcedaa

/- Walks: the reference's congruent. -/
namespace Go.Proofs.Ytlocdadkhdcedaa
open Go Go.RowKit Go.Proofs

/-- How a corner bends: 1, 0 or -1. -/
def sgC (xs ys : Nat → Int) (n i : Nat) : Int := Lib.compareInt (cross (xs ((i + n - 1) % n)) (ys ((i + n - 1) % n)) (xs i) (ys i) (xs ((i + 1) % n)) (ys ((i + 1) % n))) 0

def congSg (xp yp xq yq : Nat → Int) (n s : Nat) (b : Bool) (i : Nat) : Prop := sgC xp yp n i = sgC xq yq n (layN n s b i)
instance (xp yp xq yq : Nat → Int) (n s : Nat) (b : Bool) (i : Nat) : Decidable (congSg xp yp xq yq n s b i) := by unfold congSg; infer_instance
def congR (xp yp xq yq : Nat → Int) (n s : Nat) (b : Bool) : Bool := decide (∀ i, i < n → congSg xp yp xq yq n s b i ∧ ∀ k, k < n → congSq xp yp xq yq n s b i k)

set_option maxRecDepth 100000 in
set_option maxHeartbeats 8000000 in
theorem refCong_any (bp op cp bq oq cq n : Nat) (xp yp xq yq : Nat → Int) (h3 : 3 ≤ n) (h24 : n ≤ 24) (smp : ∀ k, Small (xp k) ∧ Small (yp k)) (smq : ∀ k, Small (xq k) ∧ Small (yq k)) (s : Nat) (hs : s < n) (bb : Bool) (w : World)
    (hcp : ∀ k, k < n → w.cell? ⟨bp, op + k * 2, none⟩ = some (.int .i64 (xp k)) ∧ w.cell? ⟨bp, op + k * 2 + 1, none⟩ = some (.int .i64 (yp k)))
    (hcq : ∀ k, k < n → w.cell? ⟨bq, oq + k * 2, none⟩ = some (.int .i64 (xq k)) ∧ w.cell? ⟨bq, oq + k * 2 + 1, none⟩ = some (.int .i64 (yq k))) :
    Calls Try.prog 112 #[.slice (some ⟨bp, op, none⟩) n cp, .slice (some ⟨bq, oq, none⟩) n cq, st s bb] w fun e w' => e = .returned (.bool (congR xp yp xq yq n s bb)) ∧ Below w.heap.size w w' := by
  have HP := Lib.hid hcp
  have HQ := Lib.hid hcq
  clear hcp hcq
  have n0 := st_new w s bb
  obtain ⟨W0, hW0⟩ : ∃ W0, w.alloc (stObj s bb) = W0 := ⟨_, rfl⟩
  have B0 : Below w.heap.size w W0 := by rw [← hW0]; exact (Below.refl _ _).alloc (Nat.le_refl _) _
  rw [hW0] at n0
  have S0 := n0.1
  have S1 := n0.2
  clear n0
  have hl0 : 0 < n := by omega
  have HP2 := Lib.hid (fun k hk => And.intro (keep_cell2 B0 (HP.out k hk).1) (keep_cell2 B0 (HP.out k hk).2))
  have HQ2 := Lib.hid (fun k hk => And.intro (keep_cell2 B0 (HQ.out k hk).1) (keep_cell2 B0 (HQ.out k hk).2))
  clear HP HQ
  go_enter Try.func112, Try.ntmps112
  go_wp2_with fail
  clear hW0
  go_loopw [8] (fun i wr => ∃ k : Nat, k ≤ n ∧ i = .int .i64 k ∧ Below W0.heap.size W0 wr ∧ ∀ i, i < k → congSg xp yp xq yq n s bb i ∧ ∀ k, k < n → congSq xp yp xq yq n s bb i k) (fun i _ => n - (intOf i).toNat)
  case atStart => exact ⟨0, Nat.zero_le _, rfl, Below.refl _ _, by simp⟩
  case round =>
    obtain ⟨i, hi, rfl, hbel, hall⟩ := hrel
    have HA := Lib.hid hall
    clear hall
    by_cases hlt : i < n
    · have j1 : (i : Int) < (n : Int) := by omega
      have hli := layN_lt (b := bb) hs hlt
      have LI := fun w => cornerLaid_any s n i bb w (by omega) (by omega) (by omega) (by omega) (by omega) (by omega)
      rw [← layN_int (b := bb) hs hlt] at LI
      have s0 := keep_cell2 hbel S0
      have s1 := keep_cell2 hbel S1
      go_wp2_with fail
      refine (LI _).mono ?_
      rintro e w3 ⟨rfl, hb⟩
      have hbel3 := keep_below hbel hb
      clear hb s0 s1 hbel LI
      obtain ⟨li, hli2⟩ : ∃ li, layN n s bb i = li := ⟨_, rfl⟩
      rw [hli2] at hli
      have j2 : (li : Int) < (n : Int) := by omega
      have p0 := keep_cell2 hbel3 (HP2.out i hlt).1
      have p1 := keep_cell2 hbel3 (HP2.out i hlt).2
      have q0 := keep_cell2 hbel3 (HQ2.out li hli).1
      have q1 := keep_cell2 hbel3 (HQ2.out li hli).2
      have CP := fun w => refCross_any (xp ((i + n - 1) % n)) (yp ((i + n - 1) % n)) (xp i) (yp i) (xp ((i + 1) % n)) (yp ((i + 1) % n)) w (smp _).1 (smp _).2 (smp _).1 (smp _).2 (smp _).1 (smp _).2
      have CQ := fun w => refCross_any (xq ((li + n - 1) % n)) (yq ((li + n - 1) % n)) (xq li) (yq li) (xq ((li + 1) % n)) (yq ((li + 1) % n)) w (smq _).1 (smq _).2 (smq _).1 (smq _).2 (smq _).1 (smq _).2
      have A0' := at_from (cap := cp) (by omega) HP2 ((i : Int) - 1) ((i + n - 1) % n) (xp ((i + n - 1) % n)) (yp ((i + n - 1) % n)) (Lib.hid ⟨by omega, atN_pred hlt, rfl, rfl⟩)
      have A1' := at_from (cap := cp) (by omega) HP2 ((i : Int) + 1) ((i + 1) % n) (xp ((i + 1) % n)) (yp ((i + 1) % n)) (Lib.hid ⟨by omega, atN_succ hlt, rfl, rfl⟩)
      have A2' := at_from (cap := cq) (by omega) HQ2 ((li : Int) - 1) ((li + n - 1) % n) (xq ((li + n - 1) % n)) (yq ((li + n - 1) % n)) (Lib.hid ⟨by omega, atN_pred hli, rfl, rfl⟩)
      have A3' := at_from (cap := cq) (by omega) HQ2 ((li : Int) + 1) ((li + 1) % n) (xq ((li + 1) % n)) (yq ((li + 1) % n)) (Lib.hid ⟨by omega, atN_succ hli, rfl, rfl⟩)
      have A0 := fun x : Grow w3 => A0' x.w (keep_below hbel3 x.b)
      have A1 := fun x : Grow w3 => A1' x.w (keep_below hbel3 x.b)
      have A2 := fun x : Grow w3 => A2' x.w (keep_below hbel3 x.b)
      have A3 := fun x : Grow w3 => A3' x.w (keep_below hbel3 x.b)
      clear A0' A1' A2' A3'
      obtain ⟨u, hu⟩ : ∃ u, cross (xp ((i + n - 1) % n)) (yp ((i + n - 1) % n)) (xp i) (yp i) (xp ((i + 1) % n)) (yp ((i + 1) % n)) = u := ⟨_, rfl⟩
      obtain ⟨v, hv⟩ : ∃ v, cross (xq ((li + n - 1) % n)) (yq ((li + n - 1) % n)) (xq li) (yq li) (xq ((li + 1) % n)) (yq ((li + 1) % n)) = v := ⟨_, rfl⟩
      have SU := fun w => sign_any u w
      have SV := fun w => sign_any v w
      obtain ⟨gu, hgu⟩ : ∃ g, Lib.compareInt u 0 = g := ⟨_, rfl⟩
      obtain ⟨gv, hgv⟩ : ∃ g, Lib.compareInt v 0 = g := ⟨_, rfl⟩
      have HB : Hid (congSg xp yp xq yq n s bb i ↔ gu = gv) := Lib.hid (by rw [← hgu, ← hgv, ← hu, ← hv, ← hli2]; exact Iff.rfl)
      have HL := Lib.hid hli2
      rw [hu] at CP
      rw [hv] at CQ
      rw [hgu] at SU
      rw [hgv] at SV
      clear hu hv hgu hgv hli2
      generalize xp ((i + n - 1) % n) = x1, yp ((i + n - 1) % n) = y1, xp i = x2, yp i = y2, xp ((i + 1) % n) = x3, yp ((i + 1) % n) = y3 at CP A0 A1 p0 p1
      generalize xq ((li + n - 1) % n) = z1, yq ((li + n - 1) % n) = t1, xq li = z2, yq li = t2, xq ((li + 1) % n) = z3, yq ((li + 1) % n) = t3 at CQ A2 A3 q0 q1
      rw [HL.out]
      go_wp2_with fail
      have G0 := grow_cell p0
      have G1 := grow_cell p1
      have G2 := grow_cell q0
      have G3 := grow_cell q1
      refine wp_region_grow (by kernel_rfl) (by kernel_rfl) ?_
      repeat (go_big_quiet_step ((first | (go_at_call 65; with_reducible exact calls_grow (CP _)) | (go_at_call 65; with_reducible exact calls_grow (CQ _)) | (go_at_call 96; with_reducible exact calls_grow (A0 _)) | (go_at_call 96; with_reducible exact calls_grow (A1 _)) | (go_at_call 96; with_reducible exact calls_grow (A2 _)) | (go_at_call 96; with_reducible exact calls_grow (A3 _)) | (go_at_call 75; with_reducible exact calls_grow_same (SU _)) | (go_at_call 75; with_reducible exact calls_grow_same (SV _)))))
      refine wpQuiet_nil ?_
      rintro w4 ⟨z, hz⟩
      have hb : Below w3.heap.size w3 w4 := by rw [hz]; exact z.b
      clear hz z G0 G1 G2 G3 p0 p1 q0 q1 CP CQ A0 A1 A2 A3 SU SV
      have hbel4 := keep_below hbel3 hb
      clear hb hbel3
      by_cases hxy : gu = gv
      · have HBi := Lib.hid (HB.out.2 hxy)
        clear HB
        go_wp2_with fail
        go_loopw [10] (fun k wi => ∃ k' : Nat, k' ≤ n ∧ k = .int .i64 k' ∧ Below W0.heap.size W0 wi ∧ ∀ k, k < k' → congSq xp yp xq yq n s bb i k) (fun k _ => n - (intOf k).toNat)
        case atStart => exact ⟨0, Nat.zero_le _, rfl, hbel4, by simp⟩
        case round =>
          obtain ⟨k, hk, rfl, hbel5, hin⟩ := hrel
          have HI := Lib.hid hin
          clear hin hbel4
          by_cases hkn : k < n
          · have j3n : (k : Int) < (n : Int) := by omega
            have hlk := layN_lt (b := bb) hs hkn
            have LK := fun w => cornerLaid_any s n k bb w (by omega) (by omega) (by omega) (by omega) (by omega) (by omega)
            rw [← layN_int (b := bb) hs hkn] at LK
            obtain ⟨lk, hlk2⟩ : ∃ lk, layN n s bb k = lk := ⟨_, rfl⟩
            rw [hlk2] at hlk LK
            have j4 : (lk : Int) < (n : Int) := by omega
            have HSq : Hid (congSq xp yp xq yq n s bb i k ↔ square (xp i) (yp i) (xp k) (yp k) = square (xq li) (yq li) (xq lk) (yq lk)) := Lib.hid (by rw [← hlk2, ← HL.out]; exact Iff.rfl)
            clear hlk2
            have a0 := keep_cell2 hbel5 (HP2.out i hlt).1
            have a1 := keep_cell2 hbel5 (HP2.out i hlt).2
            have b0 := keep_cell2 hbel5 (HP2.out k hkn).1
            have b1 := keep_cell2 hbel5 (HP2.out k hkn).2
            have d0 := keep_cell2 hbel5 (HQ2.out li hli).1
            have d1 := keep_cell2 hbel5 (HQ2.out li hli).2
            have e0 := keep_cell2 hbel5 (HQ2.out lk hlk).1
            have e1 := keep_cell2 hbel5 (HQ2.out lk hlk).2
            have s0 := keep_cell2 hbel5 S0
            have s1 := keep_cell2 hbel5 S1
            have M1 := fun w => dist_any (xp i) (yp i) (xp k) (yp k) w (smp _).1 (smp _).2 (smp _).1 (smp _).2
            have M2 := fun w => dist_any (xq li) (yq li) (xq lk) (yq lk) w (smq _).1 (smq _).2 (smq _).1 (smq _).2
            obtain ⟨u1, hu1⟩ : ∃ u, square (xp i) (yp i) (xp k) (yp k) = u := ⟨_, rfl⟩
            obtain ⟨u2, hu2⟩ : ∃ u, square (xq li) (yq li) (xq lk) (yq lk) = u := ⟨_, rfl⟩
            rw [hu1] at M1
            rw [hu2] at M2
            have HSq2 : Hid (congSq xp yp xq yq n s bb i k ↔ u1 = u2) := Lib.hid (by rw [← hu1, ← hu2]; exact HSq.out)
            clear hu1 hu2 HSq
            generalize xp i = x1, yp i = y1, xp k = x2, yp k = y2, xq li = x3, yq li = y3, xq lk = x4, yq lk = y4 at a0 a1 b0 b1 d0 d1 e0 e1 M1 M2
            go_wp2_with fail
            have G0 := grow_cell a0
            have G1 := grow_cell a1
            have G2 := grow_cell b0
            have G3 := grow_cell b1
            have G4 := grow_cell d0
            have G5 := grow_cell d1
            have G6 := grow_cell e0
            have G7 := grow_cell e1
            have G8 := grow_cell s0
            have G9 := grow_cell s1
            refine wp_region_grow (by kernel_rfl) (by kernel_rfl) ?_
            repeat (go_big_quiet_step ((first | (go_at_call 77; with_reducible exact calls_grow (M1 _)) | (go_at_call 77; with_reducible exact calls_grow (M2 _)) | (go_at_call 144; with_reducible exact calls_grow (LK _)))))
            refine wpQuiet_nil ?_
            rintro w5 ⟨z, hz⟩
            have hb : Below wr.heap.size wr w5 := by rw [hz]; exact z.b
            clear hz z G0 G1 G2 G3 G4 G5 G6 G7 G8 G9 a0 a1 b0 b1 d0 d1 e0 e1 s0 s1 M1 M2 LK
            have hbel6 := keep_below hbel5 hb
            clear hb
            by_cases hu : u1 = u2
            · have HK := Lib.hid (HSq2.out.2 hu)
              go_wp2
              refine ⟨⟨k + 1, by omega, by simp, hbel6, fun j hj => ?_⟩, by simp [intOf]; omega⟩
              rcases Nat.lt_or_ge j k with h | h
              · exact HI.out j h
              · obtain rfl : j = k := by omega
                exact HK.out
            · go_wp2
              go_ret
              refine ⟨?_, keep_below B0 hbel6⟩
              have : congR xp yp xq yq n s bb = false := decide_eq_false (fun hh => hu (HSq2.out.1 ((hh i hlt).2 k hkn)))
              rw [this]
              rfl
          · obtain rfl : k = n := by omega
            go_wp2
            refine ⟨⟨i + 1, by omega, by simp, hbel5, fun j hj => ?_⟩, by simp [intOf]; omega⟩
            rcases Nat.lt_or_ge j i with h | h
            · exact HA.out j h
            · obtain rfl : j = i := by omega
              exact ⟨HBi.out, HI.out⟩
      · go_wp2
        go_ret
        refine ⟨?_, keep_below B0 hbel4⟩
        have : congR xp yp xq yq n s bb = false := decide_eq_false (fun hh => hxy (HB.out.1 (hh i hlt).1))
        rw [this]
        rfl
    · obtain rfl : i = n := by omega
      go_wp2
      go_ret
      refine ⟨?_, keep_below B0 hbel⟩
      rw [show congR xp yp xq yq i s bb = true from decide_eq_true (fun j hj => HA.out j hj)]
      rfl

end Go.Proofs.Ytlocdadkhdcedaa

/- Both tests of congruence are one, for outlines. -/
namespace Go.Proofs.Ytlocdadkhdcedaa
open Go Go.RowKit Go.Proofs

theorem sg_bend {xs ys : Nat → Int} {n i : Nat} (h : strK xs ys n i = false) : sgC xs ys n i = bendS xs ys n i := by
  unfold strK strB at h
  unfold sgC bendS Lib.compareInt
  have h' := (beq_eq_false_iff_ne).1 h
  generalize cross _ _ _ _ _ _ = c at *
  by_cases h1 : c < 0
  · rw [if_pos h1, if_neg (by omega)]
  · rw [if_neg h1, if_pos (by omega), if_pos (by omega)]

theorem cong_one {xp yp xq yq : Nat → Int} {n s : Nat} {b : Bool} (hs : s < n) (hp : ∀ i, i < n → strK xp yp n i = false) (hq : ∀ i, i < n → strK xq yq n i = false) :
    congR xp yp xq yq n s b = congS xp yp xq yq n s b := by
  rw [Bool.eq_iff_iff]
  constructor
  · intro h
    unfold congR at h
    rw [decide_eq_true_eq] at h
    refine cong_mk (fun i hi => ?_) (fun i k hi hk => (h i hi).2 k hk)
    have := (h i hi).1
    unfold congSg at this
    rwa [sg_bend (hp i hi), sg_bend (hq _ (layN_lt hs hi))] at this
  · intro h
    obtain ⟨h1, h2⟩ := cong_all h
    unfold congR
    rw [decide_eq_true_eq]
    refine fun i hi => ⟨?_, fun k hk => h2 i k hi hk⟩
    unfold congSg
    rw [sg_bend (hp i hi), sg_bend (hq _ (layN_lt hs hi))]
    exact h1 i hi

theorem vOut_str {L : List (Int × Int)} (h : vOut L = true) : ∀ i, i < L.length → strK (px L) (py L) L.length i = false := by
  unfold vOut at h
  simp only [Bool.and_eq_true, decide_eq_true_eq] at h
  exact firstS_neg.1 h.2.2.2.1

end Go.Proofs.Ytlocdadkhdcedaa
