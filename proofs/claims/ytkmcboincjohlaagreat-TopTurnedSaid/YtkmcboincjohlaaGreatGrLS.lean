/- The abstract machine, part GrLS. -/
import Derived.Test.YtkmcboincjohlaaGreatGrLI
import Derived.Test.YtkmcboincjohlaaGreatGrLL
import Derived.Test.YtkmcboincjohlaaGreatGrLK
import Derived.Test.YtkmcboincjohlaaGreatGrLM
import Derived.Laws.OwnMore
import Derived.Laws.AppendOwn
/- Walks: laid. -/
namespace Go.Proofs.YtkmcboincjohlaaGreat
open Go Go.RowKit Go.Proofs

/-- The corner on which a setting lays a corner. -/
def layI (s : Int) (b : Bool) (n i : Int) : Int := if b then (if Plain.ed s true n i + 1 < n then Plain.ed s true n i + 1 else 0) else Plain.ed s false n i

theorem layI_range {s n i : Int} {b : Bool} (h1 : 0 ≤ s) (h2 : s < n) (h3 : 0 ≤ i) (h4 : i < n) : 0 ≤ layI s b n i ∧ layI s b n i < n := by
  have a1 := Plain.ed_range (b := true) h1 h2 h3 h4
  have a2 := Plain.ed_range (b := false) h1 h2 h3 h4
  unfold layI
  cases b <;> simp <;> (try split) <;> omega

set_option maxHeartbeats 1000000 in
theorem laid_any (s n i : Int) (b : Bool) (w : World) (h0 : 3 ≤ n) (hn : n ≤ 24) (h1 : 0 ≤ s) (h2 : s < n) (h3 : 0 ≤ i) (h4 : i < n) :
    Calls Tryz.prog 62 #[st s b, .int .i64 n, .int .i64 i] w fun e w' => e = .returned (.int .i64 (layI s b n i)) ∧ Below w.heap.size w w' := by
  have C := fun w => edge_any s n i b w h0 hn h1 h2 h3 h4
  have R := Plain.ed_range (b := b) h1 h2 h3 h4
  cases b
  · obtain ⟨e, he⟩ : ∃ e, Plain.ed s false n i = e := ⟨_, rfl⟩
    rw [he] at C R
    have E : layI s false n i = e := by unfold layI; simp [he]
    rw [E]
    clear he E
    go_enter Tryz.func62, Tryz.ntmps62
    go_wp2_with fail
    have n1 := st_new w s false
    refine (C _).mono ?_
    rintro _ w1 ⟨rfl, hb⟩
    have kb := keep_below ((Below.refl _ _).alloc (Nat.le_refl _) (stObj s false)) hb
    clear hb n1 C
    go_wp2
    go_ret
    exact ⟨rfl, kb⟩
  · obtain ⟨e, he⟩ : ∃ e, Plain.ed s true n i = e := ⟨_, rfl⟩
    rw [he] at C R
    have E : (e + 1) % n = layI s true n i := by
      unfold layI
      simp only [if_true, he]
      split
      · rw [Plain.mod_lo] <;> omega
      · rw [show e + 1 = n by omega]; simp
    obtain ⟨r, hr⟩ : ∃ r, layI s true n i = r := ⟨_, rfl⟩
    rw [hr] at E ⊢
    have E2 : (e + 1).tmod n = r := by rw [← E, Int.tmod_eq_emod_of_nonneg (by omega)]
    have hn0 : ¬ n = 0 := by omega
    clear he hr
    go_enter Tryz.func62, Tryz.ntmps62
    go_wp2_with fail
    refine (C _).mono ?_
    rintro _ w1 ⟨rfl, hb⟩
    have kb := keep_below ((Below.refl _ _).alloc (Nat.le_refl _) (stObj s true)) hb
    clear hb C
    go_wp2
    go_ret
    exact ⟨rfl, kb⟩

end Go.Proofs.YtkmcboincjohlaaGreat

/- Walks: congruent. -/
namespace Go.Proofs.YtkmcboincjohlaaGreat
open Go Go.RowKit Go.Proofs

def layN (n s : Nat) (b : Bool) (i : Nat) : Nat := (layI s b n i).toNat

theorem layN_int {n s i : Nat} {b : Bool} (hs : s < n) (hi : i < n) : (layN n s b i : Int) = layI s b n i := by
  have := layI_range (s := s) (n := n) (i := i) (b := b) (by omega) (by omega) (by omega) (by omega)
  unfold layN
  omega

theorem layN_lt {n s i : Nat} {b : Bool} (hs : s < n) (hi : i < n) : layN n s b i < n := by
  have := layI_range (s := s) (n := n) (i := i) (b := b) (by omega) (by omega) (by omega) (by omega)
  unfold layN
  omega

/-- Do the corners i and k lie as they must? -/
def congSq (xp yp xq yq : Nat → Int) (n s : Nat) (b : Bool) (i k : Nat) : Prop := square (xp i) (yp i) (xp k) (yp k) = square (xq (layN n s b i)) (yq (layN n s b i)) (xq (layN n s b k)) (yq (layN n s b k))
def congBd (xp yp xq yq : Nat → Int) (n s : Nat) (b : Bool) (i : Nat) : Prop := bendS xp yp n i = bendS xq yq n (layN n s b i)
instance (xp yp xq yq : Nat → Int) (n s : Nat) (b : Bool) (i k : Nat) : Decidable (congSq xp yp xq yq n s b i k) := by unfold congSq; infer_instance
instance (xp yp xq yq : Nat → Int) (n s : Nat) (b : Bool) (i : Nat) : Decidable (congBd xp yp xq yq n s b i) := by unfold congBd; infer_instance
def congS (xp yp xq yq : Nat → Int) (n s : Nat) (b : Bool) : Bool := decide (∀ i, i < n → congBd xp yp xq yq n s b i ∧ ∀ k, k < i → congSq xp yp xq yq n s b i k)

theorem own_bend {W : World} {base g n cap : Nat} {xs ys : Nat → Int} (h : W.ownsRow base 3 1 (.slice (some ⟨g, 0, none⟩) n cap) n (bendL xs ys n (List.range n))) : ∀ j, j < n → W.cell? ⟨g, j, none⟩ = some (.int .i64 (bendS xs ys n j)) := by
  intro j hj
  rw [h.cellAt j (by omega)]
  unfold bendL
  rw [List.getElem?_map, List.getElem?_range hj]
  rfl

set_option maxRecDepth 100000 in
set_option maxHeartbeats 8000000 in
theorem congruent_any (bp op cp bq oq cq n : Nat) (xp yp xq yq : Nat → Int) (h3 : 3 ≤ n) (h24 : n ≤ 24) (smp : ∀ k, Small (xp k) ∧ Small (yp k)) (smq : ∀ k, Small (xq k) ∧ Small (yq k)) (s : Nat) (hs : s < n) (bb : Bool) (w : World)
    (hcp : ∀ k, k < n → w.cell? ⟨bp, op + k * 2, none⟩ = some (.int .i64 (xp k)) ∧ w.cell? ⟨bp, op + k * 2 + 1, none⟩ = some (.int .i64 (yp k)))
    (hcq : ∀ k, k < n → w.cell? ⟨bq, oq + k * 2, none⟩ = some (.int .i64 (xq k)) ∧ w.cell? ⟨bq, oq + k * 2 + 1, none⟩ = some (.int .i64 (yq k))) :
    Calls Tryz.prog 29 #[.slice (some ⟨bp, op, none⟩) n cp, .slice (some ⟨bq, oq, none⟩) n cq, st s bb] w fun e w' => e = .returned (.bool (congS xp yp xq yq n s bb)) ∧ Below w.heap.size w w' := by
  have HP := Lib.hid hcp
  have HQ := Lib.hid hcq
  have lp := lt_of_cell (hcp 0 (by omega)).1
  have lq := lt_of_cell (hcq 0 (by omega)).1
  clear hcp hcq
  have n0 := st_new w s bb
  obtain ⟨W0, hW0⟩ : ∃ W0, w.alloc (stObj s bb) = W0 := ⟨_, rfl⟩
  have B0 : Below w.heap.size w W0 := by rw [← hW0]; exact (Below.refl _ _).alloc (Nat.le_refl _) _
  rw [hW0] at n0
  have S0 := n0.1
  have S1 := n0.2
  clear n0
  have hl0 : 0 < n := by omega
  go_enter Tryz.func29, Tryz.ntmps29
  go_wp2_with fail
  clear hW0
  refine (bends_any bp op n cp xp yp (by omega) smp W0 (fun k hk => ⟨keep_cell2 B0 (HP.out k hk).1, keep_cell2 B0 (HP.out k hk).2⟩) (Nat.lt_of_lt_of_le lp B0.size)).mono ?_
  rintro e w1 ⟨v1, rfl, o1, hb⟩
  have B1 := keep_below B0 hb
  replace S0 := keep_cell hb S0
  replace S1 := keep_cell hb S1
  clear hb B0
  obtain ⟨g1, c1, rfl⟩ := own_slice o1 hl0
  have BP := own_bend o1
  clear o1
  go_wp2_with fail
  refine (bends_any bq oq n cq xq yq (by omega) smq w1 (fun k hk => ⟨keep_cell2 B1 (HQ.out k hk).1, keep_cell2 B1 (HQ.out k hk).2⟩) (Nat.lt_of_lt_of_le lq B1.size)).mono ?_
  rintro e w2 ⟨v2, rfl, o2, hb⟩
  have B2 := keep_below B1 hb
  replace S0 := keep_cell hb S0
  replace S1 := keep_cell hb S1
  have BP2 := Lib.hid (fun j hj => keep_cell2 hb (BP j hj))
  clear hb B1 BP
  obtain ⟨g2, c2, rfl⟩ := own_slice o2 hl0
  have BQ2 := Lib.hid (own_bend o2)
  clear o2
  have HP2 := Lib.hid (fun k hk => And.intro (keep_cell2 B2 (HP.out k hk).1) (keep_cell2 B2 (HP.out k hk).2))
  have HQ2 := Lib.hid (fun k hk => And.intro (keep_cell2 B2 (HQ.out k hk).1) (keep_cell2 B2 (HQ.out k hk).2))
  clear HP HQ lp lq
  go_wp2_with fail
  go_loopw [21] (fun i wr => ∃ k : Nat, k ≤ n ∧ i = .int .i64 k ∧ Below w2.heap.size w2 wr ∧ ∀ i, i < k → congBd xp yp xq yq n s bb i ∧ ∀ k, k < i → congSq xp yp xq yq n s bb i k) (fun i _ => n - (intOf i).toNat)
  case atStart => exact ⟨0, Nat.zero_le _, rfl, Below.refl _ _, by simp⟩
  case round =>
    obtain ⟨i, hi, rfl, hbel, hall⟩ := hrel
    have HA := Lib.hid hall
    clear hall
    by_cases hlt : i < n
    · have j1 : (i : Int) < (n : Int) := by omega
      have hli := layN_lt (b := bb) hs hlt
      have LI := fun w => laid_any s n i bb w (by omega) (by omega) (by omega) (by omega) (by omega) (by omega)
      rw [← layN_int (b := bb) hs hlt] at LI
      have s0 := keep_cell2 hbel S0
      have s1 := keep_cell2 hbel S1
      go_wp2_with fail
      refine (LI _).mono ?_
      rintro e w3 ⟨rfl, hb⟩
      have hbel3 := keep_below hbel hb
      clear hb s0 s1 hbel
      obtain ⟨li, hli2⟩ : ∃ li, layN n s bb i = li := ⟨_, rfl⟩
      rw [hli2] at hli
      have j2 : (li : Int) < (n : Int) := by omega
      have p0 := keep_cell2 hbel3 (BP2.out i hlt)
      have q0 := keep_cell2 hbel3 (BQ2.out li hli)
      have HB : Hid (congBd xp yp xq yq n s bb i ↔ bendS xp yp n i = bendS xq yq n li) := Lib.hid (by rw [← hli2]; exact Iff.rfl)
      obtain ⟨x, hx⟩ : ∃ x, bendS xp yp n i = x := ⟨_, rfl⟩
      obtain ⟨y, hy⟩ : ∃ y, bendS xq yq n li = y := ⟨_, rfl⟩
      rw [hx] at p0
      rw [hy] at q0
      have HX := Lib.hid hx
      have HY := Lib.hid hy
      have HL := Lib.hid hli2
      clear hx hy hli2
      rw [HL.out]
      clear LI
      go_wp2_with fail
      have G0 := grow_cell p0
      have G1 := grow_cell q0
      refine wp_region_grow (by kernel_rfl) (by kernel_rfl) ?_
      repeat (go_big_quiet_step (fail))
      refine wpQuiet_nil ?_
      rintro w4 ⟨z, hz⟩
      have hb : Below w3.heap.size w3 w4 := by rw [hz]; exact z.b
      clear hz z G0 G1 p0 q0
      have hbel4 := keep_below hbel3 hb
      clear hb hbel3
      by_cases hxy : x = y
      · have HBi := Lib.hid (HB.out.2 (by rw [HX.out, HY.out]; exact hxy))
        clear HB HX HY
        go_wp2_with fail
        go_loopw [38] (fun k wi => ∃ k' : Nat, k' ≤ i ∧ k = .int .i64 k' ∧ Below w2.heap.size w2 wi ∧ ∀ k, k < k' → congSq xp yp xq yq n s bb i k) (fun k _ => i - (intOf k).toNat)
        case atStart => exact ⟨0, Nat.zero_le _, rfl, hbel4, by simp⟩
        case round =>
          obtain ⟨k, hk, rfl, hbel5, hin⟩ := hrel
          have HI := Lib.hid hin
          clear hin hbel4
          by_cases hkl : k < i
          · have j3 : (k : Int) < (i : Int) := by omega
            have hkn : k < n := by omega
            have j3n : (k : Int) < (n : Int) := by omega
            have hlk := layN_lt (b := bb) hs hkn
            have LK := fun w => laid_any s n k bb w (by omega) (by omega) (by omega) (by omega) (by omega) (by omega)
            rw [← layN_int (b := bb) hs hkn] at LK
            obtain ⟨lk, hlk2⟩ : ∃ lk, layN n s bb k = lk := ⟨_, rfl⟩
            rw [hlk2] at hlk LK
            have j4 : (lk : Int) < (n : Int) := by omega
            have HSq : Hid (congSq xp yp xq yq n s bb i k ↔ square (xp i) (yp i) (xp k) (yp k) = square (xq li) (yq li) (xq lk) (yq lk)) := Lib.hid (by rw [← hlk2, ← HL.out]; exact Iff.rfl)
            clear hlk2
            have a0 := keep_cell2 hbel5 (HP2.out i hlt).1
            have a1 := keep_cell2 hbel5 (HP2.out i hlt).2
            have b0 := keep_cell2 hbel5 (HP2.out k hkn).1
            have b1 := keep_cell2 hbel5 (HP2.out k hkn).2
            have d0 := keep_cell2 hbel5 (HQ2.out li hli).1
            have d1 := keep_cell2 hbel5 (HQ2.out li hli).2
            have e0 := keep_cell2 hbel5 (HQ2.out lk hlk).1
            have e1 := keep_cell2 hbel5 (HQ2.out lk hlk).2
            have s0 := keep_cell2 hbel5 S0
            have s1 := keep_cell2 hbel5 S1
            have M1 := fun w => square_any (xp i) (yp i) (xp k) (yp k) w (smp _).1 (smp _).2 (smp _).1 (smp _).2
            have M2 := fun w => square_any (xq li) (yq li) (xq lk) (yq lk) w (smq _).1 (smq _).2 (smq _).1 (smq _).2
            obtain ⟨u1, hu1⟩ : ∃ u, square (xp i) (yp i) (xp k) (yp k) = u := ⟨_, rfl⟩
            obtain ⟨u2, hu2⟩ : ∃ u, square (xq li) (yq li) (xq lk) (yq lk) = u := ⟨_, rfl⟩
            rw [hu1] at M1
            rw [hu2] at M2
            have HSq2 : Hid (congSq xp yp xq yq n s bb i k ↔ u1 = u2) := Lib.hid (by rw [← hu1, ← hu2]; exact HSq.out)
            clear hu1 hu2 HSq
            generalize xp i = x1, yp i = y1, xp k = x2, yp k = y2, xq li = x3, yq li = y3, xq lk = x4, yq lk = y4 at a0 a1 b0 b1 d0 d1 e0 e1 M1 M2
            go_wp2_with fail
            have G0 := grow_cell a0
            have G1 := grow_cell a1
            have G2 := grow_cell b0
            have G3 := grow_cell b1
            have G4 := grow_cell d0
            have G5 := grow_cell d1
            have G6 := grow_cell e0
            have G7 := grow_cell e1
            have G8 := grow_cell s0
            have G9 := grow_cell s1
            refine wp_region_grow (by kernel_rfl) (by kernel_rfl) ?_
            repeat (go_big_quiet_step ((first | (go_at_call 63; with_reducible exact calls_grow (M1 _)) | (go_at_call 63; with_reducible exact calls_grow (M2 _)) | (go_at_call 62; with_reducible exact calls_grow (LK _)))))
            refine wpQuiet_nil ?_
            rintro w5 ⟨z, hz⟩
            have hb : Below wr.heap.size wr w5 := by rw [hz]; exact z.b
            clear hz z G0 G1 G2 G3 G4 G5 G6 G7 G8 G9 a0 a1 b0 b1 d0 d1 e0 e1 s0 s1 M1 M2 LK
            have hbel6 := keep_below hbel5 hb
            clear hb
            by_cases hu : u1 = u2
            · have HK := Lib.hid (HSq2.out.2 hu)
              go_wp2
              refine ⟨⟨k + 1, by omega, by simp, hbel6, fun j hj => ?_⟩, by simp [intOf]; omega⟩
              rcases Nat.lt_or_ge j k with h | h
              · exact HI.out j h
              · obtain rfl : j = k := by omega
                exact HK.out
            · go_wp2
              go_ret
              refine ⟨?_, keep_below B2 hbel6⟩
              have : congS xp yp xq yq n s bb = false := decide_eq_false (fun hh => hu (HSq2.out.1 ((hh i hlt).2 k hkl)))
              rw [this]
              rfl
          · obtain rfl : k = i := by omega
            go_wp2
            refine ⟨⟨k + 1, by omega, by simp, hbel5, fun j hj => ?_⟩, by simp [intOf]; omega⟩
            rcases Nat.lt_or_ge j k with h | h
            · exact HA.out j h
            · obtain rfl : j = k := by omega
              exact ⟨HBi.out, HI.out⟩
      · go_wp2
        go_ret
        refine ⟨?_, keep_below B2 hbel4⟩
        have : congS xp yp xq yq n s bb = false := decide_eq_false (fun hh => hxy (by rw [← HX.out, ← HY.out]; exact HB.out.1 (hh i hlt).1))
        rw [this]
        rfl
    · obtain rfl : i = n := by omega
      go_wp2
      go_ret
      refine ⟨?_, keep_below B2 hbel⟩
      rw [show congS xp yp xq yq i s bb = true from decide_eq_true (fun j hj => HA.out j hj)]
      rfl

end Go.Proofs.YtkmcboincjohlaaGreat

/- Walks: Settings. -/
namespace Go.Proofs.YtkmcboincjohlaaGreat
open Go Go.RowKit Go.Proofs

theorem arr_not_row {W : World} {B : Nat} {c : Array Value} {t e : TypeId} (h : W.heap[B]? = some (.cells c t (0, 0))) (hte : t ≠ e) {base size k : Nat} {v : Value} {xs : List Value} (hr : W.ownsRow base e size v k xs) : some B ≠ v.ownBlock := by
  rcases hr.2 with ⟨rfl, _⟩ | ⟨g, cap, cur, rfl, _, hgb, _⟩
  · simp [Value.ownBlock]
  · intro e'
    obtain rfl : B = g := by simpa [Value.ownBlock] using e'
    have := h.symm.trans hgb
    simp at this
    exact hte this.2

/-- The settings by which the lists are congruent. -/
def settL (P Q : List (Int × Int)) (k : Nat) : List (Nat × Bool) := (allS k).filter fun p => congS (px P) (py P) (px Q) (py Q) P.length p.1 p.2

theorem settL_succ (P Q : List (Int × Int)) (k : Nat) : settL P Q (k + 1) = settL P Q k ++ [(k, false), (k, true)].filter fun p => congS (px P) (py P) (px Q) (py Q) P.length p.1 p.2 := by
  simp [settL, allS_succ, List.filter_append]

theorem settL_len (P Q : List (Int × Int)) (k : Nat) : (settL P Q k).length ≤ 2 * k := by
  rw [← allS_len k]
  exact List.length_filter_le _ _

theorem vOut_len {L : List (Int × Int)} (h : vOut L = true) : 3 ≤ L.length ∧ L.length ≤ 24 ∧ vPts L = true := by
  unfold vOut at h
  simp only [Bool.and_eq_true, decide_eq_true_eq] at h
  exact ⟨h.1, h.2.1, h.2.2.1⟩

/-- What Settings returns: the list, the error. -/
def settV (P Q : List (Int × Int)) : List (Nat × Bool) := if vOut P = true ∧ vOut Q = true ∧ P.length = Q.length then settL P Q P.length else []
def settE (P Q : List (Int × Int)) : Int := if vOut P = true ∧ vOut Q = true then 0 else 1

set_option maxRecDepth 100000 in
set_option maxHeartbeats 8000000 in
theorem settings_any (bp op cp bq oq cq : Nat) (P Q : List (Int × Int)) (lP : P.length ≤ 9223372036854775807) (lQ : Q.length ≤ 9223372036854775807) (w : World) (hP : PtsAt w bp op P) (hQ : PtsAt w bq oq Q) :
    Calls Tryz.prog 10 #[.slice (some ⟨bp, op, none⟩) P.length cp, .slice (some ⟨bq, oq, none⟩) Q.length cq] w fun e w' => ∃ v, e = .returned (.tuple #[v, .int .i64 (settE P Q)]) ∧ w'.ownsRow w.heap.size 48 2 v (settV P Q).length (encS (settV P Q)) ∧ Below w.heap.size w w' := by
  obtain ⟨i0, hi, hz0, hz1, hz2⟩ := info_parts info28
  obtain ⟨S, hS⟩ : ∃ S, settV P Q = S := ⟨_, rfl⟩
  obtain ⟨E, hE⟩ : ∃ E, settE P Q = E := ⟨_, rfl⟩
  rw [hS, hE]
  have VP := validOutline_any bp op cp P lP w hP
  have VQ := fun w' (hb : Below w.heap.size w w') => validOutline_any bq oq cq Q lQ w' (hQ.keep hb)
  have HP := Lib.hid hP
  have HQ := Lib.hid hQ
  clear hP hQ
  by_cases hvp : vOut P = true
  · rw [hvp] at VP
    have HVP := Lib.hid hvp
    go_enter Tryz.func10, Tryz.ntmps10
    go_wp2_with fail
    refine VP.mono ?_
    rintro e w1 ⟨rfl, b1⟩
    clear VP
    by_cases hvq : vOut Q = true
    · have VQ1 := VQ w1 b1
      rw [hvq] at VQ1
      have HVQ := Lib.hid hvq
      clear hvp hvq VQ
      go_wp2_with fail
      refine VQ1.mono ?_
      rintro e w2 ⟨rfl, hb⟩
      have b2 := keep_below b1 hb
      clear hb b1 VQ1
      obtain rfl : E = 0 := by rw [← hE]; unfold settE; rw [if_pos ⟨HVP.out, HVQ.out⟩]
      clear hE
      obtain ⟨h3, h24, hvp⟩ := vOut_len HVP.out
      obtain ⟨h3q, h24q, hvq⟩ := vOut_len HVQ.out
      have smp := Lib.hid (vPts_small hvp)
      have smq := Lib.hid (vPts_small hvq)
      clear hvp hvq
      by_cases hpq : P.length = Q.length
      · have HV : S = settL P Q P.length := by rw [← hS]; unfold settV; rw [if_pos ⟨HVP.out, HVQ.out, hpq⟩]
        clear hS
        have hQ' : ∀ k, k < P.length → w.cell? ⟨bq, oq + k * 2, none⟩ = some (.int .i64 (px Q k)) ∧ w.cell? ⟨bq, oq + k * 2 + 1, none⟩ = some (.int .i64 (py Q k)) := fun k hk => HQ.out k (hpq ▸ hk)
        have hP' : ∀ k, k < P.length → w.cell? ⟨bp, op + k * 2, none⟩ = some (.int .i64 (px P k)) ∧ w.cell? ⟨bp, op + k * 2 + 1, none⟩ = some (.int .i64 (py P k)) := HP.out
        rw [← hpq]
        have HS := settL_succ P Q
        have HL := settL_len P Q
        have H0 : settL P Q 0 = [] := rfl
        have smp' := smp.out
        have smq' := smq.out
        clear HP HQ HVP HVQ lQ h3q h24q hpq smp smq
        generalize settL P Q = SL at HV HS HL H0
        generalize px P = xp, py P = yp at hP' HS smp'
        generalize px Q = xq, py Q = yq at hQ' HS smq'
        generalize P.length = n at lP h3 h24 HV HS hP' hQ' ⊢
        have HVx := Lib.hid HV
        have HSx := Lib.hid HS
        have HLx := Lib.hid HL
        have HPx := Lib.hid hP'
        have HQx := Lib.hid hQ'
        have smp := Lib.hid smp'
        have smq := Lib.hid smq'
        clear HV HS HL hP' hQ' smp' smq' lP
        go_wp2_with fail
        go_loopw [6, 26] (fun v i wr => ∃ k : Nat, k ≤ n ∧ i = .int .i64 k ∧ wr.ownsRow w.heap.size 48 2 v (SL k).length (encS (SL k)) ∧ Below w.heap.size w wr) (fun _ i _ => n - (intOf i).toNat)
        case atStart => exact ⟨0, Nat.zero_le _, rfl, by rw [H0]; exact World.ownsRow_nil _ _ _ _, b2⟩
        case round =>
          obtain ⟨k, hk, rfl, hown, hbel⟩ := hrel
          by_cases hlt : k < n
          · have j1 : (k : Int) < (n : Int) := by omega
            have hlk := HLx.out k
            have hnext := HSx.out k
            obtain ⟨L, hL⟩ : ∃ L, SL k = L := ⟨_, rfl⟩
            rw [hL] at hown hlk hnext
            have HN := Lib.hid hnext
            clear hnext hL b2
            go_wp2_with fail
            have hB0 : (wr.alloc (.cells #[.bool false, .bool true] 4)).heap[wr.heap.size]? = some (.cells #[.bool false, .bool true] 4 (0, 0)) := World.alloc_heap_new wr _
            have hown1 := hown.alloc (.cells #[.bool false, .bool true] 4)
            have hbel1 := hbel.alloc hbel.size (.cells #[.bool false, .bool true] 4)
            clear hown hbel
            generalize wr.heap.size = gb at hB0 ⊢
            generalize (wr.alloc (.cells #[.bool false, .bool true] 4)) = W1 at hB0 hown1 hbel1 ⊢
            obtain ⟨LM, hLM⟩ : ∃ LM : Nat → List (Nat × Bool), LM = fun m => L ++ ([(k, false), (k, true)].take m).filter fun p => congS xp yp xq yq n p.1 p.2 := ⟨_, rfl⟩
            have hLM0 : LM 0 = L := by rw [hLM]; simp
            have hLM2 : LM 2 = SL (k + 1) := by rw [hLM, HN.out]; rfl
            have hLMs : ∀ m, m < 2 → LM (m + 1) = if congS xp yp xq yq n k (decide (m = 1)) = true then LM m ++ [(k, decide (m = 1))] else LM m := by
              intro m hm
              rw [hLM]
              rcases (show m = 0 ∨ m = 1 by omega) with rfl | rfl
              · simp [List.filter_cons]; split <;> simp
              · simp [List.filter_cons]; split <;> split <;> simp_all
            have hLMl : ∀ m, m ≤ 2 → (LM m).length ≤ 2 * k + m := by
              intro m hm
              rw [hLM]
              simp only [List.length_append]
              have := List.length_filter_le (fun p : Nat × Bool => congS xp yp xq yq n p.1 p.2) ([(k, false), (k, true)].take m)
              have h2 := List.length_take_le m [(k, false), (k, true)]
              omega
            clear hLM
            have H2 := Lib.hid hLM2
            have HM := Lib.hid hLMs
            have Hl := Lib.hid hLMl
            clear hLM2 hLMs hLMl HN
            rw [← hLM0] at hown1
            clear hLM0
            go_loopw [6, 31] (fun v j wi => ∃ m : Nat, m ≤ 2 ∧ j = .int .i64 m ∧ wi.ownsRow w.heap.size 48 2 v (LM m).length (encS (LM m)) ∧ Below w.heap.size w wi ∧ wi.heap[gb]? = some (.cells #[.bool false, .bool true] 4 (0, 0))) (fun _ j _ => 2 - (intOf j).toNat)
            case atStart => exact ⟨0, by omega, rfl, hown1, hbel1, hB0⟩
            case round =>
              clear hB0 hown1 hbel1
              obtain ⟨m, hm, rfl, hown, hbel, hB⟩ := hrel
              by_cases hm2 : m < 2
              · have j2 : (m : Int) < 2 := by omega
                have hstep := HM.out m hm2
                have hlen := Hl.out m hm
                have hcell : wr.cell? ⟨gb, m, none⟩ = some (.bool (decide (m = 1))) := by
                  rcases (show m = 0 ∨ m = 1 by omega) with rfl | rfl <;> simp [World.cell?, hB]
                generalize decide (m = 1) = β at hstep hcell
                obtain ⟨LN, hLN⟩ : ∃ LN, LM (m + 1) = LN := ⟨_, rfl⟩
                obtain ⟨LL, hLL⟩ : ∃ LL, LM m = LL := ⟨_, rfl⟩
                rw [hLN, hLL] at hstep
                rw [hLL] at hown hlen
                have HLN := Lib.hid hLN
                have HST := Lib.hid hstep
                clear hLN hLL hstep
                go_wp2_with fail
                have n0 := st_new wr k β
                have b3 := hbel.alloc hbel.size (stObj k β)
                refine (congruent_any bp op cp bq oq cq n xp yp xq yq h3 h24 smp.out smq.out k hlt β _ (fun i hi => ⟨keep_cell2 b3 (HPx.out i hi).1, keep_cell2 b3 (HPx.out i hi).2⟩) (fun i hi => ⟨keep_cell2 b3 (HQx.out i hi).1, keep_cell2 b3 (HQx.out i hi).2⟩)).mono ?_
                rintro e w5 ⟨rfl, hb⟩
                have s0 := keep_cell hb n0.1
                have s1 := keep_cell hb n0.2
                have b5 := keep_below b3 hb
                have o5 := own_keep (hown.alloc (stObj k β)) hb
                have hB5 : w5.heap[gb]? = some (.cells #[.bool false, .bool true] 4 (0, 0)) := by
                  have h1 : gb < wr.heap.size := (Array.getElem?_eq_some_iff.1 hB).1
                  rw [hb.block gb (by simp; omega), Below.heap_alloc _ _ gb h1, hB]
                clear hb n0 b3 hown hB hbel hcell
                obtain ⟨c, hc⟩ : ∃ c, congS xp yp xq yq n k β = c := ⟨_, rfl⟩
                rw [hc] at HST ⊢
                clear hc
                cases c
                · go_wp2
                  refine ⟨⟨m + 1, by omega, by simp, ?_, b5, hB5⟩, by simp [intOf]; omega⟩
                  rw [HLN.out, HST.out]
                  exact o5
                · go_wp2_with (at_builtin; refine wpList_append_own _ rfl _ _ 42 rfl w.heap.size 48 i0 (.agg #[.int .i64 0, .bool false]) 2 16 Tryz.underlying42 hi hz0 hz1 hz2 rfl (by decide) _ _ _ rfl (o5.alloc _) _ 1 1 [.int .i64 k, .bool β] rfl rfl (st_two_new _ _ _) (st_two_cells _ _) (by unfold maxLen; omega) (by first | omega | (simp; done) | (simp; omega)) (by have := b5.size; simp; omega) ?_; intro v1 w6 hown6 hgrow6 hnil6)
                  have hne := arr_not_row (h := (Below.heap_alloc w5 (stObj k β) gb (Array.getElem?_eq_some_iff.1 hB5).1).trans hB5) (by decide) (o5.alloc (stObj k β))
                  have hB6 : w6.heap[gb]? = some (.cells #[.bool false, .bool true] 4 (0, 0)) := by
                    have h1 : gb < w5.heap.size := (Array.getElem?_eq_some_iff.1 hB5).1
                    rw [hgrow6.block gb (by simp; omega) hne, Below.heap_alloc _ _ gb h1, hB5]
                  have b6 := (b5.alloc b5.size (stObj k β)).grown hgrow6 (by have := b5.size; simp; omega) (fun j hj => (o5.lt j hj).1)
                  refine ⟨⟨m + 1, by omega, by simp, ?_, b6, hB6⟩, by simp [intOf]; omega⟩
                  have hLNv : LN = LL ++ [(k, β)] := by rw [HST.out]; simp
                  rw [HLN.out, hLNv, encS_snoc]
                  simpa using hown6
              · obtain rfl : m = 2 := by omega
                go_wp2
                rw [H2.out] at hown
                exact ⟨⟨k + 1, by omega, by simp, hown, hbel⟩, by simp [intOf]; omega⟩
          · obtain rfl : k = n := by omega
            go_wp2
            go_ret2
            rw [HVx.out]
            exact ⟨_, rfl, hown, hbel⟩
      · have hpq' : ¬ (P.length : Int) = (Q.length : Int) := by omega
        obtain rfl : S = [] := by rw [← hS]; unfold settV; rw [if_neg (fun h => hpq h.2.2)]
        go_wp2
        go_ret2
        exact ⟨_, rfl, World.ownsRow_nil _ _ _ _, b2⟩
    · have VQ1 := VQ w1 b1
      have hvq' : vOut Q = false := by simpa using hvq
      rw [hvq'] at VQ1
      obtain rfl : S = [] := by rw [← hS]; unfold settV; rw [if_neg (fun h => hvq h.2.1)]
      obtain rfl : E = 1 := by rw [← hE]; unfold settE; rw [if_neg (fun h => hvq h.2)]
      clear hS hE
      clear hvp hvq hvq' VQ
      go_wp2_with fail
      refine VQ1.mono ?_
      rintro e w2 ⟨rfl, hb⟩
      have b2 := keep_below b1 hb
      clear hb b1 VQ1
      go_wp2
      go_ret2
      exact ⟨_, rfl, World.ownsRow_nil _ _ _ _, b2⟩
  · have hvp' : vOut P = false := by simpa using hvp
    rw [hvp'] at VP
    obtain rfl : S = [] := by rw [← hS]; unfold settV; rw [if_neg (fun h => hvp h.1)]
    obtain rfl : E = 1 := by rw [← hE]; unfold settE; rw [if_neg (fun h => hvp h.1)]
    clear hS hE hvp hvp' VQ
    go_enter Tryz.func10, Tryz.ntmps10
    go_wp2_with fail
    refine VP.mono ?_
    rintro e w1 ⟨rfl, b1⟩
    clear VP
    go_wp2
    go_ret2
    exact ⟨_, rfl, World.ownsRow_nil _ _ _ _, b1⟩

end Go.Proofs.YtkmcboincjohlaaGreat

/- Settings: the plain law of congruent lists. -/
namespace Go.Proofs.YtkmcboincjohlaaGreat
open Go Go.RowKit Go.Proofs

section
variable {xp yp xq yq xr yr : Nat → Int} {n s t : Nat} {b c : Bool}

end

end Go.Proofs.YtkmcboincjohlaaGreat

/- Walks: Settings of the plane, of any slices. -/
namespace Go.Proofs.YtkmcboincjohlaaGreat
open Go Go.RowKit Go.Proofs

set_option maxHeartbeats 1000000 in
theorem settings_bad1 (v1 v2 : Value) (w : World) (h1 : Calls Tryz.prog 19 #[v1] w fun e w' => e = .returned (.bool false) ∧ Below w.heap.size w w') :
    Calls Tryz.prog 10 #[v1, v2] w fun e w' => e = .returned (.tuple #[.slice none 0 0, .int .i64 1]) ∧ Below w.heap.size w w' := by
  go_enter Tryz.func10, Tryz.ntmps10
  go_wp2_with fail
  refine h1.mono ?_
  rintro e w1 ⟨rfl, b1⟩
  go_wp2
  go_ret2
  exact ⟨rfl, b1⟩

set_option maxHeartbeats 1000000 in
theorem settings_bad2 (v1 v2 : Value) (w : World) (h1 : Calls Tryz.prog 19 #[v1] w fun e w' => e = .returned (.bool true) ∧ Below w.heap.size w w')
    (h2 : ∀ w', Below w.heap.size w w' → Calls Tryz.prog 19 #[v2] w' fun e w'' => e = .returned (.bool false) ∧ Below w'.heap.size w' w'') :
    Calls Tryz.prog 10 #[v1, v2] w fun e w' => e = .returned (.tuple #[.slice none 0 0, .int .i64 1]) ∧ Below w.heap.size w w' := by
  go_enter Tryz.func10, Tryz.ntmps10
  go_wp2_with fail
  refine h1.mono ?_
  rintro e w1 ⟨rfl, b1⟩
  go_wp2_with fail
  refine (h2 w1 b1).mono ?_
  rintro e w2 ⟨rfl, hb⟩
  have b2 := keep_below b1 hb
  clear hb
  go_wp2
  go_ret2
  exact ⟨rfl, b2⟩


theorem settings_sl {w : World} {v1 v2 : Value} {P Q : List (Int × Int)} (h1 : SlV w v1 P) (h2 : SlV w v2 Q) :
    Calls Tryz.prog 10 #[v1, v2] w fun e w' => ∃ v, e = .returned (.tuple #[v, .int .i64 (settE P Q)]) ∧ w'.ownsRow w.heap.size 48 2 v (settV P Q).length (encS (settV P Q)) ∧ Below w.heap.size w w' := by
  have c1 := vOut_sl h1
  have c2 := fun w' hb => vOut_sl (h2.keep (w' := w') hb)
  have bad : (vOut P = true ∧ vOut Q = true → False) → settE P Q = 1 ∧ settV P Q = [] := fun h => ⟨by unfold settE; rw [if_neg h], by unfold settV; rw [if_neg (fun hh => h ⟨hh.1, hh.2.1⟩)]⟩
  obtain ⟨a1, cap1, rfl, hl1, ⟨b1, o1, rfl, hp1⟩ | ⟨rfl, rfl, rfl⟩⟩ := h1
  · obtain ⟨a2, cap2, rfl, hl2, ⟨b2, o2, rfl, hp2⟩ | ⟨rfl, rfl, rfl⟩⟩ := h2
    · exact settings_any b1 o1 cap1 b2 o2 cap2 P Q hl1 hl2 w hp1 hp2
    · obtain ⟨e1, e2⟩ := bad (fun h => by simp [vOut_nil] at h)
      rw [e1, e2]
      cases hv : vOut P
      · rw [hv] at c1
        exact (settings_bad1 _ _ w c1).mono (fun e w' ⟨he, hb⟩ => ⟨_, he, World.ownsRow_nil _ _ _ _, hb⟩)
      · rw [hv] at c1
        exact (settings_bad2 _ _ w c1 (fun w' hb => c2 w' hb)).mono (fun e w' ⟨he, hb⟩ => ⟨_, he, World.ownsRow_nil _ _ _ _, hb⟩)
  · obtain ⟨e1, e2⟩ := bad (fun h => by simp [vOut_nil] at h)
    rw [e1, e2]
    exact (settings_bad1 _ _ w c1).mono (fun e w' ⟨he, hb⟩ => ⟨_, he, World.ownsRow_nil _ _ _ _, hb⟩)

end Go.Proofs.YtkmcboincjohlaaGreat
