/- The abstract machine, part XD. -/
import Derived.Test.YtlocdadkhdcedaaXC
import Derived.Test.YtlocdadkhdcedaaKD
import Derived.Test.YtlocdadkhdcedaaAwake
/- Walks: the reference's picked, blocks. -/
namespace Go.Proofs.Ytlocdadkhdcedaa
open Go Go.RowKit Go.Proofs Go.Abs Go.Plain

set_option maxRecDepth 100000 in
set_option maxHeartbeats 4000000 in
theorem picked_any (b off n cap g s cap2 : Nat) (xs ys : Nat → Int) (f : Nat → Nat) (w : World) (_hn : n ≤ 1000000) (hs2 : s ≤ 1000) (hf : ∀ i, i < s → f i < n) (hR : RowAt w g s f)
    (hc : ∀ k, k < n → w.cell? ⟨b, off + k * 2, none⟩ = some (.int .i64 (xs k)) ∧ w.cell? ⟨b, off + k * 2 + 1, none⟩ = some (.int .i64 (ys k))) :
    Calls Try.prog 160 #[.slice (some ⟨b, off, none⟩) n cap, .slice (some ⟨g, 0, none⟩) s cap2] w fun e w' => ∃ v, e = .returned v ∧ w'.ownsRow w.heap.size 23 2 v s (ptCells (selL xs ys f s)) ∧ Below w.heap.size w w' := by
  obtain ⟨i0, hi, hz0, hz1, hz2⟩ := info_parts info23
  have HC := Lib.hid hc
  have HF := Lib.hid hf
  clear hc hf
  go_enter Try.func160, Try.ntmps160
  go_wp2_with fail
  go_loopw [5, 6] (fun t i wr => ∃ (k : Nat) (v : Value), k ≤ s ∧ i = .int .i64 k ∧ t = v ∧ wr.ownsRow w.heap.size 23 2 v k (ptCells (selL xs ys f k)) ∧ Below w.heap.size w wr) (fun _ i _ => s - (intOf i).toNat)
  case atStart => exact ⟨0, _, Nat.zero_le _, rfl, rfl, World.ownsRow_nil _ _ _ _, Below.refl _ _⟩
  case round =>
    obtain ⟨k, v, hk, rfl, rfl, hown, hbel⟩ := hrel
    by_cases hlt : k < s
    · have j1 : (k : Int) < (s : Int) := by omega
      have fk := HF.out k hlt
      have e0 := (hR.below hbel).cell k hlt
      have p0 := keep_cell hbel (HC.out (f k) fk).1
      have p1 := keep_cell hbel (HC.out (f k) fk).2
      have j2 : (f k : Int) < (n : Int) := by omega
      have hsuc := Lib.hid (selL_succ xs ys f k)
      have hptc := Lib.hid (ptCells_snoc (selL xs ys f k) (xs (f k)) (ys (f k)))
      generalize xs (f k) = x at *
      generalize ys (f k) = y at *
      obtain ⟨q, hq⟩ : ∃ q, f k = q := ⟨_, rfl⟩
      rw [hq] at e0 p0 p1 j2
      clear hq
      go_wp2_with (at_builtin; refine wpList_append_own _ rfl _ _ 32 rfl w.heap.size 23 i0 (pt 0 0) 2 16 Try.underlying32 hi hz0 hz1 hz2 rfl (by decide) _ _ _ rfl (hown.alloc _) _ 1 1 [.int .i64 x, .int .i64 y] rfl rfl (two_new _ _ _) (two_cells _ _) (by unfold maxLen; omega) (by omega) (by have := hbel.size; simp; omega) ?_; intro v1 w3 hown1 hgrow _)
      refine ⟨⟨k + 1, v1, by omega, by simp, rfl, ?_, (hbel.alloc hbel.size _).grown hgrow (by have := hbel.size; simp; omega) (fun j e => (hown.lt j e).1)⟩, by simp [intOf]; omega⟩
      rw [hsuc.out, hptc.out]
      exact hown1
    · obtain rfl : k = s := by omega
      go_wp2
      go_ret
      exact ⟨_, rfl, hown, hbel⟩

set_option maxRecDepth 100000 in
set_option maxHeartbeats 4000000 in
theorem blocks_any (b off n cap g s cap2 : Nat) (xs ys : Nat → Int) (f : Nat → Nat) (w : World) (hn : n ≤ 1000000) (hs0 : 0 < s) (hs2 : s ≤ 1000) (hf : ∀ i, i < s → f i < n) (hR : RowAt w g s f) (hs : ∀ k, k < n → Small (xs k) ∧ Small (ys k)) (hz : Plain.NonZ xs ys n)
    (hc : ∀ k, k < n → w.cell? ⟨b, off + k * 2, none⟩ = some (.int .i64 (xs k)) ∧ w.cell? ⟨b, off + k * 2 + 1, none⟩ = some (.int .i64 (ys k))) :
    ∃ β : Bool, (β = true ↔ Blk xs ys (lst s f)) ∧ Calls Try.prog 148 #[.slice (some ⟨b, off, none⟩) n cap, .slice (some ⟨g, 0, none⟩) s cap2] w fun e w' => e = .returned (.bool β) ∧ Below w.heap.size w w' := by
  have HQ := freeD_comp (f := f) hz hf
  have hz' := nonZ_comp (f := f) hz hf
  have PK := picked_any b off n cap g s cap2 xs ys f w hn hs2 hf hR hc
  refine ⟨(freeD (fun i => xs (f i)) (fun i => ys (f i)) s).isNone, by rw [← HQ, Option.isNone_iff_eq_none], ?_⟩
  have HEX := fun g' cap' W hown => refExit0_any g' 0 s cap' (fun i => xs (f i)) (fun i => ys (f i)) W (by omega) hs0 (fun i hi => hs (f i) (hf i hi)) hz' hown
  have HNE := Lib.hid (fun d => freeD_ne (d := d) hz')
  obtain ⟨D, hD⟩ : ∃ D, freeD (fun i => xs (f i)) (fun i => ys (f i)) s = D := ⟨_, rfl⟩
  rw [hD] at HEX HNE ⊢
  clear hD HQ hz' hc hR hf hs hz
  go_enter Try.func148, Try.ntmps148
  go_wp2_with fail
  refine PK.mono ?_
  rintro e w1 ⟨v, rfl, hown, hb⟩
  obtain ⟨g', cap', rfl⟩ := own_slice hown hs0
  have FD := HEX g' cap' w1 (selL_own hown)
  cases D with
  | none =>
    simp only [dirV] at FD
    have E := fun w => run_pt_eql 0 0 0 0 w
    go_wp2_with fail
    refine FD.mono ?_
    rintro e w2 ⟨rfl, hb2⟩
    go_wp2
    go_ret
    exact ⟨rfl, keep_below hb hb2⟩
  | some d =>
    obtain ⟨dx, dy⟩ := d
    have hne := HNE.out (dx, dy) rfl
    simp only [dirV] at FD
    have E := fun w => run_pt_eql dx dy 0 0 w
    have hzz : (dx == 0 && dy == 0) = false := by
      rw [Bool.and_eq_false_iff, beq_eq_false_iff_ne, beq_eq_false_iff_ne]
      rcases Classical.em (dx = 0) with e1 | e1
      · rcases Classical.em (dy = 0) with e2 | e2
        · exact absurd (by rw [e1, e2]) hne
        · exact .inr e2
      · exact .inl e1
    rw [hzz] at E
    clear hzz hne
    go_wp2_with fail
    refine FD.mono ?_
    rintro e w2 ⟨rfl, hb2⟩
    go_wp2
    go_ret
    exact ⟨rfl, keep_below hb hb2⟩

end Go.Proofs.Ytlocdadkhdcedaa

/- Walks: the reference's blocked. -/
namespace Go.Proofs.Ytlocdadkhdcedaa
open Go Go.RowKit Go.Proofs Go.Abs Go.Plain

theorem row_tri (w : World) (a b c : Nat) : RowAt (w.alloc (.cells #[.int .i64 (a : Nat), .int .i64 (b : Nat), .int .i64 (c : Nat)] 3)) w.heap.size 3 (tri a b c) := by
  have h := World.alloc_heap_new w (.cells #[.int .i64 (a : Nat), .int .i64 (b : Nat), .int .i64 (c : Nat)] 3)
  refine ⟨by simp, fun k hk => cell_at h ?_, fun k hk => thaw_at h⟩
  match k, hk with
  | 0, _ => rfl
  | 1, _ => rfl
  | 2, _ => rfl
  | k + 3, h => omega

theorem own_tri (w : World) (base a b c : Nat) (hb : base ≤ w.heap.size) : (w.alloc (.cells #[.int .i64 (a : Nat), .int .i64 (b : Nat), .int .i64 (c : Nat)] 3)).ownsRow base 3 1 (.slice (some ⟨w.heap.size, 0, none⟩) 3 3) 3 (numL 3 (tri a b c)) :=
  ⟨rfl, .inr ⟨w.heap.size, 3, _, rfl, hb, World.alloc_heap_new w _, by simp, by unfold maxLen; omega, rfl, rfl⟩⟩

theorem row_quad (w : World) (a b c d : Nat) : RowAt (w.alloc (.cells #[.int .i64 (a : Nat), .int .i64 (b : Nat), .int .i64 (c : Nat), .int .i64 (d : Nat)] 3)) w.heap.size 4 (quad a b c d) := by
  have h := World.alloc_heap_new w (.cells #[.int .i64 (a : Nat), .int .i64 (b : Nat), .int .i64 (c : Nat), .int .i64 (d : Nat)] 3)
  refine ⟨by simp, fun k hk => cell_at h ?_, fun k hk => thaw_at h⟩
  match k, hk with
  | 0, _ => rfl
  | 1, _ => rfl
  | 2, _ => rfl
  | 3, _ => rfl
  | k + 4, h => omega

theorem own_quad (w : World) (base a b c d : Nat) (hb : base ≤ w.heap.size) : (w.alloc (.cells #[.int .i64 (a : Nat), .int .i64 (b : Nat), .int .i64 (c : Nat), .int .i64 (d : Nat)] 3)).ownsRow base 3 1 (.slice (some ⟨w.heap.size, 0, none⟩) 4 4) 4 (numL 4 (quad a b c d)) :=
  ⟨rfl, .inr ⟨w.heap.size, 4, _, rfl, hb, World.alloc_heap_new w _, by simp, by unfold maxLen; omega, rfl, rfl⟩⟩

set_option maxRecDepth 100000 in
set_option maxHeartbeats 16000000 in
theorem blocked_any (b off n cap : Nat) (xs ys : Nat → Int) (w : World) (hn : n ≤ 1000) (hs : ∀ k, k < n → Small (xs k) ∧ Small (ys k)) (hz : Plain.NonZ xs ys n)
    (hc : ∀ k, k < n → w.cell? ⟨b, off + k * 2, none⟩ = some (.int .i64 (xs k)) ∧ w.cell? ⟨b, off + k * 2 + 1, none⟩ = some (.int .i64 (ys k))) (hB : Blk xs ys (List.range n)) :
    Calls Try.prog 120 #[.slice (some ⟨b, off, none⟩) n cap] w fun e w' => ∃ s f v, e = .returned v ∧ LeastB xs ys n s f ∧ w'.ownsRow w.heap.size 3 1 v s (numL s f) ∧ Below w.heap.size w w' := by
  have BT : ∀ (a c d : Nat) (W : World), Below w.heap.size w W → a < c → c < d → d < n → ∃ β : Bool, (β = true ↔ Blk xs ys (lst 3 (tri a c d))) ∧ Calls Try.prog 148 #[.slice (some ⟨b, off, none⟩) n cap, .slice (some ⟨W.heap.size, 0, none⟩) 3 3] (W.alloc (.cells #[.int .i64 (a : Nat), .int .i64 (c : Nat), .int .i64 (d : Nat)] 3)) fun e w' => e = .returned (.bool β) ∧ Below (W.alloc (.cells #[.int .i64 (a : Nat), .int .i64 (c : Nat), .int .i64 (d : Nat)] 3)).heap.size (W.alloc (.cells #[.int .i64 (a : Nat), .int .i64 (c : Nat), .int .i64 (d : Nat)] 3)) w' :=
    fun a c d W hW h1 h2 h3 => blocks_any b off n cap W.heap.size 3 3 xs ys (tri a c d) _ (by omega) (by omega) (by omega) (tri_cho h1 h2 h3).lt (row_tri W a c d) hs hz (fun k hk => ⟨keep_cell (hW.alloc hW.size _) (hc k hk).1, keep_cell (hW.alloc hW.size _) (hc k hk).2⟩)
  have BQ : ∀ (a c d e : Nat) (W : World), Below w.heap.size w W → a < c → c < d → d < e → e < n → ∃ β : Bool, (β = true ↔ Blk xs ys (lst 4 (quad a c d e))) ∧ Calls Try.prog 148 #[.slice (some ⟨b, off, none⟩) n cap, .slice (some ⟨W.heap.size, 0, none⟩) 4 4] (W.alloc (.cells #[.int .i64 (a : Nat), .int .i64 (c : Nat), .int .i64 (d : Nat), .int .i64 (e : Nat)] 3)) fun e' w' => e' = .returned (.bool β) ∧ Below (W.alloc (.cells #[.int .i64 (a : Nat), .int .i64 (c : Nat), .int .i64 (d : Nat), .int .i64 (e : Nat)] 3)).heap.size (W.alloc (.cells #[.int .i64 (a : Nat), .int .i64 (c : Nat), .int .i64 (d : Nat), .int .i64 (e : Nat)] 3)) w' :=
    fun a c d e W hW h1 h2 h3 h4 => blocks_any b off n cap W.heap.size 4 4 xs ys (quad a c d e) _ (by omega) (by omega) (by omega) (quad_cho h1 h2 h3 h4).lt (row_quad W a c d e) hs hz (fun k hk => ⟨keep_cell (hW.alloc hW.size _) (hc k hk).1, keep_cell (hW.alloc hW.size _) (hc k hk).2⟩)
  have HBT := Lib.hid BT
  have HBQ := Lib.hid BQ
  clear BT BQ hc hs hz
  have HB := Lib.hid hB
  clear hB
  go_enter Try.func120, Try.ntmps120
  go_wp2_with fail
  go_loopw [4] (fun i wr => ∃ a : Nat, a ≤ n ∧ i = .int .i64 a ∧ Below w.heap.size w wr ∧ Past3 xs ys n a 0 0) (fun i _ => n - (intOf i).toNat)
  case atStart => exact ⟨0, Nat.zero_le _, rfl, Below.refl _ _, past3_start n⟩
  case round =>
    obtain ⟨a, ha, rfl, hbel, hP⟩ := hrel
    have HP := Lib.hid hP
    clear hP
    by_cases hla : a < n
    · have ja : (a : Int) < (n : Int) := by omega
      go_wp2_with fail
      go_loopw [5] (fun i wr => ∃ c : Nat, a + 1 ≤ c ∧ c ≤ n ∧ i = .int .i64 c ∧ Below w.heap.size w wr ∧ Past3 xs ys n a c 0) (fun i _ => n - (intOf i).toNat)
      case atStart => exact ⟨a + 1, Nat.le_refl _, by omega, by simp, hbel, past3_b HP.out⟩
      case round =>
        obtain ⟨c, hc1, hc2, rfl, hbel2, hP2⟩ := hrel
        have HP2 := Lib.hid hP2
        clear hP2 hbel
        by_cases hlc : c < n
        · have jc : (c : Int) < (n : Int) := by omega
          go_wp2_with fail
          go_loopw [6] (fun i wr => ∃ d : Nat, c + 1 ≤ d ∧ d ≤ n ∧ i = .int .i64 d ∧ Below w.heap.size w wr ∧ Past3 xs ys n a c d) (fun i _ => n - (intOf i).toNat)
          case atStart => exact ⟨c + 1, Nat.le_refl _, by omega, by simp, hbel2, past3_c HP2.out⟩
          case round =>
            obtain ⟨d, hd1, hd2, rfl, hbel3, hP3⟩ := hrel
            have HP3 := Lib.hid hP3
            clear hP3 hbel2
            by_cases hld : d < n
            · have jd : (d : Int) < (n : Int) := by omega
              obtain ⟨β, hβ, CB⟩ := HBT.out a c d wr hbel3 (by omega) (by omega) hld
              have HBE := Lib.hid hβ
              clear hβ
              go_wp2_with fail
              refine CB.mono ?_
              rintro e w2 ⟨rfl, hb⟩
              have b2 := keep_below (hbel3.alloc hbel3.size _) hb
              clear hb CB
              cases β
              · go_wp2
                refine ⟨⟨d + 1, by omega, by omega, by simp, b2, past3_step HP3.out (fun h => ?_)⟩, by simp [intOf]; omega⟩
                have := HBE.out.2 h
                cases this
              · have hbl := HBE.out.1 rfl
                go_wp2
                go_ret
                exact ⟨3, tri a c d, _, rfl, past3_least HP3.out hbl (by omega) (by omega) hld, own_tri w2 w.heap.size a c d b2.size, b2.alloc b2.size _⟩
            · obtain rfl : d = n := by omega
              go_wp2
              exact ⟨⟨c + 1, by omega, by omega, by simp, hbel3, past3_upb HP3.out⟩, by simp [intOf]; omega⟩
        · obtain rfl : c = n := by omega
          go_wp2
          exact ⟨⟨a + 1, by omega, by simp, hbel2, past3_upa HP2.out⟩, by simp [intOf]; omega⟩
    · obtain rfl : n = a := by omega
      have H3 := Lib.hid (past3_all HP.out)
      clear HP
      go_wp2_with fail
      go_loopw [7] (fun i wr => ∃ a : Nat, a ≤ n ∧ i = .int .i64 a ∧ Below w.heap.size w wr ∧ Past4 xs ys n a 0 0 0) (fun i _ => n - (intOf i).toNat)
      case atStart => exact ⟨0, Nat.zero_le _, rfl, hbel, past4_start n⟩
      case round =>
        obtain ⟨a, ha, rfl, hbel1, hP⟩ := hrel
        have HP := Lib.hid hP
        clear hP hbel
        by_cases hla : a < n
        · have ja : (a : Int) < (n : Int) := by omega
          go_wp2_with fail
          go_loopw [8] (fun i wr => ∃ c : Nat, a + 1 ≤ c ∧ c ≤ n ∧ i = .int .i64 c ∧ Below w.heap.size w wr ∧ Past4 xs ys n a c 0 0) (fun i _ => n - (intOf i).toNat)
          case atStart => exact ⟨a + 1, Nat.le_refl _, by omega, by simp, hbel1, past4_b HP.out⟩
          case round =>
            obtain ⟨c, hc1, hc2, rfl, hbel2, hP2⟩ := hrel
            have HP2 := Lib.hid hP2
            clear hP2 hbel1
            by_cases hlc : c < n
            · have jc : (c : Int) < (n : Int) := by omega
              go_wp2_with fail
              go_loopw [9] (fun i wr => ∃ d : Nat, c + 1 ≤ d ∧ d ≤ n ∧ i = .int .i64 d ∧ Below w.heap.size w wr ∧ Past4 xs ys n a c d 0) (fun i _ => n - (intOf i).toNat)
              case atStart => exact ⟨c + 1, Nat.le_refl _, by omega, by simp, hbel2, past4_c HP2.out⟩
              case round =>
                obtain ⟨d, hd1, hd2, rfl, hbel3, hP3⟩ := hrel
                have HP3 := Lib.hid hP3
                clear hP3 hbel2
                by_cases hld : d < n
                · have jd : (d : Int) < (n : Int) := by omega
                  go_wp2_with fail
                  go_loopw [10] (fun i wr => ∃ q : Nat, d + 1 ≤ q ∧ q ≤ n ∧ i = .int .i64 q ∧ Below w.heap.size w wr ∧ Past4 xs ys n a c d q) (fun i _ => n - (intOf i).toNat)
                  case atStart => exact ⟨d + 1, Nat.le_refl _, by omega, by simp, hbel3, past4_d HP3.out⟩
                  case round =>
                    obtain ⟨q, hq1, hq2, rfl, hbel4, hP4⟩ := hrel
                    have HP4 := Lib.hid hP4
                    clear hP4 hbel3
                    by_cases hlq : q < n
                    · have jq : (q : Int) < (n : Int) := by omega
                      obtain ⟨β, hβ, CB⟩ := HBQ.out a c d q wr hbel4 (by omega) (by omega) (by omega) hlq
                      have HBE := Lib.hid hβ
                      clear hβ
                      go_wp2_with fail
                      refine CB.mono ?_
                      rintro e w2 ⟨rfl, hb⟩
                      have b2 := keep_below (hbel4.alloc hbel4.size _) hb
                      clear hb CB
                      cases β
                      · go_wp2
                        refine ⟨⟨q + 1, by omega, by omega, by simp, b2, past4_step HP4.out (fun h => ?_)⟩, by simp [intOf]; omega⟩
                        have := HBE.out.2 h
                        cases this
                      · have hbl := HBE.out.1 rfl
                        go_wp2
                        go_ret
                        exact ⟨4, quad a c d q, _, rfl, past4_least H3.out HP4.out hbl (by omega) (by omega) (by omega) hlq, own_quad w2 w.heap.size a c d q b2.size, b2.alloc b2.size _⟩
                    · obtain rfl : n = q := by omega
                      go_wp2
                      exact ⟨⟨d + 1, by omega, by omega, by simp, hbel4, past4_upc HP4.out⟩, by simp [intOf]; omega⟩
                · obtain rfl : n = d := by omega
                  go_wp2
                  exact ⟨⟨c + 1, by omega, by omega, by simp, hbel3, past4_upb HP3.out⟩, by simp [intOf]; omega⟩
            · obtain rfl : n = c := by omega
              go_wp2
              exact ⟨⟨a + 1, by omega, by simp, hbel2, past4_upa HP2.out⟩, by simp [intOf]; omega⟩
        · exfalso
          obtain rfl : n = a := by omega
          have h4 := past4_all HP.out
          obtain ⟨s, f, hs, hf, hk⟩ := blk_four HB.out
          rcases hs with rfl | rfl
          · exact H3.out f hf hk
          · exact h4 f hf hk

end Go.Proofs.Ytlocdadkhdcedaa

/- Walks: the reference's Exit. -/
namespace Go.Proofs.Ytlocdadkhdcedaa
open Go Go.RowKit Go.Proofs Go.Abs Go.Plain

set_option maxRecDepth 100000 in
set_option maxHeartbeats 8000000 in
theorem refExit_any (b off n cap : Nat) (xs ys : Nat → Int) (w : World) (hpos : 0 < n) (hbig : n ≤ 9223372036854775807)
    (hc : ∀ k, k < n → w.cell? ⟨b, off + k * 2, none⟩ = some (.int .i64 (xs k)) ∧ w.cell? ⟨b, off + k * 2 + 1, none⟩ = some (.int .i64 (ys k))) :
    Calls Try.prog 62 #[.slice (some ⟨b, off, none⟩) n cap] w fun e w' => ∃ dv bv E, e = .returned (.tuple #[dv, bv, .int .i64 E]) ∧ ExitS xs ys n w.heap.size w' dv bv E ∧ Below w.heap.size w w' := by
  have HC := Lib.hid hc
  clear hc
  have p0 := Pb.new w 0 0
  have b0 : Below w.heap.size w (w.alloc (ptObj 0 0)) := (Below.refl _ _).alloc (Nat.le_refl _) _
  by_cases h24 : n ≤ 24
  · have i0 : ¬ (n : Int) > 24 := by omega
    go_enter Try.func62, Try.ntmps62
    go_wp2_with fail
    go_loopw [5] (fun i wr => ∃ k : Nat, k ≤ n ∧ i = .int .i64 k ∧ Below w.heap.size w wr ∧ Pb wr w.heap.size 0 0 ∧ allN xs ys k = true) (fun i _ => n - (intOf i).toNat)
    case atStart => exact ⟨0, Nat.zero_le _, rfl, b0, p0, rfl⟩
    case round =>
      clear b0 p0
      obtain ⟨k, hk, rfl, hbel, hp, hall⟩ := hrel
      have HA := Lib.hid hall
      clear hall
      have r0 := hp.c0
      have r1 := hp.c1
      have r2 := hp.f 0
      have r3 := hp.f 1
      by_cases hlt : k < n
      · have j1 : (k : Int) < (n : Int) := by omega
        have e0 := keep_cell hbel (HC.out k hlt).1
        have e1 := keep_cell hbel (HC.out k hlt).2
        have V := fun w => refNormal_any (xs k) (ys k) w
        obtain ⟨v, hv⟩ : ∃ v, validN (xs k) (ys k) = v := ⟨_, rfl⟩
        rw [hv] at V
        have HV := Lib.hid hv
        clear hv
        obtain ⟨x, hx⟩ : ∃ x, xs k = x := ⟨_, rfl⟩
        obtain ⟨y, hy⟩ : ∃ y, ys k = y := ⟨_, rfl⟩
        rw [hx] at e0 V
        rw [hy] at e1 V
        clear hx hy
        go_wp2_with fail
        refine (V _).mono ?_
        rintro e w2 ⟨rfl, hb⟩
        have b2 := keep_below hbel hb
        have p2 := hp.keep hb
        clear hb e0 e1 r0 r1 r2 r3
        have r0 := p2.c0
        have r1 := p2.c1
        have r2 := p2.f 0
        have r3 := p2.f 1
        cases v
        · go_wp2
          refine bodyPost_ret (v := .tuple #[pt 0 0, .slice none 0 0, .int .i64 1]) ?_ rfl ⟨pt 0 0, .slice none 0 0, 1, rfl, .inl ⟨rfl, ?_, rfl, rfl⟩, (b2.setCell (Nat.le_refl _) _).setCell (Nat.le_refl _) _⟩
          · exact (res_cell_tmp2 (fn := Try.f62) rfl _ (by rfl) (p2.set _ _).load).trans (by rfl)
          · unfold okN
            rw [allN_false hlt HV.out, Bool.and_false]
        · go_wp2
          refine ⟨⟨k + 1, by omega, by simp, b2, p2, ?_⟩, by simp [intOf]; omega⟩
          rw [allN_succ, HA.out, HV.out]
          rfl
      · obtain rfl : k = n := by omega
        have hs : ∀ j, j < k → Small (xs j) ∧ Small (ys j) := fun j hj => validN_small (allN_get HA.out hj)
        have hz : NonZ xs ys k := fun j hj => validN_ne (allN_get HA.out hj)
        have FD := fun W (hb : Below w.heap.size w W) => refExit0_any b off k cap xs ys W (by omega) hpos hs hz (fun j hj => ⟨keep_cell hb (HC.out j hj).1, keep_cell hb (HC.out j hj).2⟩)
        have HF := Lib.hid (freeD_none hz)
        have LB := fun W (hb : Below w.heap.size w W) hB => blocked_any b off k cap xs ys W (by omega) hs hz (fun j hj => ⟨keep_cell hb (HC.out j hj).1, keep_cell hb (HC.out j hj).2⟩) hB
        have HNE := Lib.hid (fun d => freeD_ne (d := d) hz)
        obtain ⟨D, hD⟩ : ∃ D, freeD xs ys k = D := ⟨_, rfl⟩
        have HDD := Lib.hid hD
        rw [hD] at FD HNE
        clear hs hz hD
        cases D with
        | some d =>
          obtain ⟨dx, dy⟩ := d
          have hne := HNE.out (dx, dy) rfl
          have E := fun w => run_pt_neq dx dy 0 0 w
          have hzz : (dx == 0 && dy == 0) = false := by
            rw [Bool.and_eq_false_iff, beq_eq_false_iff_ne, beq_eq_false_iff_ne]
            rcases Classical.em (dx = 0) with e1 | e1
            · rcases Classical.em (dy = 0) with e2 | e2
              · exact absurd (by rw [e1, e2]) hne
              · exact .inr e2
            · exact .inl e1
          rw [hzz] at E
          clear hzz hne
          simp only [dirV] at FD
          go_wp2_with fail
          refine (FD _ hbel).mono ?_
          rintro e w2 ⟨rfl, hb⟩
          have b2 := keep_below hbel hb
          have p2 := hp.keep hb
          clear hb r0 r1 r2 r3
          have r0 := p2.c0
          have r1 := p2.c1
          have r2 := p2.f 0
          have r3 := p2.f 1
          have z2 := p2.lt
          go_wp2
          refine bodyPost_ret (v := .tuple #[pt dx dy, .slice none 0 0, .int .i64 0]) ?_ rfl ⟨pt dx dy, .slice none 0 0, 0, rfl, .inr (.inl ⟨rfl, by unfold okN; rw [HA.out, decide_eq_true h24]; rfl, rfl, (dx, dy), HDD.out, rfl⟩), ((b2.setCell (Nat.le_refl _) _).setCell (Nat.le_refl _) _).alloc (by have := b2.size; simpa using this) _⟩
          exact (res_cell_tmp2 (fn := Try.f62) rfl _ (by rfl) ((p2.set _ _).alloc _).load).trans (by rfl)
        | none =>
          simp only [dirV] at FD
          have E := fun w => run_pt_neq 0 0 0 0 w
          have LB2 := fun W (hb : Below w.heap.size w W) => LB W hb (HF.out.1 HDD.out)
          clear LB
          go_wp2_with fail
          refine (FD _ hbel).mono ?_
          rintro e w2 ⟨rfl, hb⟩
          have b2 := keep_below hbel hb
          have p2 := hp.keep hb
          clear hb r0 r1 r2 r3
          have z2 := p2.lt
          go_wp2_with fail
          have n3 := Pb.new w2 0 0
          have p3 := p2.alloc (ptObj 0 0)
          have b3 := b2.alloc b2.size (ptObj 0 0)
          have zz : (w2.alloc (ptObj 0 0)).heap.size = w2.heap.size + 1 := by simp
          obtain ⟨w3, hw3⟩ : ∃ w3, w2.alloc (ptObj 0 0) = w3 := ⟨_, rfl⟩
          obtain ⟨B, hBB⟩ : ∃ B, w2.heap.size = B := ⟨_, rfl⟩
          rw [hBB] at n3 z2
          rw [hw3] at n3 p3 b3 zz
          change Code.wp _ _ _ _ (w2.alloc (ptObj 0 0))
          rw [hw3, hBB]
          clear hw3 hBB b2 p2
          have c0 := n3.c0
          have c1 := n3.c1
          have r0 := p3.c0
          have r1 := p3.c1
          have r2 := p3.f 0
          have r3 := p3.f 1
          have hb3d := b3.drew
          go_region_with ((go_at_call 120; refine (LB2 _ (by first | exact b3 | exact hb3d)).mono ?_; rintro e w4 ⟨s, f, v, rfl, hL, hown, hb⟩; have c4 := keep_cell hb c0; have c5 := keep_cell hb c1; have r4 := keep_cell hb r0; have r5 := keep_cell hb r1; have r6 := keep_frozen hb r0 r2; have r7 := keep_frozen hb r1 r3))
          all_goals
            change w4.ownsRow w3.heap.size 3 1 v s (numL s f) at hown
            change Below w3.heap.size _ w4 at hb
            have p4 : Pb w4 w.heap.size 0 0 := (hb.block _ p3.lt).trans p3
            have b4 : Below w.heap.size w w4 := b3.trans (Below.mono (show Below w3.heap.size w3 w4 from ⟨hb.os, hb.tape, hb.output, hb.size, hb.block⟩) b3.size)
            clear c0 c1 r0 r1 r2 r3 c4 c5 r4 r5 r6 r7
            have r0 := p4.c0
            have r1 := p4.c1
            have r2 := p4.f 0
            have r3 := p4.f 1
            go_wp2
            refine bodyPost_ret (v := .tuple #[pt 0 0, v, .int .i64 13]) ?_ rfl ⟨pt 0 0, v, 13, rfl, .inr (.inr ⟨rfl, by unfold okN; rw [HA.out, decide_eq_true h24]; rfl, HDD.out, rfl, s, f, hL, ?_⟩), (b4.setCell (Nat.le_refl _) _).setCell (Nat.le_refl _) _⟩
            · exact (res_cell_tmp2 (fn := Try.f62) rfl _ (by rfl) (p4.set _ _).load).trans (by rfl)
            · have hnb : v.ownBlock = none ∨ v.ownBlock ≠ some w.heap.size := by
                cases ho : v.ownBlock with
                | none => exact .inl rfl
                | some g =>
                  refine .inr (fun e => ?_)
                  have := hown.lt g ho
                  have := p3.lt
                  cases e
                  omega
              exact ((own_low hown b3.size).kept (grownBy_set w4 w.heap.size 0 _) hnb).kept (grownBy_set _ w.heap.size 1 _) hnb
  · have i0 : (n : Int) > 24 := by omega
    go_enter Try.func62, Try.ntmps62
    go_wp2
    refine bodyPost_ret (v := .tuple #[pt 0 0, .slice none 0 0, .int .i64 1]) ?_ rfl ⟨pt 0 0, .slice none 0 0, 1, rfl, .inl ⟨rfl, by unfold okN; rw [decide_eq_false h24]; rfl, rfl, rfl⟩, b0⟩
    exact (res_cell_tmp2 (fn := Try.f62) rfl _ (by rfl) p0.load).trans (by rfl)

set_option maxRecDepth 100000 in
set_option maxHeartbeats 4000000 in
theorem refExit_zero (a : Option Addr) (cap : Nat) (xs ys : Nat → Int) (w : World) :
    Calls Try.prog 62 #[.slice a 0 cap] w fun e w' => ∃ dv bv E, e = .returned (.tuple #[dv, bv, .int .i64 E]) ∧ ExitS xs ys 0 w.heap.size w' dv bv E ∧ Below w.heap.size w w' := by
  have p0 := Pb.new w 0 0
  have b0 : Below w.heap.size w (w.alloc (ptObj 0 0)) := (Below.refl _ _).alloc (Nat.le_refl _) _
  go_enter Try.func62, Try.ntmps62
  go_wp2_with fail
  go_loopw [5] (fun i wr => i = .int .i64 0 ∧ Below w.heap.size w wr ∧ Pb wr w.heap.size 0 0) (fun i _ => 0 - (intOf i).toNat)
  case atStart => exact ⟨rfl, b0, p0⟩
  case round =>
    clear b0 p0
    obtain ⟨rfl, hbel, hp⟩ := hrel
    have FD := refExit0_zero a cap xs ys wr
    have E := fun w => run_pt_neq 1 0 0 0 w
    simp only [freeD, if_true, dirV] at FD
    go_wp2_with fail
    refine FD.mono ?_
    rintro e w2 ⟨rfl, hb⟩
    have b2 := keep_below hbel hb
    have p2 := hp.keep hb
    have r0 := p2.c0
    have r1 := p2.c1
    have r2 := p2.f 0
    have r3 := p2.f 1
    have z2 := p2.lt
    clear hb
    go_wp2
    refine bodyPost_ret (v := .tuple #[pt 1 0, .slice none 0 0, .int .i64 0]) ?_ rfl ⟨pt 1 0, .slice none 0 0, 0, rfl, .inr (.inl ⟨rfl, rfl, rfl, (1, 0), rfl, rfl⟩), ((b2.setCell (Nat.le_refl _) _).setCell (Nat.le_refl _) _).alloc (by have := b2.size; simpa using this) _⟩
    exact (res_cell_tmp2 (fn := Try.f62) rfl _ (by rfl) ((p2.set _ _).alloc _).load).trans (by rfl)

end Go.Proofs.Ytlocdadkhdcedaa

/- Walks: SameInts of equal lists; the law PlaneExits. -/
namespace Go.Proofs.Ytlocdadkhdcedaa
open Go Go.RowKit Go.Proofs Go.Abs Go.Plain

set_option maxRecDepth 100000 in
set_option maxHeartbeats 2000000 in
theorem sameInts_nil (w : World) : Calls Try.prog 35 #[.slice none 0 0, .slice none 0 0] w fun e w' => e = .returned (.bool true) ∧ Below w.heap.size w w' := by
  go_enter Try.func35, Try.ntmps35
  go_wp2_with fail
  go_loopw [5] (fun i wr => i = .int .i64 0 ∧ Below w.heap.size w wr) (fun i _ => 0 - (intOf i).toNat)
  case atStart => exact ⟨rfl, Below.refl _ _⟩
  case round =>
    obtain ⟨rfl, hbel⟩ := hrel
    go_wp2
    go_ret
    exact ⟨rfl, hbel⟩

set_option maxRecDepth 100000 in
set_option maxHeartbeats 2000000 in
theorem sameInts_any (g1 g2 c1 c2 s : Nat) (f : Nat → Nat) (w : World) (hs : s ≤ 1000000) (h1 : ∀ k, k < s → w.cell? ⟨g1, k, none⟩ = some (.int .i64 (f k : Nat))) (h2 : ∀ k, k < s → w.cell? ⟨g2, k, none⟩ = some (.int .i64 (f k : Nat))) :
    Calls Try.prog 35 #[.slice (some ⟨g1, 0, none⟩) s c1, .slice (some ⟨g2, 0, none⟩) s c2] w fun e w' => e = .returned (.bool true) ∧ Below w.heap.size w w' := by
  have H1 := Lib.hid h1
  have H2 := Lib.hid h2
  clear h1 h2
  go_enter Try.func35, Try.ntmps35
  go_wp2_with fail
  go_loopw [5] (fun i wr => ∃ k : Nat, k ≤ s ∧ i = .int .i64 k ∧ Below w.heap.size w wr) (fun i _ => s - (intOf i).toNat)
  case atStart => exact ⟨0, Nat.zero_le _, rfl, Below.refl _ _⟩
  case round =>
    obtain ⟨k, hk, rfl, hbel⟩ := hrel
    by_cases hlt : k < s
    · have j1 : (k : Int) < (s : Int) := by omega
      have e1 := keep_cell hbel (H1.out k hlt)
      have e2 := keep_cell hbel (H2.out k hlt)
      go_wp2_with fail
      go_quiet (fail)
      go_wp2
      exact ⟨⟨k + 1, by omega, by simp, below_dn hbel _⟩, by simp [intOf]; omega⟩
    · obtain rfl : s = k := by omega
      go_wp2
      go_ret
      exact ⟨rfl, hbel⟩

theorem numL_own {W : World} {base g s cap : Nat} {f : Nat → Nat} (h : W.ownsRow base 3 1 (.slice (some ⟨g, 0, none⟩) s cap) s (numL s f)) : ∀ j, j < s → W.cell? ⟨g, j, none⟩ = some (.int .i64 (f j : Nat)) := by
  intro j hj
  rw [h.cellAt j (by omega)]
  unfold numL
  rw [List.getElem?_map, List.getElem?_range hj]
  rfl

theorem numL_same {s : Nat} {f g : Nat → Nat} (h : Same s f g) : numL s f = numL s g := List.map_congr_left fun i hi => by rw [h i (List.mem_range.1 hi)]

/-- Two calls of Exit say the same. -/
theorem exitS_same {xs ys : Nat → Int} {n b1 b2 : Nat} {W1 W2 : World} {d1 d2 v1 v2 : Value} {E1 E2 : Int} (h1 : ExitS xs ys n b1 W1 d1 v1 E1) (h2 : ExitS xs ys n b2 W2 d2 v2 E2) (hz : okN xs ys n = true → NonZ xs ys n) :
    d1 = d2 ∧ E1 = E2 ∧ ((v1 = .slice none 0 0 ∧ v2 = .slice none 0 0) ∨ ∃ s f, 0 < s ∧ s ≤ 4 ∧ W1.ownsRow b1 3 1 v1 s (numL s f) ∧ W2.ownsRow b2 3 1 v2 s (numL s f)) := by
  rcases h1 with ⟨rfl, o1, rfl, rfl⟩ | ⟨rfl, o1, rfl, d, f1, rfl⟩ | ⟨rfl, o1, f1, rfl, s, f, hL, hown⟩ <;> rcases h2 with ⟨rfl, o2, rfl, rfl⟩ | ⟨rfl, o2, rfl, d', f2, rfl⟩ | ⟨rfl, o2, f2, rfl, s', f', hL', hown'⟩
  · exact ⟨rfl, rfl, .inl ⟨rfl, rfl⟩⟩
  · rw [o1] at o2; cases o2
  · rw [o1] at o2; cases o2
  · rw [o1] at o2; cases o2
  · rw [f1] at f2; cases f2; exact ⟨rfl, rfl, .inl ⟨rfl, rfl⟩⟩
  · rw [f1] at f2; cases f2
  · rw [o1] at o2; cases o2
  · rw [f1] at f2; cases f2
  · obtain ⟨rfl, hs⟩ := hL.unique hL'
    have hsz := hL.size ((freeD_none (hz o1)).1 f1)
    refine ⟨rfl, rfl, .inr ⟨s, f, by omega, by omega, hown, ?_⟩⟩
    rw [numL_same hs]
    exact hown'

theorem okN_nz {xs ys : Nat → Int} {n : Nat} (h : okN xs ys n = true) : NonZ xs ys n := fun i hi => by
  unfold okN at h
  rw [Bool.and_eq_true] at h
  exact validN_ne (allN_get h.2 hi)

end Go.Proofs.Ytlocdadkhdcedaa
