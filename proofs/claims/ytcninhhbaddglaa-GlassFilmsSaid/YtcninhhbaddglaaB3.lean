/- Walks: the reference's Grey and Colours. -/
import Derived.Test.YtcninhhbaddglaaB2
import Derived.Test.YtcninhhbaddglaaA8
namespace Go.Proofs.Ytcninhhbaddglaa
open Go Go.RowKit Go.Proofs

set_option maxRecDepth 100000 in
set_option maxHeartbeats 2000000 in
theorem refGrey_any (id c : Int) (v : Value) (L : List Int) (w : World) (h : SlI w v L) :
    Calls Try.prog 29 #[film id v, .int .i64 c] w fun e w' => e = .returned (.tuple #[.int .i64 (greyV id L c).1, .int .i64 (greyV id L c).2]) ∧ Below w.heap.size w w' := by
  have b0 : Below w.heap.size w (w.alloc (filmObj id v)) := (Below.refl _ _).alloc (Nat.le_refl _) _
  have f0 := film_new w id v
  have C1 := refValidFilm_any id v L _ (h.keep b0)
  have C2 := fun w => refWithin_any c 1 16 w
  obtain ⟨q, hq⟩ : ∃ q, vFilm id L = q := ⟨_, rfl⟩
  rw [hq] at C1
  cases q
  · have hV : greyV id L c = (0, 32) := by unfold greyV; rw [hq]; rfl
    rw [hV]
    clear hV hq C2
    go_enter Try.func29, Try.ntmps29
    go_wp2_with (go_at_call 14; with_reducible refine C1.mono ?_; rintro e w1 ⟨rfl, hb⟩)
    go_ret2
    exact ⟨rfl, keep_below b0 hb⟩
  · obtain ⟨p, hp⟩ : ∃ p, wi c 1 16 = p := ⟨_, rfl⟩
    simp only [hp] at C2
    cases p
    · have hV : greyV id L c = (0, 1) := by unfold greyV; rw [hq, hp]; rfl
      rw [hV]
      clear hV hq hp
      go_enter Try.func29, Try.ntmps29
      go_wp2_with (first
        | (go_at_call 14; with_reducible refine C1.mono ?_; rintro e w1 ⟨rfl, hb⟩)
        | (go_at_call 39; with_reducible refine (C2 _).mono ?_; rintro e w2 ⟨rfl, rfl⟩))
      go_ret2
      exact ⟨rfl, keep_below b0 hb⟩
    · obtain ⟨hL, -, -⟩ := vFilm_val hq
      have hc : 1 ≤ c ∧ c ≤ 16 := by unfold wi at hp; simp at hp; omega
      obtain ⟨m, hm⟩ : ∃ m : Nat, (c - 1).toNat = m := ⟨_, rfl⟩
      obtain rfl : c = (m : Int) + 1 := by omega
      have hm16 : m < 16 := by omega
      have hV : greyV id L ((m : Int) + 1) = if m < L.length then (iz L m, 0) else (0, 3) := by unfold greyV; rw [hq, hp, hm]; rfl
      have e1 : IntKind.i64.wrap (m : Int) = m := wi64 _ (by omega)
      rw [hV]
      clear hV hm hc hq hp
      obtain ⟨a, cap, rfl, hl, hcc⟩ := h
      by_cases hl1 : m < L.length
      · obtain ⟨cb, coff, rfl, c0⟩ := hcc m hl1
        have j1 : ¬ (L.length : Int) < (m : Int) + 1 := by omega
        have j2 : (m : Int) < (L.length : Int) := by omega
        rw [if_pos hl1]
        generalize iz L m = g at c0 ⊢
        clear hl1 hcc
        go_enter Try.func29, Try.ntmps29
        go_wp2_with (first
          | (go_at_call 14; with_reducible refine C1.mono ?_; rintro e w1 ⟨rfl, hb⟩
             have g1 := keep_cell hb f0.1
             have g2 := keep_cell hb f0.2
             have b1 := keep_below b0 hb
             have c1 := keep_cell b1 c0)
          | (go_at_call 39; with_reducible refine (C2 _).mono ?_; rintro e w2 ⟨rfl, rfl⟩))
        go_ret2
        exact ⟨rfl, b1⟩
      · have j1 : (L.length : Int) < (m : Int) + 1 := by omega
        rw [if_neg hl1]
        clear hl1 hcc
        go_enter Try.func29, Try.ntmps29
        go_wp2_with (first
          | (go_at_call 14; with_reducible refine C1.mono ?_; rintro e w1 ⟨rfl, hb⟩
             have g1 := keep_cell hb f0.1
             have g2 := keep_cell hb f0.2
             have b1 := keep_below b0 hb)
          | (go_at_call 39; with_reducible refine (C2 _).mono ?_; rintro e w2 ⟨rfl, rfl⟩))
        go_ret2
        exact ⟨rfl, b1⟩

theorem refColours_bad (id : Int) (v : Value) (L : List Int) (lo hi : Int) (w : World) (h : SlI w v L) (hv : vFilm id L = false) :
    Calls Try.prog 31 #[film id v, spn lo hi] w fun e w' => e = .returned (.tuple #[.slice none 0 0, .int .i64 32]) ∧ Below w.heap.size w w' := by
  have b0 : Below w.heap.size w ((w.alloc (filmObj id v)).alloc (spnObj lo hi)) := ((Below.refl _ _).alloc (Nat.le_refl _) _).alloc (by simp) _
  have C1 := refValidFilm_any id v L _ (h.keep b0)
  rw [hv] at C1
  go_enter Try.func31, Try.ntmps31
  go_wp2_with fail
  refine C1.mono ?_
  rintro e w1 ⟨rfl, hb⟩
  go_wp2
  go_ret2
  exact ⟨rfl, keep_below b0 hb⟩

theorem cols_past {L : List Int} (lo hi : Int) (k : Nat) (h : L.length ≤ k) : colsTo L lo hi k = colsTo L lo hi L.length := by
  induction k with
  | zero => have : L.length = 0 := by omega
            rw [this]
  | succ k ih =>
    rcases Nat.lt_or_ge k L.length with h1 | h1
    · have : L.length = k + 1 := by omega
      rw [this]
    · rw [cols_no (by unfold seen; simp; omega), ih h1]

set_option maxRecDepth 100000 in
set_option maxHeartbeats 2000000 in
theorem refColours_any (id : Int) (v : Value) (L : List Int) (lo hi : Int) (w : World) (h : SlI w v L) (hv : vFilm id L = true) :
    Calls Try.prog 31 #[film id v, spn lo hi] w fun e w' => ∃ v', e = .returned (.tuple #[v', .int .i64 0]) ∧ w'.ownsRow w.heap.size 3 1 v' (colsTo L lo hi 16).length (colsTo L lo hi 16) ∧ Below w.heap.size w w' := by
  obtain ⟨i0, hi0, hz0, hz1, hz2⟩ := info_parts info3
  obtain ⟨hL, -, -⟩ := vFilm_val hv
  rw [cols_past lo hi 16 hL]
  have b0 : Below w.heap.size w ((w.alloc (filmObj id v)).alloc (spnObj lo hi)) := ((Below.refl _ _).alloc (Nat.le_refl _) _).alloc (by simp) _
  have z0 : ((w.alloc (filmObj id v)).alloc (spnObj lo hi)).heap.size = w.heap.size + 2 := by simp
  have f0 := film_new w id v
  have s0 := spn_new (w.alloc (filmObj id v)) lo hi
  rw [World.size_alloc] at s0
  have f1 := pt_old (w.alloc (filmObj id v)) (spnObj lo hi) f0.1
  have f2 := pt_old (w.alloc (filmObj id v)) (spnObj lo hi) f0.2
  have C1 := refValidFilm_any id v L _ (h.keep b0)
  rw [hv] at C1
  obtain ⟨a, cap, rfl, hl, hcc⟩ := h
  have HCC := Lib.hid hcc
  clear f0 hv hcc
  go_enter Try.func31, Try.ntmps31
  go_wp2_with fail
  refine C1.mono ?_
  rintro e w1 ⟨rfl, hb⟩
  have g1 := keep_cell hb f1
  have g2 := keep_cell hb f2
  have r1 := keep_cell hb s0.1
  have r2 := keep_cell hb s0.2
  have b1 := keep_below b0 hb
  have z1 : w.heap.size + 2 ≤ w1.heap.size := by have := hb.size; simp at this; omega
  clear C1 f1 f2 s0 z0 hb b0
  go_wp2_with fail
  go_loopw [6, 7] (fun u i wr => ∃ k : Nat, k ≤ L.length ∧ i = .int .i64 k ∧ wr.ownsRow (w.heap.size + 2) 3 1 u (colsTo L lo hi k).length (colsTo L lo hi k) ∧ Below w.heap.size w wr ∧ w.heap.size + 2 ≤ wr.heap.size ∧ wr.cell? ⟨w.heap.size, 1, none⟩ = some (.slice a L.length cap) ∧ wr.cell? ⟨w.heap.size + 1, 0, none⟩ = some (.int .i64 lo) ∧ wr.cell? ⟨w.heap.size + 1, 1, none⟩ = some (.int .i64 hi)) (fun _ i _ => L.length - (intOf i).toNat)
  case atStart => exact ⟨0, Nat.zero_le _, rfl, World.ownsRow_nil _ _ _ _, b1, z1, g2, r1, r2⟩
  case round =>
    clear g1 g2 r1 r2 b1 z1 w1
    obtain ⟨k, hk, rfl, hown, hbel, hz, g2, s1, s2⟩ := hrel
    by_cases hlt : k < L.length
    · have j1 : (k : Int) < (L.length : Int) := by omega
      obtain ⟨cb, coff, rfl, c0⟩ := HCC.out k hlt
      have c1 := keep_cell hbel c0
      have hlen := cols_len L lo hi k
      have C := fun w => refWithin_any (iz L k) lo hi w
      have hY : wi (iz L k) lo hi = true → colsTo L lo hi (k + 1) = colsTo L lo hi k ++ [.int .i64 (k + 1)] := fun e => cols_yes (by unfold seen; simp [hlt, e])
      have hN : wi (iz L k) lo hi = false → colsTo L lo hi (k + 1) = colsTo L lo hi k := fun e => cols_no (by unfold seen; simp [e])
      generalize wi (iz L k) lo hi = c at C hY hN
      generalize iz L k = g at c0 c1 C
      generalize colsTo L lo hi k = XS at hown hlen hY hN ⊢
      have HY := Lib.hid hY
      have HN := Lib.hid hN
      clear hY hN c0
      go_wp2_with fail
      go_quiet ((go_at_call 39; exact Calls.quiet_of_same (C _)))
      have bq := belowN wr nq
      have own3 := own_keep hown bq
      have b3 := keep_below hbel bq
      have g3 := keep_cell bq g2
      have t1 := keep_cell bq s1
      have t2 := keep_cell bq s2
      have z3 : w.heap.size + 2 ≤ (wr.drewN nq).heap.size := Nat.le_trans hz bq.size
      obtain ⟨w3, hw3⟩ : ∃ w3, wr.drewN nq = w3 := ⟨_, rfl⟩
      rw [hw3] at own3 b3 g3 t1 t2 z3 ⊢
      clear hw3 bq hown hbel g2 s1 s2 hz c1 C
      cases c
      · go_wp2
        exact ⟨⟨k + 1, by omega, by simp, by rw [HN.out (by first | trivial | rfl)]; exact own3, b3, z3, g3, t1, t2⟩, by simp [intOf]; omega⟩
      · go_wp2_with (at_builtin; go_loud (refine wpList_append_own _ rfl _ _ 26 rfl (w.heap.size + 2) 3 i0 (.int .i64 0) 1 8 Try.underlying26 hi0 hz0 hz1 hz2 rfl (by decide) _ _ _ rfl (own3.alloc _) _ 1 1 [.int .i64 (k + 1)] rfl rfl (int_new _ _) (int_one _) (by unfold maxLen; omega) (by omega) (by simp; omega) ?_; intro v1 w4 hown4 hgrow4 hnil4))
        have ne4 : some (w.heap.size + 1) ≠ u6.ownBlock := fun e => by have := (own3.lt _ e.symm).1; omega
        have ne5 : some w.heap.size ≠ u6.ownBlock := fun e => by have := (own3.lt _ e.symm).1; omega
        have e4 := hgrow4.block (w.heap.size + 1) (by simp; omega) ne4
        have e5 := hgrow4.block w.heap.size (by simp; omega) ne5
        rw [alloc_heap_old _ _ (by omega)] at e4 e5
        have b4 := (b3.alloc b3.size (.cells #[.int .i64 (k + 1)] 3)).grown hgrow4 (by simp; omega) (fun j hj => Nat.le_trans (by omega) (own3.lt j hj).1)
        have z4 : w.heap.size + 2 ≤ w4.heap.size := by have := hgrow4.size; simp at this; omega
        refine ⟨⟨k + 1, by omega, by simp, ?_, b4, z4, (cell_block e5).trans g3, (cell_block e4).trans t1, (cell_block e4).trans t2⟩, by simp [intOf]; omega⟩
        rw [HY.out (by first | trivial | rfl), List.length_append]
        exact hown4
    · obtain rfl : k = L.length := by omega
      go_wp2
      go_ret2
      exact ⟨_, rfl, own_base hown (by omega), hbel⟩

end Go.Proofs.Ytcninhhbaddglaa
