/- The abstract machine, part IC. -/
import Derived.Test.YtpknllbglppjcaaIB
import Derived.Test.YtpknllbglppjcaaJB
import Derived.Test.YtpknllbglppjcaaNF
import Derived.Test.YtpknllbglppjcaaNG
import Derived.Test.YtpknllbglppjcaaPC
/- Pick's theorem for a valid outline, as the program counts (plain). -/
namespace Go.Proofs.Ytpknllbglppjcaa
open Go Go.RowKit Go.Proofs

theorem out_least {L : Pl} (h : vOut L = true) : Least (gP L) L.length := by
  obtain ⟨h3, -, -, -, -, h0, -⟩ := vOut_iff.1 h
  have hA := vOut_apart h
  intro j h1 h2
  have m := leastL_min L h2
  rw [h0] at m
  have d : L.getD j (0, 0) ≠ L.getD 0 (0, 0) := fun e => hA 0 j h1 h2 e.symm
  unfold lesP at m
  show (L.getD 0 (0, 0)).1 < (L.getD j (0, 0)).1 ∨ ((L.getD 0 (0, 0)).1 = (L.getD j (0, 0)).1 ∧ (L.getD 0 (0, 0)).2 < (L.getD j (0, 0)).2)
  by_cases c : (L.getD 0 (0, 0)).1 < (L.getD j (0, 0)).1
  · exact Or.inl c
  · by_cases c2 : (L.getD j (0, 0)).2 = (L.getD 0 (0, 0)).2
    · by_cases c3 : (L.getD j (0, 0)).1 = (L.getD 0 (0, 0)).1
      · exact absurd (Prod.ext c3 c2) d
      · omega
    · omega

theorem low_le (xs : Nat → Int) : ∀ n j, j < n → lowU xs n ≤ xs j
  | 0, _, h => by omega
  | n + 1, j, h => by
    rw [lowU_next]
    by_cases c : j = n
    · subst c; split <;> omega
    · have := low_le xs n j (by omega)
      split <;> omega

theorem le_high (xs : Nat → Int) : ∀ n j, j < n → xs j ≤ highU xs n
  | 0, _, h => by omega
  | n + 1, j, h => by
    rw [highU_next]
    by_cases c : j = n
    · subst c; split <;> omega
    · have := le_high xs n j (by omega)
      split <;> omega

theorem low_in {xs : Nat → Int} (h : ∀ k, 0 ≤ xs k ∧ xs k ≤ 4096) : ∀ n, 0 ≤ lowU xs n ∧ lowU xs n ≤ 4096
  | 0 => h 0
  | n + 1 => by
    rw [lowU_next]
    have := low_in h n
    have := h n
    split <;> omega

theorem high_in {xs : Nat → Int} (h : ∀ k, 0 ≤ xs k ∧ xs k ≤ 4096) : ∀ n, 0 ≤ highU xs n ∧ highU xs n ≤ 4096
  | 0 => h 0
  | n + 1 => by
    rw [highU_next]
    have := high_in h n
    have := h n
    split <;> omega

/-- Points of the border, and points inside. -/
def bI (L : Pl) (z : P2) : Int := if plV L z = 0 then 1 else 0
def iI (L : Pl) (z : P2) : Int := if plV L z = 1 then 1 else 0

theorem any_on {L : Pl} {z : P2} : (List.range L.length).any (onB L z) = true ↔ On (gP L) L.length z := by
  rw [List.any_eq_true]
  unfold On
  constructor
  · rintro ⟨j, hj, h⟩
    exact ⟨j, List.mem_range.1 hj, ons_lie.1 h⟩
  · rintro ⟨j, hj, h⟩
    exact ⟨j, List.mem_range.2 hj, ons_lie.2 h⟩

theorem pick_out {L : Pl} (hv : vOut L = true) {X0 Y0 : Int} {w h : Nat} (hb : ∀ j, j < L.length → InB X0 Y0 w h (gP L j)) :
    2 * gs X0 Y0 w h (iI L) = sumL L - onL L + 2 ∧ gs X0 Y0 w h (bI L) = onL L := by
  obtain ⟨h3, -, hvp⟩ := vOut_n hv
  have hS := out_sim hv
  have hl := out_least hv
  have hn := vPts_near hvp
  have hc : ∀ j, j < L.length → (0 ≤ (gP L j).1 ∧ (gP L j).1 ≤ 4096) ∧ 0 ≤ (gP L j).2 ∧ (gP L j).2 ≤ 4096 := fun j _ => hn j
  have ha : 0 < AA (gP L) L.length := vOut_sum hv
  obtain ⟨p1, p2⟩ := pick hS hl hc ha hb
  have hcr := area_left hS hl hc ha
  have eo : ((List.range L.length).map (gg (gP L) L.length)).sum = onL L := rfl
  have ea : AA (gP L) L.length = sumL L := rfl
  rw [eo] at p1 p2
  rw [ea] at p1
  refine ⟨?_, ?_⟩
  · rw [← p1]
    congr 1
    refine gs_congr fun z _ => ?_
    unfold iI plV
    by_cases c : On (gP L) L.length z
    · rw [if_pos (any_on.2 c), if_pos c]
      rfl
    · rw [if_neg (fun x => c (any_on.1 x)), if_neg c]
      have hb := winds_pos hS hl hcr (p := z) (fun j hj => by
        have h1 := hc j hj
        have h2 := hc ((j + 1) % L.length) (Nat.mod_lt _ (by omega))
        omega) (fun j hj x => c ⟨j, hj, x⟩)
      have e : NN (gP L) L.length z = sumW L z (List.range L.length) := rfl
      rw [e] at hb ⊢
      by_cases d : sumW L z (List.range L.length) = 0
      · rw [if_pos d, d]
        rfl
      · rw [if_neg d, if_pos rfl]
        omega
  · rw [← p2]
    refine gs_congr fun z _ => ?_
    unfold bI plV
    by_cases c : On (gP L) L.length z
    · rw [if_pos (any_on.2 c), if_pos c]
      rfl
    · rw [if_neg (fun x => c (any_on.1 x)), if_neg c]
      by_cases d : sumW L z (List.range L.length) = 0
      · rw [if_pos d]; rfl
      · rw [if_neg d]; rfl

/-- The window that Box tells. -/
def wdX (L : Pl) : Nat := (highU (px L) L.length - lowU (px L) L.length + 1).toNat
def wdY (L : Pl) : Nat := (highU (py L) L.length - lowU (py L) L.length + 1).toNat

theorem box_has {L : Pl} : ∀ j, j < L.length → InB (lowU (px L) L.length) (lowU (py L) L.length) (wdX L) (wdY L) (gP L j) := fun j hj => by
  have h1 := low_le (px L) L.length j hj
  have h2 := le_high (px L) L.length j hj
  have h3 := low_le (py L) L.length j hj
  have h4 := le_high (py L) L.length j hj
  have e1 : (gP L j).1 = px L j := rfl
  have e2 : (gP L j).2 = py L j := rfl
  unfold InB wdX wdY
  rw [e1, e2]
  omega

/-- A sum by columns, so far. -/
def colS (L : Pl) (f : Pl → P2 → Int) (i k : Nat) : Int := ((List.range k).map fun k : Nat => f L (lowU (px L) L.length + (i : Int), lowU (py L) L.length + (k : Int))).sum
def winS (L : Pl) (f : Pl → P2 → Int) (i : Nat) : Int := ((List.range i).map fun i : Nat => colS L f i (wdY L)).sum

theorem colS_next (L : Pl) (f : Pl → P2 → Int) (i k : Nat) : colS L f i (k + 1) = colS L f i k + f L (lowU (px L) L.length + (i : Int), lowU (py L) L.length + (k : Int)) := by
  unfold colS
  rw [List.range_succ, List.map_append, List.sum_append]
  simp
theorem winS_next (L : Pl) (f : Pl → P2 → Int) (i : Nat) : winS L f (i + 1) = winS L f i + colS L f i (wdY L) := by
  unfold winS
  rw [List.range_succ, List.map_append, List.sum_append]
  simp
theorem colS_zero (L : Pl) (f : Pl → P2 → Int) (i : Nat) : colS L f i 0 = 0 := rfl
theorem winS_zero (L : Pl) (f : Pl → P2 → Int) : winS L f 0 = 0 := rfl

theorem colS_bound (L : Pl) (f : Pl → P2 → Int) (hf : ∀ z, 0 ≤ f L z ∧ f L z ≤ 1) (i : Nat) : ∀ k, 0 ≤ colS L f i k ∧ colS L f i k ≤ k
  | 0 => by rw [colS_zero]; omega
  | k + 1 => by
    rw [colS_next]
    have := colS_bound L f hf i k
    have := hf (lowU (px L) L.length + (i : Int), lowU (py L) L.length + (k : Int))
    omega

theorem pick_box {L : Pl} (hv : vOut L = true) : 2 * winS L iI (wdX L) = sumL L - onL L + 2 ∧ winS L bI (wdX L) = onL L ∧ 2 * inK (sumL L) (onL L) + onL L - 2 = sumL L ∧ inK (sumL L) (onL L) = winS L iI (wdX L) := by
  obtain ⟨h1, h2⟩ := pick_out hv (box_has (L := L))
  have e : ∀ f : Pl → P2 → Int, gs (lowU (px L) L.length) (lowU (py L) L.length) (wdX L) (wdY L) (f L) = winS L f (wdX L) := fun f => by
    unfold gs winS colS
    exact sum_swap (fun k i => f L (lowU (px L) L.length + (i : Int), lowU (py L) L.length + (k : Int))) (wdX L) (wdY L)
  rw [e iI] at h1
  rw [e bI] at h2
  have hk : inK (sumL L) (onL L) = winS L iI (wdX L) := by
    unfold inK
    rw [← h1]
    exact Int.mul_tdiv_cancel_left _ (by omega)
  refine ⟨h1, h2, ?_, hk⟩
  rw [hk]
  omega

end Go.Proofs.Ytpknllbglppjcaa

/- The law PlanePick, walked. -/
namespace Go.Proofs.Ytpknllbglppjcaa
open Go Go.RowKit Go.Proofs Go.Abs Go.Plain

set_option maxRecDepth 100000 in
set_option maxHeartbeats 8000000 in
theorem pickLaw_bad (v1 : Value) (L : Pl) (w : World) (h1 : SlV w v1 L) (hv : vOut L = false) :
    Calls Try.prog 12 #[v1] w fun e w' => e = .returned (.bool true) ∧ Below w.heap.size w w' := by
  have A1 := fun w' (hb : Below w.heap.size w w') => area_sl (h1.keep hb)
  have G1 := fun w' (hb : Below w.heap.size w w') => grid_sl (h1.keep hb)
  have X1 := fun w' (hb : Below w.heap.size w w') => box_sl (h1.keep hb)
  have e1 : arV L = .tuple #[.int .i64 0, .int .i64 1] := by unfold arV; rw [hv]; rfl
  have e2 : grV L = .tuple #[.int .i64 0, .int .i64 0, .int .i64 1] := by unfold grV; rw [hv]; rfl
  have e3 : bxV L = .tuple #[pt 0 0, pt 0 0, .int .i64 1] := by unfold bxV; rw [hv]; rfl
  rw [e1] at A1
  rw [e2] at G1
  rw [e3] at X1
  clear e1 e2 e3 hv
  obtain ⟨a1, cap1, rfl, hl1, -⟩ := h1
  go_enter Try.func12, Try.ntmps12
  go_wp2_with fail
  refine (awake_any _).mono ?_
  rintro e w1 ⟨rfl, bel⟩
  go_wp2_with fail
  refine (A1 _ bel).mono ?_
  rintro e w2 ⟨rfl, hb⟩
  replace bel := keep_below bel hb
  clear hb A1
  go_wp2_with fail
  refine (G1 _ bel).mono ?_
  rintro e w3 ⟨rfl, hb⟩
  replace bel := keep_below bel hb
  clear hb G1
  go_wp2_with fail
  refine (X1 _ bel).mono ?_
  rintro e w4 ⟨rfl, hb⟩
  replace bel := keep_below bel hb
  clear hb X1
  replace bel := (bel.alloc bel.size (ptObj 0 0)).alloc (by have : ∀ (v : World) (o : Obj), (v.alloc o).heap.size = v.heap.size + 1 := fun v o => by simp
                                                            rw [this]; have := bel.size; omega) (ptObj 0 0)
  go_wp2
  go_ret
  exact ⟨rfl, bel⟩

end Go.Proofs.Ytpknllbglppjcaa

/- The law PlanePick, walked: a valid outline. -/
namespace Go.Proofs.Ytpknllbglppjcaa
open Go Go.RowKit Go.Proofs Go.Abs Go.Plain

theorem plV_three (L : Pl) (z : P2) : plV L z = 0 ∨ plV L z = 1 ∨ plV L z = -1 := by
  unfold plV
  split
  · exact Or.inl rfl
  · split
    · exact Or.inr (Or.inr rfl)
    · exact Or.inr (Or.inl rfl)

theorem bI_bound (L : Pl) (z : P2) : 0 ≤ bI L z ∧ bI L z ≤ 1 := by unfold bI; split <;> omega
theorem iI_bound (L : Pl) (z : P2) : 0 ≤ iI L z ∧ iI L z ≤ 1 := by unfold iI; split <;> omega

theorem winS_bound (L : Pl) (f : Pl → P2 → Int) (hf : ∀ z, 0 ≤ f L z ∧ f L z ≤ 1) (hH : wdY L ≤ 4097) : ∀ i : Nat, 0 ≤ winS L f i ∧ winS L f i ≤ 4097 * i
  | 0 => by rw [winS_zero]; omega
  | i + 1 => by
    rw [winS_next]
    have := winS_bound L f hf hH i
    have := colS_bound L f hf i (wdY L)
    omega

set_option maxRecDepth 100000 in
set_option maxHeartbeats 8000000 in
theorem pick_walk (v1 : Value) (L : Pl) (w : World) (h1 : SlV w v1 L) (s o n lX lY hX hY : Int) (W H : Nat) (pl : Int → Int → Int) (wB wI : Nat → Int) (cB cI : Nat → Nat → Int)
    (A1 : ∀ w', Below w.heap.size w w' → Calls Try.prog 31 #[v1] w' fun e w'' => e = .returned (.tuple #[.int .i64 s, .int .i64 0]) ∧ Below w'.heap.size w' w'')
    (G1 : ∀ w', Below w.heap.size w w' → Calls Try.prog 36 #[v1] w' fun e w'' => e = .returned (.tuple #[.int .i64 o, .int .i64 n, .int .i64 0]) ∧ Below w'.heap.size w' w'')
    (X1 : ∀ w', Below w.heap.size w w' → Calls Try.prog 38 #[v1] w' fun e w'' => e = .returned (.tuple #[pt lX lY, pt hX hY, .int .i64 0]) ∧ Below w'.heap.size w' w'')
    (P1 : ∀ w' x y, Below w.heap.size w w' → lX ≤ x → x ≤ hX → lY ≤ y → y ≤ hY → Calls Try.prog 40 #[v1, pt x y] w' fun e w'' => e = .returned (.tuple #[.int .i64 (pl x y), .int .i64 0]) ∧ Below w'.heap.size w' w'')
    (hp : ∀ x y, pl x y = 0 ∨ pl x y = 1 ∨ pl x y = -1)
    (hW : (W : Int) = hX - lX + 1) (hH : (H : Int) = hY - lY + 1) (hlX : 0 ≤ lX ∧ hX ≤ 4096) (hlY : 0 ≤ lY ∧ hY ≤ 4096)
    (zB : wB 0 = 0) (zI : wI 0 = 0) (zb : ∀ i, cB i 0 = 0) (zi : ∀ i, cI i 0 = 0)
    (nB : ∀ i, wB (i + 1) = wB i + cB i H) (nI : ∀ i, wI (i + 1) = wI i + cI i H)
    (nb : ∀ i k : Nat, cB i (k + 1) = cB i k + if pl (lX + i) (lY + k) = 0 then 1 else 0) (ni : ∀ i k : Nat, cI i (k + 1) = cI i k + if pl (lX + i) (lY + k) = 1 then 1 else 0)
    (bB : ∀ i, i ≤ W → 0 ≤ wB i ∧ wB i ≤ 20000000) (bI' : ∀ i, i ≤ W → 0 ≤ wI i ∧ wI i ≤ 20000000) (bb : ∀ i k, k ≤ H → 0 ≤ cB i k ∧ cB i k ≤ 5000) (bi' : ∀ i k, k ≤ H → 0 ≤ cI i k ∧ cI i k ≤ 5000)
    (eo : wB W = o) (en : wI W = n) (es : 2 * n + o - 2 = s) (bo : 0 ≤ o ∧ o ≤ 20000000) (bn : 0 ≤ n ∧ n ≤ 20000000) :
    Calls Try.prog 12 #[v1] w fun e w' => e = .returned (.bool true) ∧ Below w.heap.size w w' := by
  have HE : wrap64 (wrap64 (wrap64 (2 * n) + o) - 2) = s := by
    rw [w64 (2 * n) (by omega), w64 (2 * n + o) (by omega), w64 _ (by omega), es]
  have HF := Lib.hid (And.intro nB (And.intro nI (And.intro nb ni)))
  have HBd := Lib.hid (And.intro bB (And.intro bI' (And.intro bb bi')))
  have HZ := Lib.hid (And.intro zB (And.intro zI (And.intro zb zi)))
  have HO := Lib.hid (And.intro eo (And.intro en (And.intro bo bn)))
  have HWH := Lib.hid (And.intro hW hH)
  have HC := Lib.hid (And.intro hlX hlY)
  have HP := Lib.hid hp
  have HP1 := Lib.hid P1
  clear nB nI nb ni bB bI' bb bi' zB zI zb zi eo en es bo bn hW hH hlX hlY hp P1
  obtain ⟨a1, cap1, rfl, hl1, -⟩ := h1
  go_enter Try.func12, Try.ntmps12
  go_wp2_with fail
  refine (awake_any _).mono ?_
  rintro e w1 ⟨rfl, bel⟩
  go_wp2_with fail
  refine (A1 _ bel).mono ?_
  rintro e w2 ⟨rfl, hb⟩
  replace bel := keep_below bel hb
  clear hb A1
  go_wp2_with fail
  refine (G1 _ bel).mono ?_
  rintro e w3 ⟨rfl, hb⟩
  replace bel := keep_below bel hb
  clear hb G1
  go_wp2_with fail
  refine (X1 _ bel).mono ?_
  rintro e w4 ⟨rfl, hb⟩
  replace bel := keep_below bel hb
  clear hb X1
  have s1 : ∀ (v : World) (o : Obj), (v.alloc o).heap.size = v.heap.size + 1 := fun v o => by simp
  have q1 := (Pb.new w4 lX lY).alloc (ptObj hX hY)
  have q2 := Pb.new (w4.alloc (ptObj lX lY)) hX hY
  rw [s1] at q2
  replace bel := (bel.alloc bel.size (ptObj lX lY)).alloc (by rw [s1]; have := bel.size; omega) (ptObj hX hY)
  clear s1
  obtain ⟨w5, hw5⟩ : ∃ w5, (w4.alloc (ptObj lX lY)).alloc (ptObj hX hY) = w5 := ⟨_, rfl⟩
  have p1 : Pb w5 w4.heap.size lX lY := hw5 ▸ q1
  have p2 : Pb w5 (w4.heap.size + 1) hX hY := hw5 ▸ q2
  have b5 : Below w.heap.size w w5 := hw5 ▸ bel
  clear q1 q2 bel
  have k10 := p1.c0
  have k11 := p1.c1
  have k20 := p2.c0
  have k21 := p2.c1
  by_cases g1 : (L.length : Int) > 12
  · go_wp2
    go_ret
    exact ⟨rfl, b5⟩
  by_cases g2 : wrap64 (wrap64 (hX - lX) * wrap64 (hY - lY)) > 400
  · go_wp2
    go_ret
    exact ⟨rfl, b5⟩
  go_upto_region 12 with fail
  clear hw5
  go_loopw [6, 7, 12] (fun on inn x wr => ∃ i : Nat, i ≤ W ∧ on = .int .i64 (o - wB i) ∧ inn = .int .i64 (n - wI i) ∧ x = .int .i64 (lX + i) ∧ Below w5.heap.size w5 wr) (fun _ _ x _ => (hX + 1 - intOf x).toNat)
  case atStart => exact ⟨0, Nat.zero_le _, by rw [HZ.out.1, Int.sub_zero], by rw [HZ.out.2.1, Int.sub_zero], by simp, Below.refl _ _⟩
  case round =>
    obtain ⟨i, hi, rfl, rfl, rfl, hbel⟩ := hrel
    clear k10 k11 k20 k21
    have r1 := p1.keep hbel
    have r2 := p2.keep hbel
    have k10 := r1.c0
    have k11 := r1.c1
    have k20 := r2.c0
    have k21 := r2.c1
    have HWi := HWH.out
    have bo := HO.out.2.2
    have hBi := HBd.out.1 i hi
    have hIi := HBd.out.2.1 i hi
    have hc := HC.out
    obtain ⟨xv, hxv⟩ : ∃ xv, lX + (i : Int) = xv := ⟨_, rfl⟩
    obtain ⟨a, ha⟩ : ∃ a, o - wB i = a := ⟨_, rfl⟩
    obtain ⟨b, hb⟩ : ∃ b, n - wI i = b := ⟨_, rfl⟩
    rw [hxv, ha, hb]
    have Hx := Lib.hid (And.intro hxv (And.intro ha hb))
    have Hnum := Lib.hid (And.intro HWi (And.intro bo (And.intro hBi (And.intro hIi hc))))
    by_cases hlt : i < W
    · have j1 : xv ≤ hX := by omega
      clear HWi bo hBi hIi hc hxv ha hb
      go_upto_region 15 with fail
      go_loopw [6, 7, 13] (fun on inn y wx => ∃ k : Nat, k ≤ H ∧ on = .int .i64 (a - cB i k) ∧ inn = .int .i64 (b - cI i k) ∧ y = .int .i64 (lY + k) ∧ Below w5.heap.size w5 wx) (fun _ _ y _ => (hY + 1 - intOf y).toNat)
      case atStart => exact ⟨0, Nat.zero_le _, by rw [HZ.out.2.2.1, Int.sub_zero], by rw [HZ.out.2.2.2, Int.sub_zero], by simp, hbel⟩
      case round =>
        clear k10 k11 k20 k21 r1 r2 hbel
        rename_i wr0 wr
        obtain ⟨k, hk, rfl, rfl, rfl, hbel⟩ := hrel
        have r1 := p1.keep hbel
        have r2 := p2.keep hbel
        have k10 := r1.c0
        have k11 := r1.c1
        have k20 := r2.c0
        have k21 := r2.c1
        obtain ⟨⟨hW1, hH1⟩, ⟨bo1, bo2⟩, hBi, hIi, hc1, hc2⟩ := Hnum.out
        have hbk := HBd.out.2.2.1 i k hk
        have hik := HBd.out.2.2.2 i k hk
        obtain ⟨hx1, hx2, hx3⟩ := Hx.out
        obtain ⟨yv, hyv⟩ : ∃ yv, lY + (k : Int) = yv := ⟨_, rfl⟩
        obtain ⟨u, hu⟩ : ∃ u, a - cB i k = u := ⟨_, rfl⟩
        obtain ⟨v, hv⟩ : ∃ v, b - cI i k = v := ⟨_, rfl⟩
        rw [hyv, hu, hv]
        by_cases hkt : k < H
        · have j2 : yv ≤ hY := by omega
          have CP := HP1.out wr xv yv (keep_below b5 hbel) (by omega) j1 (by omega) j2
          have U : wrap64 (u - 1) = u - 1 := w64 _ (by omega)
          have V : wrap64 (v - 1) = v - 1 := w64 _ (by omega)
          have Y : wrap64 (yv + 1) = yv + 1 := w64 _ (by omega)
          have HU := Lib.hid U
          have HV := Lib.hid V
          have HY := Lib.hid Y
          have nb := HF.out.2.2.1 i k
          have ni := HF.out.2.2.2 i k
          rw [hx1, hyv] at nb ni
          obtain ⟨p, hp⟩ : ∃ p, pl xv yv = p := ⟨_, rfl⟩
          have h3 := HP.out xv yv
          rw [hp] at CP nb ni h3
          have N : Hid ((cB i (k + 1) = cB i k + if p = 0 then 1 else 0) ∧ (cI i (k + 1) = cI i k + if p = 1 then 1 else 0) ∧ lY + (k : Int) = yv ∧ a - cB i k = u ∧ b - cI i k = v) := Lib.hid ⟨nb, ni, hyv, hu, hv⟩
          clear U V Y nb ni hp hyv hu hv hx1 hx2 hx3 hbk hik hBi hIi hc1 hc2 bo1 bo2 hW1 hH1
          go_wp2_with fail
          refine CP.mono ?_
          rintro e w7 ⟨rfl, hb⟩
          have hbel2 := keep_below hbel hb
          clear hb hbel CP
          rcases h3 with rfl | rfl | rfl
          · have HU := HU.out
            have HY := HY.out
            go_wp2
            have e1 : cB i (k + 1) = cB i k + 1 := N.out.1
            have e2 : cI i (k + 1) = cI i k + 0 := N.out.2.1
            have n3 := N.out.2.2
            refine ⟨⟨k + 1, by omega, ?_, ?_, ?_, hbel2⟩, ?_⟩
            · rw [HU, e1]
              exact congrArg _ (by omega)
            · rw [e2]
              exact congrArg _ (by omega)
            · rw [HY]
              exact congrArg _ (by omega)
            · rw [HY]
              simp only [intOf]
              omega
          · have HV := HV.out
            have HY := HY.out
            go_wp2
            have e1 : cB i (k + 1) = cB i k + 0 := N.out.1
            have e2 : cI i (k + 1) = cI i k + 1 := N.out.2.1
            have n3 := N.out.2.2
            refine ⟨⟨k + 1, by omega, ?_, ?_, ?_, hbel2⟩, ?_⟩
            · rw [e1]
              exact congrArg _ (by omega)
            · rw [HV, e2]
              exact congrArg _ (by omega)
            · rw [HY]
              exact congrArg _ (by omega)
            · rw [HY]
              simp only [intOf]
              omega
          · have HY := HY.out
            go_wp2
            have e1 : cB i (k + 1) = cB i k + 0 := N.out.1
            have e2 : cI i (k + 1) = cI i k + 0 := N.out.2.1
            have n3 := N.out.2.2
            refine ⟨⟨k + 1, by omega, ?_, ?_, ?_, hbel2⟩, ?_⟩
            · rw [e1]
              exact congrArg _ (by omega)
            · rw [e2]
              exact congrArg _ (by omega)
            · rw [HY]
              exact congrArg _ (by omega)
            · rw [HY]
              simp only [intOf]
              omega
        · have j2 : ¬ yv ≤ hY := by omega
          obtain rfl : k = H := by omega
          have X : wrap64 (xv + 1) = xv + 1 := w64 _ (by omega)
          have N := Lib.hid (And.intro hx1 (And.intro hx2 (And.intro hx3 (And.intro hyv (And.intro hu hv)))))
          clear hyv hu hv hx1 hx2 hx3 hbk hik hBi hIi hc1 hc2 bo1 bo2 hW1 hH1
          go_wp2
          have e1 := HF.out.1 i
          have e2 := HF.out.2.1 i
          have n3 := N.out
          refine ⟨⟨i + 1, by omega, ?_, ?_, ?_, hbel⟩, ?_⟩
          · exact congrArg _ (by omega)
          · exact congrArg _ (by omega)
          · exact congrArg _ (by omega)
          · simp only [intOf]
            omega
    · have j1 : ¬ xv ≤ hX := by omega
      obtain rfl : i = W := by omega
      have a0 : a = 0 := by have := HO.out.1; omega
      have b0 : b = 0 := by have := HO.out.2.1; omega
      subst a0 b0
      clear HWi bo hBi hIi hc hxv ha hb
      go_wp2
      go_ret
      exact ⟨rfl, keep_below b5 hbel⟩

end Go.Proofs.Ytpknllbglppjcaa

/- The law PlanePick, whole. -/
namespace Go.Proofs.Ytpknllbglppjcaa
open Go Go.RowKit Go.Proofs Go.Abs Go.Plain

theorem pickLaw_any (v1 : Value) (L : Pl) (w : World) (h1 : SlV w v1 L) :
    Calls Try.prog 12 #[v1] w fun e w' => e = .returned (.bool true) ∧ Below w.heap.size w w' := by
  cases hv : vOut L
  · exact pickLaw_bad v1 L w h1 hv
  obtain ⟨h3, -, hvp⟩ := vOut_n hv
  have hn := vPts_near hvp
  have nx : ∀ k, 0 ≤ px L k ∧ px L k ≤ 4096 := fun k => (hn k).1
  have ny : ∀ k, 0 ≤ py L k ∧ py L k ≤ 4096 := fun k => (hn k).2
  obtain ⟨k1, k2, k3, k4⟩ := pick_box hv
  have lx := low_in nx L.length
  have hx := high_in nx L.length
  have ly := low_in ny L.length
  have hy := high_in ny L.length
  have ox := Int.le_trans (low_le (px L) L.length 0 (by omega)) (le_high (px L) L.length 0 (by omega))
  have oy := Int.le_trans (low_le (py L) L.length 0 (by omega)) (le_high (py L) L.length 0 (by omega))
  have hW : (wdX L : Int) = highU (px L) L.length - lowU (px L) L.length + 1 := by unfold wdX; omega
  have hH : (wdY L : Int) = highU (py L) L.length - lowU (py L) L.length + 1 := by unfold wdY; omega
  have wb : ∀ (f : Pl → P2 → Int), (∀ z, 0 ≤ f L z ∧ f L z ≤ 1) → ∀ i, i ≤ wdX L → 0 ≤ winS L f i ∧ winS L f i ≤ 20000000 := fun f hf i hi => by
    have := winS_bound L f hf (by omega) i
    omega
  have cb : ∀ (f : Pl → P2 → Int), (∀ z, 0 ≤ f L z ∧ f L z ≤ 1) → ∀ i k, k ≤ wdY L → 0 ≤ colS L f i k ∧ colS L f i k ≤ 5000 := fun f hf i k hk => by
    have := colS_bound L f hf i k
    omega
  have b1 := wb bI (bI_bound L) (wdX L) (Nat.le_refl _)
  have b2 := wb iI (iI_bound L) (wdX L) (Nat.le_refl _)
  rw [k2] at b1
  rw [← k4] at b2
  refine pick_walk v1 L w h1 (sumL L) (onL L) (inK (sumL L) (onL L)) (lowU (px L) L.length) (lowU (py L) L.length) (highU (px L) L.length) (highU (py L) L.length) (wdX L) (wdY L) (fun x y => plV L (x, y)) (winS L bI) (winS L iI) (colS L bI) (colS L iI)
    ?_ ?_ ?_ ?_ (fun x y => plV_three L (x, y)) hW hH ⟨lx.1, hx.2⟩ ⟨ly.1, hy.2⟩ (winS_zero _ _) (winS_zero _ _) (colS_zero _ _) (colS_zero _ _) (winS_next _ _) (winS_next _ _) (colS_next L bI) (colS_next L iI)
    (wb bI (bI_bound L)) (wb iI (iI_bound L)) (cb bI (bI_bound L)) (cb iI (iI_bound L)) k2 k4.symm k3 b1 b2
  · intro w' hb
    have := area_sl (h1.keep hb)
    have e : arV L = .tuple #[.int .i64 (sumL L), .int .i64 0] := by unfold arV; rw [hv]; rfl
    rwa [e] at this
  · intro w' hb
    have := grid_sl (h1.keep hb)
    have e : grV L = .tuple #[.int .i64 (onL L), .int .i64 (inK (sumL L) (onL L)), .int .i64 0] := by unfold grV; rw [hv]; rfl
    rwa [e] at this
  · intro w' hb
    have := box_sl (h1.keep hb)
    have e : bxV L = .tuple #[pt (lowU (px L) L.length) (lowU (py L) L.length), pt (highU (px L) L.length) (highU (py L) L.length), .int .i64 0] := by unfold bxV; rw [hv]; rfl
    rwa [e] at this
  · intro w' x y hb g1 g2 g3 g4
    have := place_sl (h1.keep hb) x y
    have hq : valid x y = true := by
      unfold valid
      simp only [Bool.and_eq_true, decide_eq_true_eq]
      omega
    have e : pcV L x y = .tuple #[.int .i64 (plV L (x, y)), .int .i64 0] := by unfold pcV; rw [hv, hq]; rfl
    rwa [e] at this

end Go.Proofs.Ytpknllbglppjcaa
