/- Walks: valid marks. -/
import Derived.Test.YtcninhhbaddglaaC5
import Derived.Deep.Cut
namespace Go.Proofs.Ytcninhhbaddglaa
open Go Go.RowKit Go.Proofs

def M3.ok (lo hi : Int) (m : M3) : Bool := wi m.x lo hi && wi m.y 0 16 && wi m.z 1 16
def badM (lo hi : Int) (M : List M3) : Bool := (List.range M.length).any fun k => !(mq M k).ok lo hi
def vMs (lo hi : Int) (M : List M3) : Bool := decide (M.length ≤ 32) && !badM lo hi M && risesM M

theorem badM_true {lo hi : Int} {M : List M3} (k : Nat) (hk : k < M.length) (h : (mq M k).ok lo hi = false) : badM lo hi M = true := by
  unfold badM
  rw [List.any_eq_true]
  exact ⟨k, List.mem_range.2 hk, by simp [h]⟩

theorem badM_false {lo hi : Int} {M : List M3} (h : ∀ k, k < M.length → (mq M k).ok lo hi = true) : badM lo hi M = false := by
  unfold badM
  rw [List.any_eq_false]
  intro k hk
  simp [h k (List.mem_range.1 hk)]

set_option maxRecDepth 100000 in
set_option maxHeartbeats 2000000 in
theorem validMarks_any (v : Value) (lo hi : Int) (M : List M3) (w : World) (h : SlM w v M) :
    Calls Try.prog 38 #[v, spn lo hi] w fun e w' => e = .returned (.bool (vMs lo hi M)) ∧ Below w.heap.size w w' := by
  have b0 : Below w.heap.size w (w.alloc (spnObj lo hi)) := (Below.refl _ _).alloc (Nat.le_refl _) _
  have s0 := Sp.new w lo hi
  have RI := fun W hb => risingM_any v M W (h.keep (w' := W) hb)
  obtain ⟨a, cap, rfl, hl, hc⟩ := h
  unfold vMs
  have HA := Lib.hid (badM_true (lo := lo) (hi := hi) (M := M))
  have HF := Lib.hid (badM_false (lo := lo) (hi := hi) (M := M))
  have HC := Lib.hid hc
  clear hc
  generalize badM lo hi M = r at HA HF ⊢
  generalize risesM M = up at RI ⊢
  have HR := Lib.hid RI
  clear RI
  obtain ⟨n, hn⟩ : ∃ n, M.length = n := ⟨_, rfl⟩
  rw [hn] at HA HF HC HR hl ⊢
  clear hn
  by_cases h1 : 32 < n
  · have j1 : (32 : Int) < (n : Int) := by omega
    have HH : decide (n ≤ 32) = false := by simp; omega
    rw [HH]
    clear h1 HH
    go_enter Try.func38, Try.ntmps38
    go_wp2
    go_ret
    exact ⟨by simp, b0⟩
  · have j1 : ¬ (32 : Int) < (n : Int) := by omega
    have HH : decide (n ≤ 32) = true := by simp; omega
    rw [HH]
    clear h1 HH
    go_enter Try.func38, Try.ntmps38
    go_wp2_with fail
    obtain ⟨W0, hW0⟩ : ∃ W0, w.alloc (spnObj lo hi) = W0 := ⟨_, rfl⟩
    rw [hW0] at b0 s0
    change Code.wp _ _ _ _ (w.alloc (spnObj lo hi))
    rw [hW0]
    clear hW0
    go_loopw [12] (fun i wr => ∃ k : Nat, k ≤ n ∧ i = .int .i64 k ∧ Below w.heap.size w wr ∧ Sp wr w.heap.size lo hi ∧ ∀ j, j < k → (mq M j).ok lo hi = true) (fun i _ => n - (intOf i).toNat)
    case atStart => exact ⟨0, Nat.zero_le _, rfl, b0, s0, by simp⟩
    case round =>
      clear b0 s0 W0
      obtain ⟨k, hk, rfl, hb, sp, hall⟩ := hrel
      have HL := Lib.hid hall
      clear hall
      by_cases hlt : k < n
      · have jk : (k : Int) < (n : Int) := by omega
        obtain ⟨b, off, rfl, c0, c1, c2⟩ := HC.out k hlt
        replace c0 := keep_cell hb c0
        replace c1 := keep_cell hb c1
        replace c2 := keep_cell hb c2
        obtain ⟨x, hx⟩ : ∃ x, (mq M k).x = x := ⟨_, rfl⟩
        obtain ⟨y, hy⟩ : ∃ y, (mq M k).y = y := ⟨_, rfl⟩
        obtain ⟨z, hz⟩ : ∃ z, (mq M k).z = z := ⟨_, rfl⟩
        have hok : (mq M k).ok lo hi = (wi x lo hi && wi y 0 16 && wi z 1 16) := by rw [← hx, ← hy, ← hz]; rfl
        rw [hx] at c0
        rw [hy] at c1
        rw [hz] at c2
        clear hx hy hz
        have C1 := fun w => contains51_any lo hi x w
        have C2 := fun w => within_any y 0 16 w
        have C3 := fun w => within_any z 1 16 w
        generalize wi x lo hi = p1 at C1 hok
        generalize wi y 0 16 = p2 at C2 hok
        generalize wi z 1 16 = p3 at C3 hok
        have HOK := Lib.hid hok
        clear hok
        go_upto_region 6 with (fail)
        have sp' := sp.alloc (mkObj x y z)
        have mk' := Mk.new wr x y z
        have hb' := hb.alloc hb.size (mkObj x y z)
        obtain ⟨W1, hW1⟩ : ∃ W1, wr.alloc (mkObj x y z) = W1 := ⟨_, rfl⟩
        obtain ⟨B, hB⟩ : ∃ B, wr.heap.size = B := ⟨_, rfl⟩
        rw [hW1] at sp' mk' hb'
        change Code.wp _ _ _ _ (wr.alloc (mkObj x y z))
        rw [hW1]
        rw [hB] at mk' ⊢
        clear hW1 hB c0 c1 c2 sp hb
        have s0 := sp'.c0
        have s1 := sp'.c1
        have m0 := mk'.c0
        have m1 := mk'.c1
        have m2 := mk'.c2
        cases p1
        · have hr := HA.out k hlt (by rw [HOK.out]; rfl)
          subst hr
          go_wp2_with (first
            | (go_at_call 51; with_reducible refine (C1 _).mono ?_; rintro e w1 ⟨rfl, hb1⟩
               have n1 := keep_cell hb1 m1
               have n2 := keep_cell hb1 m2
               have hb2 := keep_below hb' hb1
               have sp2 := sp'.keep hb1
               clear m0 m1 m2 s0 s1 C1))
          go_ret
          exact ⟨by simp, hb2⟩
        · cases p2
          · have hr := HA.out k hlt (by rw [HOK.out]; rfl)
            subst hr
            go_wp2_with (first
            | (go_at_call 51; with_reducible refine (C1 _).mono ?_; rintro e w1 ⟨rfl, hb1⟩
               have n1 := keep_cell hb1 m1
               have n2 := keep_cell hb1 m2
               have hb2 := keep_below hb' hb1
               have sp2 := sp'.keep hb1
               clear m0 m1 m2 s0 s1 C1)
            | (go_at_call 36; with_reducible refine (C2 _).mono ?_; rintro e w2 ⟨rfl, rfl⟩))
            go_ret
            exact ⟨by simp, hb2⟩
          · cases p3
            · have hr := HA.out k hlt (by rw [HOK.out]; rfl)
              subst hr
              go_wp2_with (first
            | (go_at_call 51; with_reducible refine (C1 _).mono ?_; rintro e w1 ⟨rfl, hb1⟩
               have n1 := keep_cell hb1 m1
               have n2 := keep_cell hb1 m2
               have hb2 := keep_below hb' hb1
               have sp2 := sp'.keep hb1
               clear m0 m1 m2 s0 s1 C1)
            | (go_at_call 36; with_reducible refine (C2 _).mono ?_; rintro e w2 ⟨rfl, rfl⟩)
            | (go_at_call 36; with_reducible refine (C3 _).mono ?_; rintro e w2 ⟨rfl, rfl⟩))
              go_ret
              exact ⟨by simp, hb2⟩
            · go_wp2_with (first
            | (go_at_call 51; with_reducible refine (C1 _).mono ?_; rintro e w1 ⟨rfl, hb1⟩
               have n1 := keep_cell hb1 m1
               have n2 := keep_cell hb1 m2
               have hb2 := keep_below hb' hb1
               have sp2 := sp'.keep hb1
               clear m0 m1 m2 s0 s1 C1)
            | (go_at_call 36; with_reducible refine (C2 _).mono ?_; rintro e w2 ⟨rfl, rfl⟩)
            | (go_at_call 36; with_reducible refine (C3 _).mono ?_; rintro e w2 ⟨rfl, rfl⟩))
              refine ⟨⟨k + 1, by omega, by simp, hb2, sp2, fun j hj => ?_⟩, by simp [intOf]; omega⟩
              rcases Nat.lt_or_ge j k with h | h
              · exact HL.out j h
              · obtain rfl : j = k := by omega
                rw [HOK.out]; rfl
      · obtain rfl : k = n := by omega
        have hr := HF.out (fun j hj => HL.out j hj)
        have C := HR.out wr hb
        subst hr
        go_wp2_with (go_at_call 67; with_reducible refine C.mono ?_; rintro e w1 ⟨rfl, hb1⟩)
        go_ret
        exact ⟨by simp, keep_below hb hb1⟩

end Go.Proofs.Ytcninhhbaddglaa
