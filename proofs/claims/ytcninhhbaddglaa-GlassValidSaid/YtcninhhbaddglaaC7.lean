/- Walks: the reference's marks. -/
import Derived.Test.YtcninhhbaddglaaC6
namespace Go.Proofs.Ytcninhhbaddglaa
open Go Go.RowKit Go.Proofs

def M3.ok2 (m : M3) : Bool := wi m.y 0 16 && wi m.z 1 16
def badT (M : List M3) : Bool := (List.range M.length).any fun k => !(mq M k).ok2
def rMs (M : List M3) : Bool := decide (M.length ≤ 32) && !badT M && risesM M

theorem badT_true {M : List M3} (k : Nat) (hk : k < M.length) (h : (mq M k).ok2 = false) : badT M = true := by
  unfold badT
  rw [List.any_eq_true]
  exact ⟨k, List.mem_range.2 hk, by simp [h]⟩

theorem badT_false {M : List M3} (h : ∀ k, k < M.length → (mq M k).ok2 = true) : badT M = false := by
  unfold badT
  rw [List.any_eq_false]
  intro k hk
  simp [h k (List.mem_range.1 hk)]

set_option maxRecDepth 100000 in
set_option maxHeartbeats 4000000 in
theorem refMarks_any (v : Value) (M : List M3) (w : World) (h : SlM w v M) :
    Calls Try.prog 41 #[v] w fun e w' => e = .returned (.bool (rMs M)) ∧ Below w.heap.size w w' := by
  obtain ⟨a, cap, rfl, hl, hc⟩ := h
  unfold rMs
  have HA := Lib.hid (badT_true (M := M))
  have HF := Lib.hid (badT_false (M := M))
  have HU := Lib.hid (risesM_true (M := M))
  have HD := Lib.hid (risesM_false (M := M))
  have HC := Lib.hid hc
  clear hc
  generalize badT M = r at HA HF ⊢
  generalize risesM M = up at HU HD ⊢
  obtain ⟨n, hn⟩ : ∃ n, M.length = n := ⟨_, rfl⟩
  rw [hn] at HA HF HC HU HD hl ⊢
  clear hn
  by_cases h1 : 32 < n
  · have j1 : (32 : Int) < (n : Int) := by omega
    have HH : decide (n ≤ 32) = false := by simp; omega
    rw [HH]
    clear h1 HH
    go_enter Try.func41, Try.ntmps41
    go_wp2
    go_ret
    exact ⟨by simp, Below.refl _ _⟩
  · have j1 : ¬ (32 : Int) < (n : Int) := by omega
    have HH : decide (n ≤ 32) = true := by simp; omega
    rw [HH]
    clear h1 HH
    go_enter Try.func41, Try.ntmps41
    go_wp2_with fail
    go_loopw [3] (fun i wr => ∃ k : Nat, k ≤ n ∧ i = .int .i64 k ∧ Below w.heap.size w wr ∧ (∀ j, j < k → (mq M j).ok2 = true) ∧ ∀ j, j + 1 < k → cmpK M j < 0) (fun i _ => n - (intOf i).toNat)
    case atStart => exact ⟨0, Nat.zero_le _, rfl, Below.refl _ _, by simp, by simp⟩
    case round =>
      obtain ⟨k, hk, rfl, hb, hall, hris⟩ := hrel
      have HL := Lib.hid hall
      have HR := Lib.hid hris
      clear hall hris
      by_cases hlt : k < n
      · have jk : (k : Int) < (n : Int) := by omega
        obtain ⟨b, off, rfl, c0, c1, c2⟩ := HC.out k hlt
        replace c0 := keep_cell hb c0
        replace c1 := keep_cell hb c1
        replace c2 := keep_cell hb c2
        obtain ⟨x, hx⟩ : ∃ x, (mq M k).x = x := ⟨_, rfl⟩
        obtain ⟨y, hy⟩ : ∃ y, (mq M k).y = y := ⟨_, rfl⟩
        obtain ⟨z, hz⟩ : ∃ z, (mq M k).z = z := ⟨_, rfl⟩
        have hok : (mq M k).ok2 = (wi y 0 16 && wi z 1 16) := by rw [← hy, ← hz]; rfl
        rw [hx] at c0
        rw [hy] at c1
        rw [hz] at c2
        have HX := Lib.hid hx
        have HY := Lib.hid hy
        have HZ := Lib.hid hz
        clear hx hy hz
        have C2 := fun w => refWithin_any y 0 16 w
        have C3 := fun w => refWithin_any z 1 16 w
        generalize wi y 0 16 = p2 at C2 hok
        generalize wi z 1 16 = p3 at C3 hok
        have HOK := Lib.hid hok
        clear hok
        cases p2
        · have hr := HA.out k hlt (by rw [HOK.out]; rfl)
          subst hr
          have G1 := grow_cell c1
          go_wp2_with fail
          refine wp_region_grow (by kernel_rfl) (by kernel_rfl) ?_
          repeat (go_big_quiet_step ((go_at_call 39; with_reducible exact calls_grow_same (C2 _))))
          refine wpQuiet_nil ?_
          rintro w2 ⟨g, hg⟩
          have hb1 : Below wr.heap.size wr w2 := by rw [hg]; exact g.b
          clear hg g G1 c0 c1 c2
          go_wp2
          go_ret
          exact ⟨by simp, keep_below hb hb1⟩
        · cases p3
          · have hr := HA.out k hlt (by rw [HOK.out]; rfl)
            subst hr
            have G1 := grow_cell c1
            have G2 := grow_cell c2
            go_wp2_with fail
            refine wp_region_grow (by kernel_rfl) (by kernel_rfl) ?_
            repeat (go_big_quiet_step ((go_at_call 39; first | with_reducible exact calls_grow_same (C2 _) | with_reducible exact calls_grow_same (C3 _))))
            refine wpQuiet_nil ?_
            rintro w2 ⟨g, hg⟩
            have hb1 : Below wr.heap.size wr w2 := by rw [hg]; exact g.b
            clear hg g G1 G2 c0 c1 c2
            go_wp2
            go_ret
            exact ⟨by simp, keep_below hb hb1⟩
          · rcases k with _ | k
            · rw [show off + 0 * 3 = off by omega] at c0 c1 c2
              have G1 := grow_cell c1
              have G2 := grow_cell c2
              go_wp2_with fail
              refine wp_region_grow (by kernel_rfl) (by kernel_rfl) ?_
              repeat (go_big_quiet_step ((go_at_call 39; first | with_reducible exact calls_grow_same (C2 _) | with_reducible exact calls_grow_same (C3 _))))
              refine wpQuiet_nil ?_
              rintro w2 ⟨g, hg⟩
              have hb1 : Below wr.heap.size wr w2 := by rw [hg]; exact g.b
              clear hg g G1 G2 c0 c1 c2
              go_wp2
              refine ⟨⟨1, by omega, by simp, keep_below hb hb1, fun j hj => ?_, fun j hj => absurd hj (by omega)⟩, by simp [intOf]; omega⟩
              obtain rfl : j = 0 := by omega
              rw [HOK.out]; rfl
            · obtain ⟨b', off', hbb, d0, d1, d2⟩ := HC.out k (by omega)
              obtain ⟨rfl, rfl⟩ : b = b' ∧ off = off' := by cases hbb; exact ⟨rfl, rfl⟩
              clear hbb
              replace d0 := keep_cell hb d0
              replace d1 := keep_cell hb d1
              replace d2 := keep_cell hb d2
              have hck : cmpK M k = cmpM (mq M k).x (mq M k).y (mq M k).z x y z := by rw [← HX.out, ← HY.out, ← HZ.out]; rfl
              have C := fun w => earlier_any (mq M k).x (mq M k).y (mq M k).z x y z w
              rw [← hck] at C
              clear hck
              obtain ⟨c, hcc⟩ : ∃ c, cmpK M k = c := ⟨_, rfl⟩
              simp only [hcc] at C
              have HB := Lib.hid hcc
              clear hcc
              obtain ⟨e, he⟩ : ∃ e, decide (c < 0) = e := ⟨_, rfl⟩
              simp only [he] at C
              have HE := Lib.hid he
              clear he
              generalize (mq M k).x = y0 at d0 C
              generalize (mq M k).y = y1 at d1 C
              generalize (mq M k).z = y2 at d2 C
              have e1 : IntKind.i64.wrap (k : Int) = k := wi64 _ (by omega)
              have j0 : (0 : Int) < (k : Int) + 1 := by omega
              have j2 : (k : Int) < (n : Int) := by omega
              have j3 : (0 : Int) ≤ (k : Int) := by omega
              have j4 : (0 : Int) ≤ (k : Int) + 1 := by omega
              have j5 : ((k : Int) + 1).toNat = k + 1 := by omega
              have j6 : (k : Int) + 1 < (n : Int) := by omega
              clear jk
              have G0 := grow_cell c0
              have G1 := grow_cell c1
              have G2 := grow_cell c2
              have G3 := grow_cell d0
              have G4 := grow_cell d1
              have G5 := grow_cell d2
              go_wp2_with fail
              refine wp_region_grow (by kernel_rfl) (by kernel_rfl) ?_
              repeat (go_big_quiet_step ((first
                | (go_at_call 39; first | with_reducible exact calls_grow_same (C2 _) | with_reducible exact calls_grow_same (C3 _))
                | (go_at_call 70; with_reducible exact calls_grow (C _)))))
              refine wpQuiet_nil ?_
              rintro w2 ⟨g, hg⟩
              have hb1 : Below wr.heap.size wr w2 := by rw [hg]; exact g.b
              clear hg g G0 G1 G2 G3 G4 G5 c0 c1 c2 d0 d1 d2 e1 j0 j2 j3 j4 j5
              have hb2 := keep_below hb hb1
              clear hb hb1 C C2 C3
              cases e
              · have hd := HD.out k hlt (by rw [HB.out]; have := HE.out; simp at this; omega)
                subst hd
                go_wp2
                go_ret
                exact ⟨by simp, hb2⟩
              · go_wp2
                refine ⟨⟨k + 1 + 1, by omega, by simp, hb2, fun j hj => ?_, fun j hj => ?_⟩, by simp [intOf]; omega⟩
                · rcases Nat.lt_or_ge j (k + 1) with h | h
                  · exact HL.out j h
                  · obtain rfl : j = k + 1 := by omega
                    rw [HOK.out]; rfl
                · rcases Nat.lt_or_ge (j + 1) (k + 1) with h | h
                  · exact HR.out j h
                  · obtain rfl : j = k := by omega
                    rw [HB.out]; exact of_decide_eq_true HE.out
      · obtain rfl : k = n := by omega
        have hr := HF.out (fun j hj => HL.out j hj)
        have hu := HU.out (fun j hj => HR.out j hj)
        subst hr
        subst hu
        go_wp2
        go_ret
        exact ⟨by simp, hb⟩

end Go.Proofs.Ytcninhhbaddglaa
