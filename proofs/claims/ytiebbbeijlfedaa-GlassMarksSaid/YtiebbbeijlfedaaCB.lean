/- The abstract machine, part CB. -/
import Derived.Test.YtiebbbeijlfedaaC5
import Derived.Deep.Cut
import Derived.Test.YtiebbbeijlfedaaC3
/- Walks: valid marks. -/
namespace Go.Proofs.Ytiebbbeijlfedaa
open Go Go.RowKit Go.Proofs

def M3.ok (lo hi : Int) (m : M3) : Bool := wi m.x lo hi && wi m.y 0 16 && wi m.z 1 16
def badM (lo hi : Int) (M : List M3) : Bool := (List.range M.length).any fun k => !(mq M k).ok lo hi
def vMs (lo hi : Int) (M : List M3) : Bool := decide (M.length ≤ 32) && !badM lo hi M && risesM M

theorem badM_true {lo hi : Int} {M : List M3} (k : Nat) (hk : k < M.length) (h : (mq M k).ok lo hi = false) : badM lo hi M = true := by
  unfold badM
  rw [List.any_eq_true]
  exact ⟨k, List.mem_range.2 hk, by simp [h]⟩

theorem badM_false {lo hi : Int} {M : List M3} (h : ∀ k, k < M.length → (mq M k).ok lo hi = true) : badM lo hi M = false := by
  unfold badM
  rw [List.any_eq_false]
  intro k hk
  simp [h k (List.mem_range.1 hk)]

set_option maxRecDepth 100000 in
set_option maxHeartbeats 2000000 in
theorem validMarks_any (v : Value) (lo hi : Int) (M : List M3) (w : World) (h : SlM w v M) :
    Calls Try.prog 38 #[v, spn lo hi] w fun e w' => e = .returned (.bool (vMs lo hi M)) ∧ Below w.heap.size w w' := by
  have b0 : Below w.heap.size w (w.alloc (spnObj lo hi)) := (Below.refl _ _).alloc (Nat.le_refl _) _
  have s0 := Sp.new w lo hi
  have RI := fun W hb => risingM_any v M W (h.keep (w' := W) hb)
  obtain ⟨a, cap, rfl, hl, hc⟩ := h
  unfold vMs
  have HA := Lib.hid (badM_true (lo := lo) (hi := hi) (M := M))
  have HF := Lib.hid (badM_false (lo := lo) (hi := hi) (M := M))
  have HC := Lib.hid hc
  clear hc
  generalize badM lo hi M = r at HA HF ⊢
  generalize risesM M = up at RI ⊢
  have HR := Lib.hid RI
  clear RI
  obtain ⟨n, hn⟩ : ∃ n, M.length = n := ⟨_, rfl⟩
  rw [hn] at HA HF HC HR hl ⊢
  clear hn
  by_cases h1 : 32 < n
  · have j1 : (32 : Int) < (n : Int) := by omega
    have HH : decide (n ≤ 32) = false := by simp; omega
    rw [HH]
    clear h1 HH
    go_enter Try.func38, Try.ntmps38
    go_wp2
    go_ret
    exact ⟨by simp, b0⟩
  · have j1 : ¬ (32 : Int) < (n : Int) := by omega
    have HH : decide (n ≤ 32) = true := by simp; omega
    rw [HH]
    clear h1 HH
    go_enter Try.func38, Try.ntmps38
    go_wp2_with fail
    obtain ⟨W0, hW0⟩ : ∃ W0, w.alloc (spnObj lo hi) = W0 := ⟨_, rfl⟩
    rw [hW0] at b0 s0
    change Code.wp _ _ _ _ (w.alloc (spnObj lo hi))
    rw [hW0]
    clear hW0
    go_loopw [12] (fun i wr => ∃ k : Nat, k ≤ n ∧ i = .int .i64 k ∧ Below w.heap.size w wr ∧ Sp wr w.heap.size lo hi ∧ ∀ j, j < k → (mq M j).ok lo hi = true) (fun i _ => n - (intOf i).toNat)
    case atStart => exact ⟨0, Nat.zero_le _, rfl, b0, s0, by simp⟩
    case round =>
      clear b0 s0 W0
      obtain ⟨k, hk, rfl, hb, sp, hall⟩ := hrel
      have HL := Lib.hid hall
      clear hall
      by_cases hlt : k < n
      · have jk : (k : Int) < (n : Int) := by omega
        obtain ⟨b, off, rfl, c0, c1, c2⟩ := HC.out k hlt
        replace c0 := keep_cell hb c0
        replace c1 := keep_cell hb c1
        replace c2 := keep_cell hb c2
        obtain ⟨x, hx⟩ : ∃ x, (mq M k).x = x := ⟨_, rfl⟩
        obtain ⟨y, hy⟩ : ∃ y, (mq M k).y = y := ⟨_, rfl⟩
        obtain ⟨z, hz⟩ : ∃ z, (mq M k).z = z := ⟨_, rfl⟩
        have hok : (mq M k).ok lo hi = (wi x lo hi && wi y 0 16 && wi z 1 16) := by rw [← hx, ← hy, ← hz]; rfl
        rw [hx] at c0
        rw [hy] at c1
        rw [hz] at c2
        clear hx hy hz
        have C1 := fun w => contains51_any lo hi x w
        have C2 := fun w => within_any y 0 16 w
        have C3 := fun w => within_any z 1 16 w
        generalize wi x lo hi = p1 at C1 hok
        generalize wi y 0 16 = p2 at C2 hok
        generalize wi z 1 16 = p3 at C3 hok
        have HOK := Lib.hid hok
        clear hok
        go_upto_region 6 with (fail)
        have sp' := sp.alloc (mkObj x y z)
        have mk' := Mk.new wr x y z
        have hb' := hb.alloc hb.size (mkObj x y z)
        obtain ⟨W1, hW1⟩ : ∃ W1, wr.alloc (mkObj x y z) = W1 := ⟨_, rfl⟩
        obtain ⟨B, hB⟩ : ∃ B, wr.heap.size = B := ⟨_, rfl⟩
        rw [hW1] at sp' mk' hb'
        change Code.wp _ _ _ _ (wr.alloc (mkObj x y z))
        rw [hW1]
        rw [hB] at mk' ⊢
        clear hW1 hB c0 c1 c2 sp hb
        have s0 := sp'.c0
        have s1 := sp'.c1
        have m0 := mk'.c0
        have m1 := mk'.c1
        have m2 := mk'.c2
        cases p1
        · have hr := HA.out k hlt (by rw [HOK.out]; rfl)
          subst hr
          go_wp2_with (first
            | (go_at_call 51; with_reducible refine (C1 _).mono ?_; rintro e w1 ⟨rfl, hb1⟩
               have n1 := keep_cell hb1 m1
               have n2 := keep_cell hb1 m2
               have hb2 := keep_below hb' hb1
               have sp2 := sp'.keep hb1
               clear m0 m1 m2 s0 s1 C1))
          go_ret
          exact ⟨by simp, hb2⟩
        · cases p2
          · have hr := HA.out k hlt (by rw [HOK.out]; rfl)
            subst hr
            go_wp2_with (first
            | (go_at_call 51; with_reducible refine (C1 _).mono ?_; rintro e w1 ⟨rfl, hb1⟩
               have n1 := keep_cell hb1 m1
               have n2 := keep_cell hb1 m2
               have hb2 := keep_below hb' hb1
               have sp2 := sp'.keep hb1
               clear m0 m1 m2 s0 s1 C1)
            | (go_at_call 36; with_reducible refine (C2 _).mono ?_; rintro e w2 ⟨rfl, rfl⟩))
            go_ret
            exact ⟨by simp, hb2⟩
          · cases p3
            · have hr := HA.out k hlt (by rw [HOK.out]; rfl)
              subst hr
              go_wp2_with (first
            | (go_at_call 51; with_reducible refine (C1 _).mono ?_; rintro e w1 ⟨rfl, hb1⟩
               have n1 := keep_cell hb1 m1
               have n2 := keep_cell hb1 m2
               have hb2 := keep_below hb' hb1
               have sp2 := sp'.keep hb1
               clear m0 m1 m2 s0 s1 C1)
            | (go_at_call 36; with_reducible refine (C2 _).mono ?_; rintro e w2 ⟨rfl, rfl⟩)
            | (go_at_call 36; with_reducible refine (C3 _).mono ?_; rintro e w2 ⟨rfl, rfl⟩))
              go_ret
              exact ⟨by simp, hb2⟩
            · go_wp2_with (first
            | (go_at_call 51; with_reducible refine (C1 _).mono ?_; rintro e w1 ⟨rfl, hb1⟩
               have n1 := keep_cell hb1 m1
               have n2 := keep_cell hb1 m2
               have hb2 := keep_below hb' hb1
               have sp2 := sp'.keep hb1
               clear m0 m1 m2 s0 s1 C1)
            | (go_at_call 36; with_reducible refine (C2 _).mono ?_; rintro e w2 ⟨rfl, rfl⟩)
            | (go_at_call 36; with_reducible refine (C3 _).mono ?_; rintro e w2 ⟨rfl, rfl⟩))
              refine ⟨⟨k + 1, by omega, by simp, hb2, sp2, fun j hj => ?_⟩, by simp [intOf]; omega⟩
              rcases Nat.lt_or_ge j k with h | h
              · exact HL.out j h
              · obtain rfl : j = k := by omega
                rw [HOK.out]; rfl
      · obtain rfl : k = n := by omega
        have hr := HF.out (fun j hj => HL.out j hj)
        have C := HR.out wr hb
        subst hr
        go_wp2_with (go_at_call 67; with_reducible refine C.mono ?_; rintro e w1 ⟨rfl, hb1⟩)
        go_ret
        exact ⟨by simp, keep_below hb hb1⟩

end Go.Proofs.Ytiebbbeijlfedaa

/- Walks: the reference's marks. -/
namespace Go.Proofs.Ytiebbbeijlfedaa
open Go Go.RowKit Go.Proofs

def M3.ok2 (m : M3) : Bool := wi m.y 0 16 && wi m.z 1 16
def badT (M : List M3) : Bool := (List.range M.length).any fun k => !(mq M k).ok2
def rMs (M : List M3) : Bool := decide (M.length ≤ 32) && !badT M && risesM M

theorem badT_true {M : List M3} (k : Nat) (hk : k < M.length) (h : (mq M k).ok2 = false) : badT M = true := by
  unfold badT
  rw [List.any_eq_true]
  exact ⟨k, List.mem_range.2 hk, by simp [h]⟩

theorem badT_false {M : List M3} (h : ∀ k, k < M.length → (mq M k).ok2 = true) : badT M = false := by
  unfold badT
  rw [List.any_eq_false]
  intro k hk
  simp [h k (List.mem_range.1 hk)]

set_option maxRecDepth 100000 in
set_option maxHeartbeats 4000000 in
theorem refMarks_any (v : Value) (M : List M3) (w : World) (h : SlM w v M) :
    Calls Try.prog 41 #[v] w fun e w' => e = .returned (.bool (rMs M)) ∧ Below w.heap.size w w' := by
  obtain ⟨a, cap, rfl, hl, hc⟩ := h
  unfold rMs
  have HA := Lib.hid (badT_true (M := M))
  have HF := Lib.hid (badT_false (M := M))
  have HU := Lib.hid (risesM_true (M := M))
  have HD := Lib.hid (risesM_false (M := M))
  have HC := Lib.hid hc
  clear hc
  generalize badT M = r at HA HF ⊢
  generalize risesM M = up at HU HD ⊢
  obtain ⟨n, hn⟩ : ∃ n, M.length = n := ⟨_, rfl⟩
  rw [hn] at HA HF HC HU HD hl ⊢
  clear hn
  by_cases h1 : 32 < n
  · have j1 : (32 : Int) < (n : Int) := by omega
    have HH : decide (n ≤ 32) = false := by simp; omega
    rw [HH]
    clear h1 HH
    go_enter Try.func41, Try.ntmps41
    go_wp2
    go_ret
    exact ⟨by simp, Below.refl _ _⟩
  · have j1 : ¬ (32 : Int) < (n : Int) := by omega
    have HH : decide (n ≤ 32) = true := by simp; omega
    rw [HH]
    clear h1 HH
    go_enter Try.func41, Try.ntmps41
    go_wp2_with fail
    go_loopw [3] (fun i wr => ∃ k : Nat, k ≤ n ∧ i = .int .i64 k ∧ Below w.heap.size w wr ∧ (∀ j, j < k → (mq M j).ok2 = true) ∧ ∀ j, j + 1 < k → cmpK M j < 0) (fun i _ => n - (intOf i).toNat)
    case atStart => exact ⟨0, Nat.zero_le _, rfl, Below.refl _ _, by simp, by simp⟩
    case round =>
      obtain ⟨k, hk, rfl, hb, hall, hris⟩ := hrel
      have HL := Lib.hid hall
      have HR := Lib.hid hris
      clear hall hris
      by_cases hlt : k < n
      · have jk : (k : Int) < (n : Int) := by omega
        obtain ⟨b, off, rfl, c0, c1, c2⟩ := HC.out k hlt
        replace c0 := keep_cell hb c0
        replace c1 := keep_cell hb c1
        replace c2 := keep_cell hb c2
        obtain ⟨x, hx⟩ : ∃ x, (mq M k).x = x := ⟨_, rfl⟩
        obtain ⟨y, hy⟩ : ∃ y, (mq M k).y = y := ⟨_, rfl⟩
        obtain ⟨z, hz⟩ : ∃ z, (mq M k).z = z := ⟨_, rfl⟩
        have hok : (mq M k).ok2 = (wi y 0 16 && wi z 1 16) := by rw [← hy, ← hz]; rfl
        rw [hx] at c0
        rw [hy] at c1
        rw [hz] at c2
        have HX := Lib.hid hx
        have HY := Lib.hid hy
        have HZ := Lib.hid hz
        clear hx hy hz
        have C2 := fun w => refWithin_any y 0 16 w
        have C3 := fun w => refWithin_any z 1 16 w
        generalize wi y 0 16 = p2 at C2 hok
        generalize wi z 1 16 = p3 at C3 hok
        have HOK := Lib.hid hok
        clear hok
        cases p2
        · have hr := HA.out k hlt (by rw [HOK.out]; rfl)
          subst hr
          have G1 := grow_cell c1
          go_wp2_with fail
          refine wp_region_grow (by kernel_rfl) (by kernel_rfl) ?_
          repeat (go_big_quiet_step ((go_at_call 39; with_reducible exact calls_grow_same (C2 _))))
          refine wpQuiet_nil ?_
          rintro w2 ⟨g, hg⟩
          have hb1 : Below wr.heap.size wr w2 := by rw [hg]; exact g.b
          clear hg g G1 c0 c1 c2
          go_wp2
          go_ret
          exact ⟨by simp, keep_below hb hb1⟩
        · cases p3
          · have hr := HA.out k hlt (by rw [HOK.out]; rfl)
            subst hr
            have G1 := grow_cell c1
            have G2 := grow_cell c2
            go_wp2_with fail
            refine wp_region_grow (by kernel_rfl) (by kernel_rfl) ?_
            repeat (go_big_quiet_step ((go_at_call 39; first | with_reducible exact calls_grow_same (C2 _) | with_reducible exact calls_grow_same (C3 _))))
            refine wpQuiet_nil ?_
            rintro w2 ⟨g, hg⟩
            have hb1 : Below wr.heap.size wr w2 := by rw [hg]; exact g.b
            clear hg g G1 G2 c0 c1 c2
            go_wp2
            go_ret
            exact ⟨by simp, keep_below hb hb1⟩
          · rcases k with _ | k
            · rw [show off + 0 * 3 = off by omega] at c0 c1 c2
              have G1 := grow_cell c1
              have G2 := grow_cell c2
              go_wp2_with fail
              refine wp_region_grow (by kernel_rfl) (by kernel_rfl) ?_
              repeat (go_big_quiet_step ((go_at_call 39; first | with_reducible exact calls_grow_same (C2 _) | with_reducible exact calls_grow_same (C3 _))))
              refine wpQuiet_nil ?_
              rintro w2 ⟨g, hg⟩
              have hb1 : Below wr.heap.size wr w2 := by rw [hg]; exact g.b
              clear hg g G1 G2 c0 c1 c2
              go_wp2
              refine ⟨⟨1, by omega, by simp, keep_below hb hb1, fun j hj => ?_, fun j hj => absurd hj (by omega)⟩, by simp [intOf]; omega⟩
              obtain rfl : j = 0 := by omega
              rw [HOK.out]; rfl
            · obtain ⟨b', off', hbb, d0, d1, d2⟩ := HC.out k (by omega)
              obtain ⟨rfl, rfl⟩ : b = b' ∧ off = off' := by cases hbb; exact ⟨rfl, rfl⟩
              clear hbb
              replace d0 := keep_cell hb d0
              replace d1 := keep_cell hb d1
              replace d2 := keep_cell hb d2
              have hck : cmpK M k = cmpM (mq M k).x (mq M k).y (mq M k).z x y z := by rw [← HX.out, ← HY.out, ← HZ.out]; rfl
              have C := fun w => earlier_any (mq M k).x (mq M k).y (mq M k).z x y z w
              rw [← hck] at C
              clear hck
              obtain ⟨c, hcc⟩ : ∃ c, cmpK M k = c := ⟨_, rfl⟩
              simp only [hcc] at C
              have HB := Lib.hid hcc
              clear hcc
              obtain ⟨e, he⟩ : ∃ e, decide (c < 0) = e := ⟨_, rfl⟩
              simp only [he] at C
              have HE := Lib.hid he
              clear he
              generalize (mq M k).x = y0 at d0 C
              generalize (mq M k).y = y1 at d1 C
              generalize (mq M k).z = y2 at d2 C
              have e1 : IntKind.i64.wrap (k : Int) = k := wi64 _ (by omega)
              have j0 : (0 : Int) < (k : Int) + 1 := by omega
              have j2 : (k : Int) < (n : Int) := by omega
              have j3 : (0 : Int) ≤ (k : Int) := by omega
              have j4 : (0 : Int) ≤ (k : Int) + 1 := by omega
              have j5 : ((k : Int) + 1).toNat = k + 1 := by omega
              have j6 : (k : Int) + 1 < (n : Int) := by omega
              clear jk
              have G0 := grow_cell c0
              have G1 := grow_cell c1
              have G2 := grow_cell c2
              have G3 := grow_cell d0
              have G4 := grow_cell d1
              have G5 := grow_cell d2
              go_wp2_with fail
              refine wp_region_grow (by kernel_rfl) (by kernel_rfl) ?_
              repeat (go_big_quiet_step ((first
                | (go_at_call 39; first | with_reducible exact calls_grow_same (C2 _) | with_reducible exact calls_grow_same (C3 _))
                | (go_at_call 70; with_reducible exact calls_grow (C _)))))
              refine wpQuiet_nil ?_
              rintro w2 ⟨g, hg⟩
              have hb1 : Below wr.heap.size wr w2 := by rw [hg]; exact g.b
              clear hg g G0 G1 G2 G3 G4 G5 c0 c1 c2 d0 d1 d2 e1 j0 j2 j3 j4 j5
              have hb2 := keep_below hb hb1
              clear hb hb1 C C2 C3
              cases e
              · have hd := HD.out k hlt (by rw [HB.out]; have := HE.out; simp at this; omega)
                subst hd
                go_wp2
                go_ret
                exact ⟨by simp, hb2⟩
              · go_wp2
                refine ⟨⟨k + 1 + 1, by omega, by simp, hb2, fun j hj => ?_, fun j hj => ?_⟩, by simp [intOf]; omega⟩
                · rcases Nat.lt_or_ge j (k + 1) with h | h
                  · exact HL.out j h
                  · obtain rfl : j = k + 1 := by omega
                    rw [HOK.out]; rfl
                · rcases Nat.lt_or_ge (j + 1) (k + 1) with h | h
                  · exact HR.out j h
                  · obtain rfl : j = k := by omega
                    rw [HB.out]; exact of_decide_eq_true HE.out
      · obtain rfl : k = n := by omega
        have hr := HF.out (fun j hj => HL.out j hj)
        have hu := HU.out (fun j hj => HR.out j hj)
        subst hr
        subst hu
        go_wp2
        go_ret
        exact ⟨by simp, hb⟩

end Go.Proofs.Ytiebbbeijlfedaa

/- Walks: valid pieces, the program's. -/
namespace Go.Proofs.Ytiebbbeijlfedaa
open Go Go.RowKit Go.Proofs

abbrev pcs (id c r m s : Int) (vg vm : Value) : Value := .agg #[.int .i64 id, .int .i64 c, .int .i64 r, .int .i64 m, .int .i64 s, vg, vm]
abbrev pcsObj (id c r m s : Int) (vg vm : Value) : Obj := .cells #[.int .i64 id, .int .i64 c, .int .i64 r, .int .i64 m, .int .i64 s, vg, vm] 25

def vP (id c r m s : Int) (G : List G5) (M : List M3) : Bool := wi id 1 65535 && wi c 1 16 && wi r 1 16 && wi m 0 9999 && wi s (-64) 64 && vGs G && vMs 0 (G.length - 1) M

theorem pcs_new (w : World) (id c r m s : Int) (vg vm : Value) : (w.alloc (pcsObj id c r m s vg vm)).heap[w.heap.size]? = some (.cells #[.int .i64 id, .int .i64 c, .int .i64 r, .int .i64 m, .int .i64 s, vg, vm] 25 (0, 0)) := alloc_heap_new _ _

set_option maxRecDepth 100000 in
set_option maxHeartbeats 4000000 in
theorem validPiece_any (id c r m s : Int) (vg vm : Value) (G : List G5) (M : List M3) (w : World) (hG : SlG w vg G) (hM : SlM w vm M) :
    Calls Try.prog 11 #[pcs id c r m s vg vm] w fun e w' => e = .returned (.bool (vP id c r m s G M)) ∧ Below w.heap.size w w' := by
  have b0 : Below w.heap.size w (w.alloc (pcsObj id c r m s vg vm)) := (Below.refl _ _).alloc (Nat.le_refl _) _
  have hp := pcs_new w id c r m s vg vm
  have g5 : (w.alloc (pcsObj id c r m s vg vm)).cell? ⟨w.heap.size, 5, none⟩ = some vg := cell_of hp rfl
  have g6 : (w.alloc (pcsObj id c r m s vg vm)).cell? ⟨w.heap.size, 6, none⟩ = some vm := cell_of hp rfl
  have CG := validGauges_any vg G _ (hG.keep b0)
  obtain ⟨ga, gcap, rfl, hgl, -⟩ := hG
  have e1 : IntKind.i64.wrap ((G.length : Int) - 1) = (G.length : Int) - 1 := wi64 _ (by omega)
  have C0 := fun w => within_any id 1 65535 w
  have C1 := fun w => within_any c 1 16 w
  have C2 := fun w => within_any r 1 16 w
  have C3 := fun w => within_any m 0 9999 w
  have C4 := fun w => within_any s (-64) 64 w
  unfold vP
  generalize wi id 1 65535 = p0 at C0 ⊢
  generalize wi c 1 16 = p1 at C1 ⊢
  generalize wi r 1 16 = p2 at C2 ⊢
  generalize wi m 0 9999 = p3 at C3 ⊢
  generalize wi s (-64) 64 = p4 at C4 ⊢
  generalize vGs G = pg at CG ⊢
  generalize G.length = n at e1 hgl CG b0 g5 g6 hp ⊢
  clear hp
  cases p0
  · go_enter Try.func11, Try.ntmps11
    go_wp2_with (first
            | (go_at_call 36; with_reducible refine (C0 _).mono ?_; rintro e w1 ⟨rfl, rfl⟩)
            | (go_at_call 36; with_reducible refine (C1 _).mono ?_; rintro e w1 ⟨rfl, rfl⟩)
            | (go_at_call 36; with_reducible refine (C2 _).mono ?_; rintro e w1 ⟨rfl, rfl⟩)
            | (go_at_call 36; with_reducible refine (C3 _).mono ?_; rintro e w1 ⟨rfl, rfl⟩)
            | (go_at_call 36; with_reducible refine (C4 _).mono ?_; rintro e w1 ⟨rfl, rfl⟩)
            | (go_at_call 37; with_reducible refine CG.mono ?_; rintro e w2 ⟨rfl, hb⟩
               have q5 := keep_cell hb g5
               have q6 := keep_cell hb g6
               have b2 := keep_below b0 hb
               have CM := validMarks_any vm 0 ((n : Int) - 1) M w2 (hM.keep b2)
               clear CG)
            | (go_at_call 38; with_reducible refine CM.mono ?_; rintro e w3 ⟨rfl, hb'⟩
               have b3 := keep_below b2 hb'))
    go_ret
    exact ⟨by simp, b0⟩
  · have _t0 := True.intro
    cases p1
    · go_enter Try.func11, Try.ntmps11
      go_wp2_with (first
            | (go_at_call 36; with_reducible refine (C0 _).mono ?_; rintro e w1 ⟨rfl, rfl⟩)
            | (go_at_call 36; with_reducible refine (C1 _).mono ?_; rintro e w1 ⟨rfl, rfl⟩)
            | (go_at_call 36; with_reducible refine (C2 _).mono ?_; rintro e w1 ⟨rfl, rfl⟩)
            | (go_at_call 36; with_reducible refine (C3 _).mono ?_; rintro e w1 ⟨rfl, rfl⟩)
            | (go_at_call 36; with_reducible refine (C4 _).mono ?_; rintro e w1 ⟨rfl, rfl⟩)
            | (go_at_call 37; with_reducible refine CG.mono ?_; rintro e w2 ⟨rfl, hb⟩
               have q5 := keep_cell hb g5
               have q6 := keep_cell hb g6
               have b2 := keep_below b0 hb
               have CM := validMarks_any vm 0 ((n : Int) - 1) M w2 (hM.keep b2)
               clear CG)
            | (go_at_call 38; with_reducible refine CM.mono ?_; rintro e w3 ⟨rfl, hb'⟩
               have b3 := keep_below b2 hb'))
      go_ret
      exact ⟨by simp, b0⟩
    · have _t1 := True.intro
      cases p2
      · go_enter Try.func11, Try.ntmps11
        go_wp2_with (first
            | (go_at_call 36; with_reducible refine (C0 _).mono ?_; rintro e w1 ⟨rfl, rfl⟩)
            | (go_at_call 36; with_reducible refine (C1 _).mono ?_; rintro e w1 ⟨rfl, rfl⟩)
            | (go_at_call 36; with_reducible refine (C2 _).mono ?_; rintro e w1 ⟨rfl, rfl⟩)
            | (go_at_call 36; with_reducible refine (C3 _).mono ?_; rintro e w1 ⟨rfl, rfl⟩)
            | (go_at_call 36; with_reducible refine (C4 _).mono ?_; rintro e w1 ⟨rfl, rfl⟩)
            | (go_at_call 37; with_reducible refine CG.mono ?_; rintro e w2 ⟨rfl, hb⟩
               have q5 := keep_cell hb g5
               have q6 := keep_cell hb g6
               have b2 := keep_below b0 hb
               have CM := validMarks_any vm 0 ((n : Int) - 1) M w2 (hM.keep b2)
               clear CG)
            | (go_at_call 38; with_reducible refine CM.mono ?_; rintro e w3 ⟨rfl, hb'⟩
               have b3 := keep_below b2 hb'))
        go_ret
        exact ⟨by simp, b0⟩
      · have _t2 := True.intro
        cases p3
        · go_enter Try.func11, Try.ntmps11
          go_wp2_with (first
            | (go_at_call 36; with_reducible refine (C0 _).mono ?_; rintro e w1 ⟨rfl, rfl⟩)
            | (go_at_call 36; with_reducible refine (C1 _).mono ?_; rintro e w1 ⟨rfl, rfl⟩)
            | (go_at_call 36; with_reducible refine (C2 _).mono ?_; rintro e w1 ⟨rfl, rfl⟩)
            | (go_at_call 36; with_reducible refine (C3 _).mono ?_; rintro e w1 ⟨rfl, rfl⟩)
            | (go_at_call 36; with_reducible refine (C4 _).mono ?_; rintro e w1 ⟨rfl, rfl⟩)
            | (go_at_call 37; with_reducible refine CG.mono ?_; rintro e w2 ⟨rfl, hb⟩
               have q5 := keep_cell hb g5
               have q6 := keep_cell hb g6
               have b2 := keep_below b0 hb
               have CM := validMarks_any vm 0 ((n : Int) - 1) M w2 (hM.keep b2)
               clear CG)
            | (go_at_call 38; with_reducible refine CM.mono ?_; rintro e w3 ⟨rfl, hb'⟩
               have b3 := keep_below b2 hb'))
          go_ret
          exact ⟨by simp, b0⟩
        · have _t3 := True.intro
          cases p4
          · go_enter Try.func11, Try.ntmps11
            go_wp2_with (first
            | (go_at_call 36; with_reducible refine (C0 _).mono ?_; rintro e w1 ⟨rfl, rfl⟩)
            | (go_at_call 36; with_reducible refine (C1 _).mono ?_; rintro e w1 ⟨rfl, rfl⟩)
            | (go_at_call 36; with_reducible refine (C2 _).mono ?_; rintro e w1 ⟨rfl, rfl⟩)
            | (go_at_call 36; with_reducible refine (C3 _).mono ?_; rintro e w1 ⟨rfl, rfl⟩)
            | (go_at_call 36; with_reducible refine (C4 _).mono ?_; rintro e w1 ⟨rfl, rfl⟩)
            | (go_at_call 37; with_reducible refine CG.mono ?_; rintro e w2 ⟨rfl, hb⟩
               have q5 := keep_cell hb g5
               have q6 := keep_cell hb g6
               have b2 := keep_below b0 hb
               have CM := validMarks_any vm 0 ((n : Int) - 1) M w2 (hM.keep b2)
               clear CG)
            | (go_at_call 38; with_reducible refine CM.mono ?_; rintro e w3 ⟨rfl, hb'⟩
               have b3 := keep_below b2 hb'))
            go_ret
            exact ⟨by simp, b0⟩
          · have _t4 := True.intro
            cases pg
            · go_enter Try.func11, Try.ntmps11
              go_wp2_with (first
            | (go_at_call 36; with_reducible refine (C0 _).mono ?_; rintro e w1 ⟨rfl, rfl⟩)
            | (go_at_call 36; with_reducible refine (C1 _).mono ?_; rintro e w1 ⟨rfl, rfl⟩)
            | (go_at_call 36; with_reducible refine (C2 _).mono ?_; rintro e w1 ⟨rfl, rfl⟩)
            | (go_at_call 36; with_reducible refine (C3 _).mono ?_; rintro e w1 ⟨rfl, rfl⟩)
            | (go_at_call 36; with_reducible refine (C4 _).mono ?_; rintro e w1 ⟨rfl, rfl⟩)
            | (go_at_call 37; with_reducible refine CG.mono ?_; rintro e w2 ⟨rfl, hb⟩
               have q5 := keep_cell hb g5
               have q6 := keep_cell hb g6
               have b2 := keep_below b0 hb
               have CM := validMarks_any vm 0 ((n : Int) - 1) M w2 (hM.keep b2)
               clear CG)
            | (go_at_call 38; with_reducible refine CM.mono ?_; rintro e w3 ⟨rfl, hb'⟩
               have b3 := keep_below b2 hb'))
              go_ret
              exact ⟨by simp, b2⟩
            · go_enter Try.func11, Try.ntmps11
              go_wp2_with (first
            | (go_at_call 36; with_reducible refine (C0 _).mono ?_; rintro e w1 ⟨rfl, rfl⟩)
            | (go_at_call 36; with_reducible refine (C1 _).mono ?_; rintro e w1 ⟨rfl, rfl⟩)
            | (go_at_call 36; with_reducible refine (C2 _).mono ?_; rintro e w1 ⟨rfl, rfl⟩)
            | (go_at_call 36; with_reducible refine (C3 _).mono ?_; rintro e w1 ⟨rfl, rfl⟩)
            | (go_at_call 36; with_reducible refine (C4 _).mono ?_; rintro e w1 ⟨rfl, rfl⟩)
            | (go_at_call 37; with_reducible refine CG.mono ?_; rintro e w2 ⟨rfl, hb⟩
               have q5 := keep_cell hb g5
               have q6 := keep_cell hb g6
               have b2 := keep_below b0 hb
               have CM := validMarks_any vm 0 ((n : Int) - 1) M w2 (hM.keep b2)
               clear CG)
            | (go_at_call 38; with_reducible refine CM.mono ?_; rintro e w3 ⟨rfl, hb'⟩
               have b3 := keep_below b2 hb'))
              go_ret
              exact ⟨by simp, b3⟩

end Go.Proofs.Ytiebbbeijlfedaa
