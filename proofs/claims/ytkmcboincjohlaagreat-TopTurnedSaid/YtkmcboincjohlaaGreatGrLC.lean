/- The abstract machine, part GrLC. -/
import Derived.Test.YtkmcboincjohlaaGreatGrLA
import Derived.Test.YtkmcboincjohlaaGreatGrLB
/- Walks: gauges. -/
namespace Go.Proofs.YtkmcboincjohlaaGreat
open Go Go.RowKit Go.Proofs

abbrev gg (a b c d e : Int) : Value := .agg #[.int .i64 a, .int .i64 b, .int .i64 c, .int .i64 d, .int .i64 e]

def vG (a b c d e : Int) : Bool := decide (0 < a) && decide (a ≤ b) && decide (b ≤ 33554432) && decide (0 ≤ c) && decide (c ≤ d) && decide (d ≤ 33554432) && wi e (-1) 1

set_option maxRecDepth 100000 in
set_option maxHeartbeats 1000000 in
theorem validGauge_any (a b c d e : Int) (w : World) :
    Calls Tryz.prog 54 #[gg a b c d e] w fun x w' => x = .returned (.bool (vG a b c d e)) ∧ Below w.heap.size w w' := by
  have C := fun w => within_any e (-1) 1 w
  obtain ⟨v, hv⟩ : ∃ v, vG a b c d e = v := ⟨_, rfl⟩
  rw [hv]
  unfold vG at hv
  generalize wi e (-1) 1 = p at C hv
  have HV := Lib.hid hv
  clear hv
  go_enter Tryz.func54, Tryz.ntmps54
  go_wp2_with (go_at_call 23; with_reducible refine (C _).mono ?_; rintro e w1 ⟨rfl, rfl⟩)
  all_goals go_ret
  all_goals refine ⟨?_, (Below.refl _ _).alloc (Nat.le_refl _) _⟩
  all_goals rw [← HV.out]
  all_goals simp [*]
  all_goals (intros; omega)

set_option maxHeartbeats 1000000 in
theorem wrong64_any (a b c d e : Int) (w : World) :
    Calls Tryz.prog 53 #[gg a b c d e] w fun x w' => x = .returned (.bool (!vG a b c d e)) ∧ Below w.heap.size w w' := by
  have C := fun w => validGauge_any a b c d e w
  generalize vG a b c d e = c1 at C ⊢
  have b0 : Below w.heap.size w (w.alloc (.cells #[.int .i64 a, .int .i64 b, .int .i64 c, .int .i64 d, .int .i64 e] 82)) := (Below.refl _ _).alloc (Nat.le_refl _) _
  go_enter Tryz.func53, Tryz.ntmps53
  go_wp2_with fail
  refine (C _).mono ?_
  rintro e w1 ⟨rfl, hb⟩
  go_wp2
  go_ret
  exact ⟨rfl, keep_below b0 hb⟩

end Go.Proofs.YtkmcboincjohlaaGreat

/- Walks: lists of gauges. -/
namespace Go.Proofs.YtkmcboincjohlaaGreat
open Go Go.RowKit Go.Proofs

structure G5 where
  a : Int
  b : Int
  c : Int
  d : Int
  e : Int

def gz (G : List G5) (k : Nat) : G5 := G.getD k ⟨0, 0, 0, 0, 0⟩
def G5.ok (g : G5) : Bool := vG g.a g.b g.c g.d g.e

/-- The value is a slice, nil or not, that holds the gauges of G. -/
def SlG (w : World) (v : Value) (G : List G5) : Prop := ∃ a cap, v = .slice a G.length cap ∧ G.length ≤ 9223372036854775807 ∧
  ∀ k, k < G.length → ∃ b off, a = some ⟨b, off, none⟩ ∧ w.cell? ⟨b, off + k * 5, none⟩ = some (.int .i64 (gz G k).a) ∧ w.cell? ⟨b, off + k * 5 + 1, none⟩ = some (.int .i64 (gz G k).b) ∧ w.cell? ⟨b, off + k * 5 + 2, none⟩ = some (.int .i64 (gz G k).c) ∧
    w.cell? ⟨b, off + k * 5 + 3, none⟩ = some (.int .i64 (gz G k).d) ∧ w.cell? ⟨b, off + k * 5 + 4, none⟩ = some (.int .i64 (gz G k).e)

theorem SlG.keep {w w' : World} {v : Value} {G : List G5} (h : SlG w v G) (hb : Below w.heap.size w w') : SlG w' v G := by
  obtain ⟨a, cap, rfl, hl, hc⟩ := h
  refine ⟨a, cap, rfl, hl, fun k hk => ?_⟩
  obtain ⟨b, off, rfl, h0, h1, h2, h3, h4⟩ := hc k hk
  exact ⟨b, off, rfl, keep_cell hb h0, keep_cell hb h1, keep_cell hb h2, keep_cell hb h3, keep_cell hb h4⟩

def badG (G : List G5) : Bool := (List.range G.length).any fun k => !(gz G k).ok

theorem badG_true {G : List G5} (k : Nat) (hk : k < G.length) (h : (gz G k).ok = false) : badG G = true := by
  unfold badG
  rw [List.any_eq_true]
  exact ⟨k, List.mem_range.2 hk, by simp [h]⟩

theorem badG_false {G : List G5} (h : ∀ k, k < G.length → (gz G k).ok = true) : badG G = false := by
  unfold badG
  rw [List.any_eq_false]
  intro k hk
  simp [h k (List.mem_range.1 hk)]

set_option maxHeartbeats 2000000 in
theorem index100_any (v : Value) (G : List G5) (w : World) (h : SlG w v G) :
    Calls Tryz.prog 92 #[v, .func (.func 53) #[] #[]] w fun e w' => ∃ i : Int, decide (0 ≤ i) = badG G ∧ e = .returned (.int .i64 i) ∧ Below w.heap.size w w' := by
  obtain ⟨a, cap, rfl, hl, hc⟩ := h
  have HA := Lib.hid (badG_true (G := G))
  have HF := Lib.hid (badG_false (G := G))
  have HC := Lib.hid hc
  clear hc
  generalize badG G = r at HA HF ⊢
  obtain ⟨n, hn⟩ : ∃ n, G.length = n := ⟨_, rfl⟩
  rw [hn] at HA HF HC hl ⊢
  clear hn
  go_enter Tryz.func92, Tryz.ntmps92
  go_wp2_with fail
  go_loopw [8] (fun i wr => ∃ k : Nat, k ≤ n ∧ i = .int .i64 k ∧ Below w.heap.size w wr ∧ ∀ j, j < k → (gz G j).ok = true) (fun i _ => n - (intOf i).toNat)
  case atStart => exact ⟨0, Nat.zero_le _, rfl, Below.refl _ _, by simp⟩
  case round =>
    obtain ⟨k, hk, rfl, hb, hall⟩ := hrel
    have HL := Lib.hid hall
    clear hall
    by_cases hlt : k < n
    · have j1 : (k : Int) < (n : Int) := by omega
      obtain ⟨b, off, rfl, c0, c1, c2, c3, c4⟩ := HC.out k hlt
      have d0 := keep_cell hb c0
      have d1 := keep_cell hb c1
      have d2 := keep_cell hb c2
      have d3 := keep_cell hb c3
      have d4 := keep_cell hb c4
      have C := fun w => wrong64_any (gz G k).a (gz G k).b (gz G k).c (gz G k).d (gz G k).e w
      obtain ⟨bd, hbd⟩ : ∃ x, vG (gz G k).a (gz G k).b (gz G k).c (gz G k).d (gz G k).e = x := ⟨_, rfl⟩
      simp only [hbd] at C
      have HB : Hid ((gz G k).ok = bd) := hbd
      clear hbd c0 c1 c2 c3 c4
      generalize (gz G k).a = x0 at d0 C
      generalize (gz G k).b = x1 at d1 C
      generalize (gz G k).c = x2 at d2 C
      generalize (gz G k).d = x3 at d3 C
      generalize (gz G k).e = x4 at d4 C
      go_wp2_with fail
      refine (C _).mono ?_
      rintro e w1 ⟨rfl, hb1⟩
      have hb2 := keep_below hb hb1
      clear C d0 d1 d2 d3 d4 hb hb1
      cases bd
      · go_wp2
        go_ret
        exact ⟨(k : Nat), by rw [HA.out k hlt HB.out]; simp, rfl, hb2⟩
      · go_wp2
        refine ⟨⟨k + 1, by omega, by simp, hb2, fun j hj => ?_⟩, by simp [intOf]; omega⟩
        rcases Nat.lt_or_ge j k with h | h
        · exact HL.out j h
        · obtain rfl : j = k := by omega
          exact HB.out
    · obtain rfl : k = n := by omega
      go_wp2
      go_ret
      exact ⟨-1, by rw [HF.out (fun j hj => HL.out j hj)]; rfl, rfl, hb⟩

set_option maxHeartbeats 400000 in
theorem contains66_any (v : Value) (G : List G5) (w : World) (h : SlG w v G) :
    Calls Tryz.prog 55 #[v, .func (.func 53) #[] #[]] w fun e w' => e = .returned (.bool (badG G)) ∧ Below w.heap.size w w' := by
  have C := index100_any v G w h
  generalize badG G = r at C ⊢
  go_enter Tryz.func55, Tryz.ntmps55
  go_wp2_with fail
  refine C.mono ?_
  rintro e w1 ⟨i, hi, rfl, hb⟩
  clear C
  subst hi
  go_wp2
  go_ret
  exact ⟨rfl, hb⟩

def vGs (G : List G5) : Bool := wi G.length 3 24 && !badG G

set_option maxHeartbeats 400000 in
theorem validGauges_any (v : Value) (G : List G5) (w : World) (h : SlG w v G) :
    Calls Tryz.prog 22 #[v] w fun e w' => e = .returned (.bool (vGs G)) ∧ Below w.heap.size w w' := by
  have C1 := within_any G.length 3 24 w
  have C2 := contains66_any v G w h
  obtain ⟨a, cap, rfl, hl, -⟩ := h
  unfold vGs
  generalize badG G = r at C2 ⊢
  generalize wi G.length 3 24 = p at C1 ⊢
  generalize G.length = n at C1 C2 hl ⊢
  cases p
  · go_enter Tryz.func22, Tryz.ntmps22
    go_wp2_with (go_at_call 23; with_reducible refine C1.mono ?_; rintro e w1 ⟨rfl, rfl⟩)
    go_ret
    exact ⟨rfl, Below.refl _ _⟩
  · go_enter Tryz.func22, Tryz.ntmps22
    go_wp2_with (first
      | (go_at_call 23; with_reducible refine C1.mono ?_; rintro e w1 ⟨rfl, rfl⟩)
      | (go_at_call 55; with_reducible refine C2.mono ?_; rintro e w2 ⟨rfl, hb⟩))
    go_ret
    exact ⟨by simp, hb⟩

end Go.Proofs.YtkmcboincjohlaaGreat

/- Walks: the reference's lists of gauges. -/
namespace Go.Proofs.YtkmcboincjohlaaGreat
open Go Go.RowKit Go.Proofs

end Go.Proofs.YtkmcboincjohlaaGreat

/- Walks: valid pieces, the program's. -/
namespace Go.Proofs.YtkmcboincjohlaaGreat
open Go Go.RowKit Go.Proofs

abbrev pcs (id c r m s : Int) (vg vm : Value) : Value := .agg #[.int .i64 id, .int .i64 c, .int .i64 r, .int .i64 m, .int .i64 s, vg, vm]
abbrev pcsObj (id c r m s : Int) (vg vm : Value) : Obj := .cells #[.int .i64 id, .int .i64 c, .int .i64 r, .int .i64 m, .int .i64 s, vg, vm] 40

def vP (id c r m s : Int) (G : List G5) (M : List M3) : Bool := wi id 1 65535 && wi c 1 16 && wi r 1 16 && wi m 0 9999 && wi s (-64) 64 && vGs G && vMs 0 (G.length - 1) M

theorem pcs_new (w : World) (id c r m s : Int) (vg vm : Value) : (w.alloc (pcsObj id c r m s vg vm)).heap[w.heap.size]? = some (.cells #[.int .i64 id, .int .i64 c, .int .i64 r, .int .i64 m, .int .i64 s, vg, vm] 40 (0, 0)) := alloc_heap_new _ _

set_option maxRecDepth 100000 in
set_option maxHeartbeats 4000000 in
theorem validPiece_any (id c r m s : Int) (vg vm : Value) (G : List G5) (M : List M3) (w : World) (hG : SlG w vg G) (hM : SlM w vm M) :
    Calls Tryz.prog 26 #[pcs id c r m s vg vm] w fun e w' => e = .returned (.bool (vP id c r m s G M)) ∧ Below w.heap.size w w' := by
  have b0 : Below w.heap.size w (w.alloc (pcsObj id c r m s vg vm)) := (Below.refl _ _).alloc (Nat.le_refl _) _
  have hp := pcs_new w id c r m s vg vm
  have g5 : (w.alloc (pcsObj id c r m s vg vm)).cell? ⟨w.heap.size, 5, none⟩ = some vg := cell_of hp rfl
  have g6 : (w.alloc (pcsObj id c r m s vg vm)).cell? ⟨w.heap.size, 6, none⟩ = some vm := cell_of hp rfl
  have CG := validGauges_any vg G _ (hG.keep b0)
  obtain ⟨ga, gcap, rfl, hgl, -⟩ := hG
  have e1 : IntKind.i64.wrap ((G.length : Int) - 1) = (G.length : Int) - 1 := wi64 _ (by omega)
  have C0 := fun w => within_any id 1 65535 w
  have C1 := fun w => within_any c 1 16 w
  have C2 := fun w => within_any r 1 16 w
  have C3 := fun w => within_any m 0 9999 w
  have C4 := fun w => within_any s (-64) 64 w
  unfold vP
  generalize wi id 1 65535 = p0 at C0 ⊢
  generalize wi c 1 16 = p1 at C1 ⊢
  generalize wi r 1 16 = p2 at C2 ⊢
  generalize wi m 0 9999 = p3 at C3 ⊢
  generalize wi s (-64) 64 = p4 at C4 ⊢
  generalize vGs G = pg at CG ⊢
  generalize G.length = n at e1 hgl CG b0 g5 g6 hp ⊢
  clear hp
  cases p0
  · go_enter Tryz.func26, Tryz.ntmps26
    go_wp2_with (first
            | (go_at_call 23; with_reducible refine (C0 _).mono ?_; rintro e w1 ⟨rfl, rfl⟩)
            | (go_at_call 23; with_reducible refine (C1 _).mono ?_; rintro e w1 ⟨rfl, rfl⟩)
            | (go_at_call 23; with_reducible refine (C2 _).mono ?_; rintro e w1 ⟨rfl, rfl⟩)
            | (go_at_call 23; with_reducible refine (C3 _).mono ?_; rintro e w1 ⟨rfl, rfl⟩)
            | (go_at_call 23; with_reducible refine (C4 _).mono ?_; rintro e w1 ⟨rfl, rfl⟩)
            | (go_at_call 22; with_reducible refine CG.mono ?_; rintro e w2 ⟨rfl, hb⟩
               have q5 := keep_cell hb g5
               have q6 := keep_cell hb g6
               have b2 := keep_below b0 hb
               have CM := validMarks_any vm 0 ((n : Int) - 1) M w2 (hM.keep b2)
               clear CG)
            | (go_at_call 56; with_reducible refine CM.mono ?_; rintro e w3 ⟨rfl, hb'⟩
               have b3 := keep_below b2 hb'))
    go_ret
    exact ⟨by simp, b0⟩
  · have _t0 := True.intro
    cases p1
    · go_enter Tryz.func26, Tryz.ntmps26
      go_wp2_with (first
            | (go_at_call 23; with_reducible refine (C0 _).mono ?_; rintro e w1 ⟨rfl, rfl⟩)
            | (go_at_call 23; with_reducible refine (C1 _).mono ?_; rintro e w1 ⟨rfl, rfl⟩)
            | (go_at_call 23; with_reducible refine (C2 _).mono ?_; rintro e w1 ⟨rfl, rfl⟩)
            | (go_at_call 23; with_reducible refine (C3 _).mono ?_; rintro e w1 ⟨rfl, rfl⟩)
            | (go_at_call 23; with_reducible refine (C4 _).mono ?_; rintro e w1 ⟨rfl, rfl⟩)
            | (go_at_call 22; with_reducible refine CG.mono ?_; rintro e w2 ⟨rfl, hb⟩
               have q5 := keep_cell hb g5
               have q6 := keep_cell hb g6
               have b2 := keep_below b0 hb
               have CM := validMarks_any vm 0 ((n : Int) - 1) M w2 (hM.keep b2)
               clear CG)
            | (go_at_call 56; with_reducible refine CM.mono ?_; rintro e w3 ⟨rfl, hb'⟩
               have b3 := keep_below b2 hb'))
      go_ret
      exact ⟨by simp, b0⟩
    · have _t1 := True.intro
      cases p2
      · go_enter Tryz.func26, Tryz.ntmps26
        go_wp2_with (first
            | (go_at_call 23; with_reducible refine (C0 _).mono ?_; rintro e w1 ⟨rfl, rfl⟩)
            | (go_at_call 23; with_reducible refine (C1 _).mono ?_; rintro e w1 ⟨rfl, rfl⟩)
            | (go_at_call 23; with_reducible refine (C2 _).mono ?_; rintro e w1 ⟨rfl, rfl⟩)
            | (go_at_call 23; with_reducible refine (C3 _).mono ?_; rintro e w1 ⟨rfl, rfl⟩)
            | (go_at_call 23; with_reducible refine (C4 _).mono ?_; rintro e w1 ⟨rfl, rfl⟩)
            | (go_at_call 22; with_reducible refine CG.mono ?_; rintro e w2 ⟨rfl, hb⟩
               have q5 := keep_cell hb g5
               have q6 := keep_cell hb g6
               have b2 := keep_below b0 hb
               have CM := validMarks_any vm 0 ((n : Int) - 1) M w2 (hM.keep b2)
               clear CG)
            | (go_at_call 56; with_reducible refine CM.mono ?_; rintro e w3 ⟨rfl, hb'⟩
               have b3 := keep_below b2 hb'))
        go_ret
        exact ⟨by simp, b0⟩
      · have _t2 := True.intro
        cases p3
        · go_enter Tryz.func26, Tryz.ntmps26
          go_wp2_with (first
            | (go_at_call 23; with_reducible refine (C0 _).mono ?_; rintro e w1 ⟨rfl, rfl⟩)
            | (go_at_call 23; with_reducible refine (C1 _).mono ?_; rintro e w1 ⟨rfl, rfl⟩)
            | (go_at_call 23; with_reducible refine (C2 _).mono ?_; rintro e w1 ⟨rfl, rfl⟩)
            | (go_at_call 23; with_reducible refine (C3 _).mono ?_; rintro e w1 ⟨rfl, rfl⟩)
            | (go_at_call 23; with_reducible refine (C4 _).mono ?_; rintro e w1 ⟨rfl, rfl⟩)
            | (go_at_call 22; with_reducible refine CG.mono ?_; rintro e w2 ⟨rfl, hb⟩
               have q5 := keep_cell hb g5
               have q6 := keep_cell hb g6
               have b2 := keep_below b0 hb
               have CM := validMarks_any vm 0 ((n : Int) - 1) M w2 (hM.keep b2)
               clear CG)
            | (go_at_call 56; with_reducible refine CM.mono ?_; rintro e w3 ⟨rfl, hb'⟩
               have b3 := keep_below b2 hb'))
          go_ret
          exact ⟨by simp, b0⟩
        · have _t3 := True.intro
          cases p4
          · go_enter Tryz.func26, Tryz.ntmps26
            go_wp2_with (first
            | (go_at_call 23; with_reducible refine (C0 _).mono ?_; rintro e w1 ⟨rfl, rfl⟩)
            | (go_at_call 23; with_reducible refine (C1 _).mono ?_; rintro e w1 ⟨rfl, rfl⟩)
            | (go_at_call 23; with_reducible refine (C2 _).mono ?_; rintro e w1 ⟨rfl, rfl⟩)
            | (go_at_call 23; with_reducible refine (C3 _).mono ?_; rintro e w1 ⟨rfl, rfl⟩)
            | (go_at_call 23; with_reducible refine (C4 _).mono ?_; rintro e w1 ⟨rfl, rfl⟩)
            | (go_at_call 22; with_reducible refine CG.mono ?_; rintro e w2 ⟨rfl, hb⟩
               have q5 := keep_cell hb g5
               have q6 := keep_cell hb g6
               have b2 := keep_below b0 hb
               have CM := validMarks_any vm 0 ((n : Int) - 1) M w2 (hM.keep b2)
               clear CG)
            | (go_at_call 56; with_reducible refine CM.mono ?_; rintro e w3 ⟨rfl, hb'⟩
               have b3 := keep_below b2 hb'))
            go_ret
            exact ⟨by simp, b0⟩
          · have _t4 := True.intro
            cases pg
            · go_enter Tryz.func26, Tryz.ntmps26
              go_wp2_with (first
            | (go_at_call 23; with_reducible refine (C0 _).mono ?_; rintro e w1 ⟨rfl, rfl⟩)
            | (go_at_call 23; with_reducible refine (C1 _).mono ?_; rintro e w1 ⟨rfl, rfl⟩)
            | (go_at_call 23; with_reducible refine (C2 _).mono ?_; rintro e w1 ⟨rfl, rfl⟩)
            | (go_at_call 23; with_reducible refine (C3 _).mono ?_; rintro e w1 ⟨rfl, rfl⟩)
            | (go_at_call 23; with_reducible refine (C4 _).mono ?_; rintro e w1 ⟨rfl, rfl⟩)
            | (go_at_call 22; with_reducible refine CG.mono ?_; rintro e w2 ⟨rfl, hb⟩
               have q5 := keep_cell hb g5
               have q6 := keep_cell hb g6
               have b2 := keep_below b0 hb
               have CM := validMarks_any vm 0 ((n : Int) - 1) M w2 (hM.keep b2)
               clear CG)
            | (go_at_call 56; with_reducible refine CM.mono ?_; rintro e w3 ⟨rfl, hb'⟩
               have b3 := keep_below b2 hb'))
              go_ret
              exact ⟨by simp, b2⟩
            · go_enter Tryz.func26, Tryz.ntmps26
              go_wp2_with (first
            | (go_at_call 23; with_reducible refine (C0 _).mono ?_; rintro e w1 ⟨rfl, rfl⟩)
            | (go_at_call 23; with_reducible refine (C1 _).mono ?_; rintro e w1 ⟨rfl, rfl⟩)
            | (go_at_call 23; with_reducible refine (C2 _).mono ?_; rintro e w1 ⟨rfl, rfl⟩)
            | (go_at_call 23; with_reducible refine (C3 _).mono ?_; rintro e w1 ⟨rfl, rfl⟩)
            | (go_at_call 23; with_reducible refine (C4 _).mono ?_; rintro e w1 ⟨rfl, rfl⟩)
            | (go_at_call 22; with_reducible refine CG.mono ?_; rintro e w2 ⟨rfl, hb⟩
               have q5 := keep_cell hb g5
               have q6 := keep_cell hb g6
               have b2 := keep_below b0 hb
               have CM := validMarks_any vm 0 ((n : Int) - 1) M w2 (hM.keep b2)
               clear CG)
            | (go_at_call 56; with_reducible refine CM.mono ?_; rintro e w3 ⟨rfl, hb'⟩
               have b3 := keep_below b2 hb'))
              go_ret
              exact ⟨by simp, b3⟩

end Go.Proofs.YtkmcboincjohlaaGreat
