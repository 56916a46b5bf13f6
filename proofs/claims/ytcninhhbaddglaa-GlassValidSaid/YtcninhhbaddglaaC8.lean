/- Walks: valid pieces, the program's. -/
import Derived.Test.YtcninhhbaddglaaC7
import Derived.Test.YtcninhhbaddglaaC3
namespace Go.Proofs.Ytcninhhbaddglaa
open Go Go.RowKit Go.Proofs

abbrev pcs (id c r m s : Int) (vg vm : Value) : Value := .agg #[.int .i64 id, .int .i64 c, .int .i64 r, .int .i64 m, .int .i64 s, vg, vm]
abbrev pcsObj (id c r m s : Int) (vg vm : Value) : Obj := .cells #[.int .i64 id, .int .i64 c, .int .i64 r, .int .i64 m, .int .i64 s, vg, vm] 25

def vP (id c r m s : Int) (G : List G5) (M : List M3) : Bool := wi id 1 65535 && wi c 1 16 && wi r 1 16 && wi m 0 9999 && wi s (-64) 64 && vGs G && vMs 0 (G.length - 1) M

theorem pcs_new (w : World) (id c r m s : Int) (vg vm : Value) : (w.alloc (pcsObj id c r m s vg vm)).heap[w.heap.size]? = some (.cells #[.int .i64 id, .int .i64 c, .int .i64 r, .int .i64 m, .int .i64 s, vg, vm] 25 (0, 0)) := alloc_heap_new _ _

set_option maxRecDepth 100000 in
set_option maxHeartbeats 4000000 in
theorem validPiece_any (id c r m s : Int) (vg vm : Value) (G : List G5) (M : List M3) (w : World) (hG : SlG w vg G) (hM : SlM w vm M) :
    Calls Try.prog 11 #[pcs id c r m s vg vm] w fun e w' => e = .returned (.bool (vP id c r m s G M)) ∧ Below w.heap.size w w' := by
  have b0 : Below w.heap.size w (w.alloc (pcsObj id c r m s vg vm)) := (Below.refl _ _).alloc (Nat.le_refl _) _
  have hp := pcs_new w id c r m s vg vm
  have g5 : (w.alloc (pcsObj id c r m s vg vm)).cell? ⟨w.heap.size, 5, none⟩ = some vg := cell_of hp rfl
  have g6 : (w.alloc (pcsObj id c r m s vg vm)).cell? ⟨w.heap.size, 6, none⟩ = some vm := cell_of hp rfl
  have CG := validGauges_any vg G _ (hG.keep b0)
  obtain ⟨ga, gcap, rfl, hgl, -⟩ := hG
  have e1 : IntKind.i64.wrap ((G.length : Int) - 1) = (G.length : Int) - 1 := wi64 _ (by omega)
  have C0 := fun w => within_any id 1 65535 w
  have C1 := fun w => within_any c 1 16 w
  have C2 := fun w => within_any r 1 16 w
  have C3 := fun w => within_any m 0 9999 w
  have C4 := fun w => within_any s (-64) 64 w
  unfold vP
  generalize wi id 1 65535 = p0 at C0 ⊢
  generalize wi c 1 16 = p1 at C1 ⊢
  generalize wi r 1 16 = p2 at C2 ⊢
  generalize wi m 0 9999 = p3 at C3 ⊢
  generalize wi s (-64) 64 = p4 at C4 ⊢
  generalize vGs G = pg at CG ⊢
  generalize G.length = n at e1 hgl CG b0 g5 g6 hp ⊢
  clear hp
  cases p0
  · go_enter Try.func11, Try.ntmps11
    go_wp2_with (first
            | (go_at_call 36; with_reducible refine (C0 _).mono ?_; rintro e w1 ⟨rfl, rfl⟩)
            | (go_at_call 36; with_reducible refine (C1 _).mono ?_; rintro e w1 ⟨rfl, rfl⟩)
            | (go_at_call 36; with_reducible refine (C2 _).mono ?_; rintro e w1 ⟨rfl, rfl⟩)
            | (go_at_call 36; with_reducible refine (C3 _).mono ?_; rintro e w1 ⟨rfl, rfl⟩)
            | (go_at_call 36; with_reducible refine (C4 _).mono ?_; rintro e w1 ⟨rfl, rfl⟩)
            | (go_at_call 37; with_reducible refine CG.mono ?_; rintro e w2 ⟨rfl, hb⟩
               have q5 := keep_cell hb g5
               have q6 := keep_cell hb g6
               have b2 := keep_below b0 hb
               have CM := validMarks_any vm 0 ((n : Int) - 1) M w2 (hM.keep b2)
               clear CG)
            | (go_at_call 38; with_reducible refine CM.mono ?_; rintro e w3 ⟨rfl, hb'⟩
               have b3 := keep_below b2 hb'))
    go_ret
    exact ⟨by simp, b0⟩
  · have _t0 := True.intro
    cases p1
    · go_enter Try.func11, Try.ntmps11
      go_wp2_with (first
            | (go_at_call 36; with_reducible refine (C0 _).mono ?_; rintro e w1 ⟨rfl, rfl⟩)
            | (go_at_call 36; with_reducible refine (C1 _).mono ?_; rintro e w1 ⟨rfl, rfl⟩)
            | (go_at_call 36; with_reducible refine (C2 _).mono ?_; rintro e w1 ⟨rfl, rfl⟩)
            | (go_at_call 36; with_reducible refine (C3 _).mono ?_; rintro e w1 ⟨rfl, rfl⟩)
            | (go_at_call 36; with_reducible refine (C4 _).mono ?_; rintro e w1 ⟨rfl, rfl⟩)
            | (go_at_call 37; with_reducible refine CG.mono ?_; rintro e w2 ⟨rfl, hb⟩
               have q5 := keep_cell hb g5
               have q6 := keep_cell hb g6
               have b2 := keep_below b0 hb
               have CM := validMarks_any vm 0 ((n : Int) - 1) M w2 (hM.keep b2)
               clear CG)
            | (go_at_call 38; with_reducible refine CM.mono ?_; rintro e w3 ⟨rfl, hb'⟩
               have b3 := keep_below b2 hb'))
      go_ret
      exact ⟨by simp, b0⟩
    · have _t1 := True.intro
      cases p2
      · go_enter Try.func11, Try.ntmps11
        go_wp2_with (first
            | (go_at_call 36; with_reducible refine (C0 _).mono ?_; rintro e w1 ⟨rfl, rfl⟩)
            | (go_at_call 36; with_reducible refine (C1 _).mono ?_; rintro e w1 ⟨rfl, rfl⟩)
            | (go_at_call 36; with_reducible refine (C2 _).mono ?_; rintro e w1 ⟨rfl, rfl⟩)
            | (go_at_call 36; with_reducible refine (C3 _).mono ?_; rintro e w1 ⟨rfl, rfl⟩)
            | (go_at_call 36; with_reducible refine (C4 _).mono ?_; rintro e w1 ⟨rfl, rfl⟩)
            | (go_at_call 37; with_reducible refine CG.mono ?_; rintro e w2 ⟨rfl, hb⟩
               have q5 := keep_cell hb g5
               have q6 := keep_cell hb g6
               have b2 := keep_below b0 hb
               have CM := validMarks_any vm 0 ((n : Int) - 1) M w2 (hM.keep b2)
               clear CG)
            | (go_at_call 38; with_reducible refine CM.mono ?_; rintro e w3 ⟨rfl, hb'⟩
               have b3 := keep_below b2 hb'))
        go_ret
        exact ⟨by simp, b0⟩
      · have _t2 := True.intro
        cases p3
        · go_enter Try.func11, Try.ntmps11
          go_wp2_with (first
            | (go_at_call 36; with_reducible refine (C0 _).mono ?_; rintro e w1 ⟨rfl, rfl⟩)
            | (go_at_call 36; with_reducible refine (C1 _).mono ?_; rintro e w1 ⟨rfl, rfl⟩)
            | (go_at_call 36; with_reducible refine (C2 _).mono ?_; rintro e w1 ⟨rfl, rfl⟩)
            | (go_at_call 36; with_reducible refine (C3 _).mono ?_; rintro e w1 ⟨rfl, rfl⟩)
            | (go_at_call 36; with_reducible refine (C4 _).mono ?_; rintro e w1 ⟨rfl, rfl⟩)
            | (go_at_call 37; with_reducible refine CG.mono ?_; rintro e w2 ⟨rfl, hb⟩
               have q5 := keep_cell hb g5
               have q6 := keep_cell hb g6
               have b2 := keep_below b0 hb
               have CM := validMarks_any vm 0 ((n : Int) - 1) M w2 (hM.keep b2)
               clear CG)
            | (go_at_call 38; with_reducible refine CM.mono ?_; rintro e w3 ⟨rfl, hb'⟩
               have b3 := keep_below b2 hb'))
          go_ret
          exact ⟨by simp, b0⟩
        · have _t3 := True.intro
          cases p4
          · go_enter Try.func11, Try.ntmps11
            go_wp2_with (first
            | (go_at_call 36; with_reducible refine (C0 _).mono ?_; rintro e w1 ⟨rfl, rfl⟩)
            | (go_at_call 36; with_reducible refine (C1 _).mono ?_; rintro e w1 ⟨rfl, rfl⟩)
            | (go_at_call 36; with_reducible refine (C2 _).mono ?_; rintro e w1 ⟨rfl, rfl⟩)
            | (go_at_call 36; with_reducible refine (C3 _).mono ?_; rintro e w1 ⟨rfl, rfl⟩)
            | (go_at_call 36; with_reducible refine (C4 _).mono ?_; rintro e w1 ⟨rfl, rfl⟩)
            | (go_at_call 37; with_reducible refine CG.mono ?_; rintro e w2 ⟨rfl, hb⟩
               have q5 := keep_cell hb g5
               have q6 := keep_cell hb g6
               have b2 := keep_below b0 hb
               have CM := validMarks_any vm 0 ((n : Int) - 1) M w2 (hM.keep b2)
               clear CG)
            | (go_at_call 38; with_reducible refine CM.mono ?_; rintro e w3 ⟨rfl, hb'⟩
               have b3 := keep_below b2 hb'))
            go_ret
            exact ⟨by simp, b0⟩
          · have _t4 := True.intro
            cases pg
            · go_enter Try.func11, Try.ntmps11
              go_wp2_with (first
            | (go_at_call 36; with_reducible refine (C0 _).mono ?_; rintro e w1 ⟨rfl, rfl⟩)
            | (go_at_call 36; with_reducible refine (C1 _).mono ?_; rintro e w1 ⟨rfl, rfl⟩)
            | (go_at_call 36; with_reducible refine (C2 _).mono ?_; rintro e w1 ⟨rfl, rfl⟩)
            | (go_at_call 36; with_reducible refine (C3 _).mono ?_; rintro e w1 ⟨rfl, rfl⟩)
            | (go_at_call 36; with_reducible refine (C4 _).mono ?_; rintro e w1 ⟨rfl, rfl⟩)
            | (go_at_call 37; with_reducible refine CG.mono ?_; rintro e w2 ⟨rfl, hb⟩
               have q5 := keep_cell hb g5
               have q6 := keep_cell hb g6
               have b2 := keep_below b0 hb
               have CM := validMarks_any vm 0 ((n : Int) - 1) M w2 (hM.keep b2)
               clear CG)
            | (go_at_call 38; with_reducible refine CM.mono ?_; rintro e w3 ⟨rfl, hb'⟩
               have b3 := keep_below b2 hb'))
              go_ret
              exact ⟨by simp, b2⟩
            · go_enter Try.func11, Try.ntmps11
              go_wp2_with (first
            | (go_at_call 36; with_reducible refine (C0 _).mono ?_; rintro e w1 ⟨rfl, rfl⟩)
            | (go_at_call 36; with_reducible refine (C1 _).mono ?_; rintro e w1 ⟨rfl, rfl⟩)
            | (go_at_call 36; with_reducible refine (C2 _).mono ?_; rintro e w1 ⟨rfl, rfl⟩)
            | (go_at_call 36; with_reducible refine (C3 _).mono ?_; rintro e w1 ⟨rfl, rfl⟩)
            | (go_at_call 36; with_reducible refine (C4 _).mono ?_; rintro e w1 ⟨rfl, rfl⟩)
            | (go_at_call 37; with_reducible refine CG.mono ?_; rintro e w2 ⟨rfl, hb⟩
               have q5 := keep_cell hb g5
               have q6 := keep_cell hb g6
               have b2 := keep_below b0 hb
               have CM := validMarks_any vm 0 ((n : Int) - 1) M w2 (hM.keep b2)
               clear CG)
            | (go_at_call 38; with_reducible refine CM.mono ?_; rintro e w3 ⟨rfl, hb'⟩
               have b3 := keep_below b2 hb'))
              go_ret
              exact ⟨by simp, b3⟩

end Go.Proofs.Ytcninhhbaddglaa
