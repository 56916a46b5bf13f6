/- The abstract machine, part GrLD. -/
import Derived.Test.YtkmcboincjohlaaGreatGrLC
import Derived.Test.YtkmcboincjohlaaGreatGrLA
/- Walks: valid pieces, the reference's; few. -/
namespace Go.Proofs.YtkmcboincjohlaaGreat
open Go Go.RowKit Go.Proofs

end Go.Proofs.YtkmcboincjohlaaGreat

/- Walks: nearest. -/
namespace Go.Proofs.YtkmcboincjohlaaGreat
open Go Go.RowKit Go.Proofs

theorem nearest_any (lo hi n : Int) (w : World) :
    Calls Tryz.prog 96 #[spn lo hi, .int .i64 n] w fun e w' => e = .returned (.int .i64 (min (max lo n) hi)) ∧ Below w.heap.size w w' := by
  go_enter Tryz.func96, Tryz.ntmps96
  go_wp2
  all_goals go_ret
  all_goals exact ⟨ret_intG (by split at * <;> omega), (Below.refl _ _).alloc (Nat.le_refl _) _⟩

theorem checkSet_any (id c r m s : Int) (vg vm : Value) (G : List G5) (M : List M3) (sh : Int) (b : Bool) (w : World) (hG : SlG w vg G) (hM : SlM w vm M) :
    Calls Tryz.prog 30 #[pcs id c r m s vg vm, st sh b] w fun e w' => e = .returned (.int .i64 (if vP id c r m s G M = true then (if vset sh G.length = true then 0 else 1) else 30)) ∧ Below w.heap.size w w' := by
  have b0 : Below w.heap.size w ((w.alloc (pcsObj id c r m s vg vm)).alloc (stObj sh b)) := ((Below.refl _ _).alloc (Nat.le_refl _) _).alloc (by simp) _
  have hp : ((w.alloc (pcsObj id c r m s vg vm)).alloc (stObj sh b)).heap[w.heap.size]? = some (pcsObj id c r m s vg vm) := alloc_heap_old _ _ (by simp) |>.trans (pcs_new w id c r m s vg vm)
  have g5 : ((w.alloc (pcsObj id c r m s vg vm)).alloc (stObj sh b)).cell? ⟨w.heap.size, 5, none⟩ = some vg := cell_of hp rfl
  have hq : ((w.alloc (pcsObj id c r m s vg vm)).alloc (stObj sh b)).heap[w.heap.size + 1]? = some (stObj sh b) := by
    have := alloc_heap_new (w.alloc (pcsObj id c r m s vg vm)) (stObj sh b); rwa [World.size_alloc] at this
  have s0 : ((w.alloc (pcsObj id c r m s vg vm)).alloc (stObj sh b)).cell? ⟨w.heap.size + 1, 0, none⟩ = some (.int .i64 sh) := cell_of hq rfl
  have s1 : ((w.alloc (pcsObj id c r m s vg vm)).alloc (stObj sh b)).cell? ⟨w.heap.size + 1, 1, none⟩ = some (.bool b) := cell_of hq rfl
  have CP := validPiece_any id c r m s vg vm G M _ (hG.keep b0) (hM.keep b0)
  obtain ⟨ga, gcap, rfl, hgl, -⟩ := hG
  have CS := fun w => validSetting_any sh G.length b w
  generalize vP id c r m s G M = p at CP ⊢
  generalize vset sh G.length = q at CS ⊢
  generalize G.length = n at CP CS hgl b0 g5 s0 s1 hp ⊢
  clear hp hq
  cases p
  · go_enter Tryz.func30, Tryz.ntmps30
    go_wp2_with (first
      | (go_at_call 26; with_reducible refine CP.mono ?_; rintro e w1 ⟨rfl, hb⟩
         have b1 := keep_below b0 hb)
      | (go_at_call 64; with_reducible refine (CS _).mono ?_; rintro e w2 ⟨rfl, hb⟩))
    go_ret
    exact ⟨rfl, b1⟩
  · cases q
    · go_enter Tryz.func30, Tryz.ntmps30
      go_wp2_with (first
        | (go_at_call 26; with_reducible refine CP.mono ?_; rintro e w1 ⟨rfl, hb⟩
           have b1 := keep_below b0 hb
           have q5 := keep_cell hb g5
           have q0 := keep_cell hb s0
           have q1 := keep_cell hb s1
           clear b0)
        | (go_at_call 64; with_reducible refine (CS _).mono ?_; rintro e w2 ⟨rfl, hb⟩
           have b2 := keep_below b1 hb))
      go_ret
      exact ⟨rfl, b2⟩
    · go_enter Tryz.func30, Tryz.ntmps30
      go_wp2_with (first
        | (go_at_call 26; with_reducible refine CP.mono ?_; rintro e w1 ⟨rfl, hb⟩
           have b1 := keep_below b0 hb
           have q5 := keep_cell hb g5
           have q0 := keep_cell hb s0
           have q1 := keep_cell hb s1
           clear b0)
        | (go_at_call 64; with_reducible refine (CS _).mono ?_; rintro e w2 ⟨rfl, hb⟩
           have b2 := keep_below b1 hb))
      go_ret
      exact ⟨rfl, b2⟩

end Go.Proofs.YtkmcboincjohlaaGreat
