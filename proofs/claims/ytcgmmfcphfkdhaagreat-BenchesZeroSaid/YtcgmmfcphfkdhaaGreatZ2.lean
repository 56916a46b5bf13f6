/- The empty note is the empty note. -/
import Derived.Test.YtcgmmfcphfkdhaaGreatEA
import Derived.Test.YtcgmmfcphfkdhaaGreatZ0
namespace Go.Proofs.YtcgmmfcphfkdhaaGreat
open Go Go.RowKit Go.Proofs Go.Abs
def eN : Reader := ⟨23, [zN, zN], [], .bool true, []⟩
set_option maxRecDepth 100000 in
theorem eN_ok : eN.Ok Tryz.prog := Reader.okC (n := 400) (k := eN) pok (tabC_sound ok_nil) [] (by kernel_rfl) (by kernel_rfl) (by kernel_rfl)

theorem same23 (w : World) : Calls Tryz.prog 23 #[zN, zN] w fun e w' => e = .returned (.bool true) ∧ Below w.heap.size w w' := by
  obtain ⟨_, _, _, h2⟩ := eN_ok
  have hw : WRel Tryz.prog w.heap.size [] [] w := ⟨rfl, fun b t o hb => by simp at hb, fun b b' t t' o o' _ hb => by simp at hb, Nat.le_refl _⟩
  have hz : VRel [] zN zN := closed_rel [] 4 _ (by kernel_rfl)
  refine Calls.mono (h2 [] w #[zN, zN] hw ⟨rfl, fun i => ?_⟩) ?_
  · match i with
    | 0 => exact hz
    | 1 => exact hz
    | _ + 2 => simp; exact VRel.undef _
  rintro e w1 ⟨v', ρ1, rfl, _, _, hb, hr⟩
  exact ⟨by rw [closed_eq 4 (by kernel_rfl) hr]; rfl, hb⟩
end Go.Proofs.YtcgmmfcphfkdhaaGreat
