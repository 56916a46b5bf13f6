/- The law TopTurned, whole: its head by known calls. -/
import Derived.Test.YtkmcboincjohlaaGreatGrHd
import Derived.Test.YtkmcboincjohlaaGreatGrTU
import Derived.Test.YtkmcboincjohlaaGreatEG
namespace Go.Proofs.YtkmcboincjohlaaGreat
open Go Go.RowKit Go.Proofs Go.Abs

theorem headAW (W : World) : Calls Tryz.prog 5 #[] W fun e w' => e = .returned (.bool true) ∧ Below W.heap.size W w' := by
  refine head_of (k1 := e79) (k2 := e78) e79_ok e78_ok rfl rfl rfl rfl rfl (by kernel_rfl) (bP := 2) (oP := 0) (cP := 4611686018427387906) (b0 := 3) (o0 := 0) (b1 := 9) (o1 := 0) rfl rfl rfl rfl rfl rfl ?_ ?_ W
  · intro k hk
    match k, hk with
    | 0, _ => exact ⟨rfl, rfl⟩
    | 1, _ => exact ⟨rfl, rfl⟩
    | 2, _ => exact ⟨rfl, rfl⟩
    | 3, _ => exact ⟨rfl, rfl⟩
  · intro k hk
    match k, hk with
    | 0, _ => exact ⟨rfl, rfl⟩
    | 1, _ => exact ⟨rfl, rfl⟩
    | 2, _ => exact ⟨rfl, rfl⟩
    | 3, _ => exact ⟨rfl, rfl⟩

theorem turnedLaw_any (id c r m s : Int) (vg vm pv : Value) (G : List G5) (M : List M3) (L : List (Int × Int)) (w : World) (hG : SlG w vg G) (hM : SlM w vm M) (hL : SlV w pv L) :
    Calls Tryz.prog 4 #[pcs id c r m s vg vm, pv] w fun e w' => e = .returned (.bool true) ∧ Below w.heap.size w w' :=
  turnedLaw_if headAW id c r m s vg vm pv G M L w hG hM hL

end Go.Proofs.YtkmcboincjohlaaGreat
