/-
  BenchesZero: whatever the arguments, valid or not, the call returns true and writes nothing that was there. No condition.
-/
import Derived.Test.YtcgmmfcphfkdhaaGreatRows
import Derived.WalkKit
import Derived.ProofKit
import Derived.OpenShut
import Derived.ShutString
import Derived.ChangeOld
import Derived.Below
import Derived.Lib.SmallJoins
import Derived.Test.YtcgmmfcphfkdhaaGreatJZ
namespace Go.Proofs.YtcgmmfcphfkdhaaGreat.benchesZeroDone
open Go.ChangeShapes Go.WideShapes Go.ChangeAt Go.RowKit Go.Joins
open Go.Proofs.YtcgmmfcphfkdhaaGreat
set_option linter.unusedVariables false

theorem over : Rows.benchesZeroRow.holds Tryz.pinned (OpenSpec.ofChange Rows.benchesZeroSpec) :=
  OpenClaim.holds_of_wide 9 Tryz.f9 rfl rfl rfl rfl rfl rfl rfl ⟨rfl, rfl, rfl, rfl, rfl⟩ rfl rfl rfl rfl rfl (by kernel_rfl) Tryz.func9 closed
    (of_decide_eq_true (by kernel_rfl)) (by unfold Func.isWrapper; rw [if_neg (of_decide_eq_false (by kernel_rfl))]; exact ⟨rfl, rfl⟩)
    (fun os started H enc _ => lifted os started H enc)
end Go.Proofs.YtcgmmfcphfkdhaaGreat.benchesZeroDone

namespace Go.Proofs.YtcgmmfcphfkdhaaGreat
theorem benchesZero_holds : Rows.BenchesZeroSaid := benchesZeroDone.over
#print axioms benchesZero_holds
end Go.Proofs.YtcgmmfcphfkdhaaGreat
