/-
  BenchesUnion: whatever the arguments, valid or not, the call returns true and writes nothing that was there. No condition.
-/
import Derived.Test.YtcgmmfcphfkdhaaGreatRows
import Derived.WalkKit
import Derived.ProofKit
import Derived.OpenShut
import Derived.ShutString
import Derived.ChangeOld
import Derived.Below
import Derived.Lib.SmallJoins
import Derived.Test.YtcgmmfcphfkdhaaGreatJUnion
namespace Go.Proofs.YtcgmmfcphfkdhaaGreat.benchesUnionDone
open Go.ChangeShapes Go.WideShapes Go.ChangeAt Go.RowKit Go.Joins
open Go.Proofs.YtcgmmfcphfkdhaaGreat
set_option linter.unusedVariables false


theorem over : Rows.benchesUnionRow.holds Tryz.pinned (OpenSpec.ofChange Rows.benchesUnionSpec) :=
  OpenClaim.holds_of_wide 7 Tryz.f7 rfl rfl rfl rfl rfl rfl rfl ⟨rfl, rfl, rfl, rfl, rfl⟩ rfl rfl rfl rfl rfl (by kernel_rfl) Tryz.func7 closed
    (of_decide_eq_true (by kernel_rfl)) (by unfold Func.isWrapper; rw [if_neg (of_decide_eq_false (by kernel_rfl))]; exact ⟨rfl, rfl⟩)
    (fun os started H enc _ => lifted os started H enc)
end Go.Proofs.YtcgmmfcphfkdhaaGreat.benchesUnionDone

namespace Go.Proofs.YtcgmmfcphfkdhaaGreat
theorem benchesUnion_holds : Rows.BenchesUnionSaid := benchesUnionDone.over
#print axioms benchesUnion_holds
end Go.Proofs.YtcgmmfcphfkdhaaGreat
