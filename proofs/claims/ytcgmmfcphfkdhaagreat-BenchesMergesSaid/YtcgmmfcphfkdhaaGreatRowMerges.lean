/-
  BenchesMerges: whatever the arguments, valid or not, the call returns true and writes nothing that was there. No condition.
-/
import Derived.Test.YtcgmmfcphfkdhaaGreatRows
import Derived.WalkKit
import Derived.ProofKit
import Derived.OpenShut
import Derived.ShutString
import Derived.ChangeOld
import Derived.Below
import Derived.Lib.SmallJoins
import Derived.Test.YtcgmmfcphfkdhaaGreatJMerges
namespace Go.Proofs.YtcgmmfcphfkdhaaGreat.benchesMergesDone
open Go.ChangeShapes Go.WideShapes Go.ChangeAt Go.RowKit Go.Joins
open Go.Proofs.YtcgmmfcphfkdhaaGreat
set_option linter.unusedVariables false


theorem over : Rows.benchesMergesRow.holds Tryz.pinned (OpenSpec.ofChange Rows.benchesMergesSpec) :=
  OpenClaim.holds_of_wide 4 Tryz.f4 rfl rfl rfl rfl rfl rfl rfl ⟨rfl, rfl, rfl, rfl, rfl⟩ rfl rfl rfl rfl rfl (by kernel_rfl) Tryz.func4 closed
    (of_decide_eq_true (by kernel_rfl)) (by unfold Func.isWrapper; rw [if_neg (of_decide_eq_false (by kernel_rfl))]; exact ⟨rfl, rfl⟩)
    (fun os started H enc _ => lifted os started H enc)
end Go.Proofs.YtcgmmfcphfkdhaaGreat.benchesMergesDone

namespace Go.Proofs.YtcgmmfcphfkdhaaGreat
theorem benchesMerges_holds : Rows.BenchesMergesSaid := benchesMergesDone.over
#print axioms benchesMerges_holds
end Go.Proofs.YtcgmmfcphfkdhaaGreat
