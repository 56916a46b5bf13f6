/-
  BenchesDisks: whatever the arguments, valid or not, the call returns true and writes nothing that was there. No condition.
-/
import Derived.Test.YtcgmmfcphfkdhaaGreatRows
import Derived.WalkKit
import Derived.ProofKit
import Derived.OpenShut
import Derived.ShutString
import Derived.ChangeOld
import Derived.Below
import Derived.Lib.SmallJoins
import Derived.Test.YtcgmmfcphfkdhaaGreatJD
namespace Go.Proofs.YtcgmmfcphfkdhaaGreat.benchesDisksDone
open Go.ChangeShapes Go.WideShapes Go.ChangeAt Go.RowKit Go.Joins
open Go.Proofs.YtcgmmfcphfkdhaaGreat
set_option linter.unusedVariables false

theorem over : Rows.benchesDisksRow.holds Tryz.pinned (OpenSpec.ofChange Rows.benchesDisksSpec) :=
  OpenClaim.holds_of_wide 8 Tryz.f8 rfl rfl rfl rfl rfl rfl rfl ⟨rfl, rfl, rfl, rfl, rfl⟩ rfl rfl rfl rfl rfl (by kernel_rfl) Tryz.func8 closed
    (of_decide_eq_true (by kernel_rfl)) (by unfold Func.isWrapper; rw [if_neg (of_decide_eq_false (by kernel_rfl))]; exact ⟨rfl, rfl⟩)
    (fun os started H enc _ => lifted os started H enc)
end Go.Proofs.YtcgmmfcphfkdhaaGreat.benchesDisksDone

namespace Go.Proofs.YtcgmmfcphfkdhaaGreat
theorem benchesDisks_holds : Rows.BenchesDisksSaid := benchesDisksDone.over
#print axioms benchesDisks_holds
end Go.Proofs.YtcgmmfcphfkdhaaGreat
