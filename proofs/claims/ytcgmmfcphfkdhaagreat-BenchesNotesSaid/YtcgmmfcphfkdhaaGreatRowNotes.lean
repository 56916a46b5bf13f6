/-
  BenchesNotes: whatever the arguments, valid or not, the call returns true and writes nothing that was there. No condition.
-/
import Derived.Test.YtcgmmfcphfkdhaaGreatRows
import Derived.WalkKit
import Derived.ProofKit
import Derived.OpenShut
import Derived.ShutString
import Derived.ChangeOld
import Derived.Below
import Derived.Lib.SmallJoins
import Derived.Test.YtcgmmfcphfkdhaaGreatJN
namespace Go.Proofs.YtcgmmfcphfkdhaaGreat.benchesNotesDone
open Go.ChangeShapes Go.WideShapes Go.ChangeAt Go.RowKit Go.Joins
open Go.Proofs.YtcgmmfcphfkdhaaGreat
set_option linter.unusedVariables false

theorem over : Rows.benchesNotesRow.holds Tryz.pinned (OpenSpec.ofChange Rows.benchesNotesSpec) :=
  OpenClaim.holds_of_wide 3 Tryz.f3 rfl rfl rfl rfl rfl rfl rfl ⟨rfl, rfl, rfl, rfl, rfl⟩ rfl rfl rfl rfl rfl (by kernel_rfl) Tryz.func3 closed
    (of_decide_eq_true (by kernel_rfl)) (by unfold Func.isWrapper; rw [if_neg (of_decide_eq_false (by kernel_rfl))]; exact ⟨rfl, rfl⟩)
    (fun os started H enc _ => lifted os started H enc)
end Go.Proofs.YtcgmmfcphfkdhaaGreat.benchesNotesDone

namespace Go.Proofs.YtcgmmfcphfkdhaaGreat
theorem benchesNotes_holds : Rows.BenchesNotesSaid := benchesNotesDone.over
#print axioms benchesNotes_holds
end Go.Proofs.YtcgmmfcphfkdhaaGreat
