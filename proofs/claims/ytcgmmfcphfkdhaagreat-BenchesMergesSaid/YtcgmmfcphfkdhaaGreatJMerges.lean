/- The closed facts of BenchesMerges' row. -/
import Derived.Test.YtcgmmfcphfkdhaaGreatRowMergesA
namespace Go.Proofs.YtcgmmfcphfkdhaaGreat.benchesMergesDone
open Go.ChangeShapes Go.WideShapes Go.ChangeAt Go.RowKit Go.Joins
open Go.Proofs.YtcgmmfcphfkdhaaGreat
theorem and_both {a b : Bool} (h1 : a = true) (h2 : b = true) : (a && b) = true := by rw [h1, h2]; rfl
set_option maxRecDepth 100000 in
set_option maxHeartbeats 20000000 in
theorem closed : joinedFacts Tryz.pinned.checked.prog 4 Tryz.f4 Rows.benchesMergesSpec Rows.benchesMergesRow = true := by
  unfold joinedFacts
  repeat refine and_both ?_ ?_
  all_goals (as_aux_lemma => kernel_rfl)
end Go.Proofs.YtcgmmfcphfkdhaaGreat.benchesMergesDone
