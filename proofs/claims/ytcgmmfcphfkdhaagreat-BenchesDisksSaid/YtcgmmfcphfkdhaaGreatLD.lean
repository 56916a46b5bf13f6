/- The law BenchesDisks with its head. -/
import Derived.Test.YtcgmmfcphfkdhaaGreatLT
import Derived.Test.YtcgmmfcphfkdhaaGreatD8
import Derived.Test.YtcgmmfcphfkdhaaGreatV2
namespace Go.Proofs.YtcgmmfcphfkdhaaGreat
open Go Go.RowKit Go.Proofs Go.Torn Go.Abs

theorem disksLaw_any (v : Value) (As : List Ac) (w : World) (h : RowA w v As) (hy : ∀ A ∈ As, By A.d) (hlen : ∀ A ∈ As, A.d.length ≤ 9000000000000000000) :
    Calls Tryz.prog 8 #[v] w fun e w' => e = .returned (.bool true) ∧ Below w.heap.size w w' :=
  disks_law v As w h hy hlen awake_any

end Go.Proofs.YtcgmmfcphfkdhaaGreat
