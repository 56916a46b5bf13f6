/- The law BenchesMerges with its head. -/
import Derived.Test.YtcgmmfcphfkdhaaGreatEC
import Derived.Test.YtcgmmfcphfkdhaaGreatOCa
namespace Go.Proofs.YtcgmmfcphfkdhaaGreat
open Go Go.RowKit Go.Proofs Go.Abs

theorem awakeM : Hid (∀ W, Calls Tryz.prog 10 #[] W fun e w' => e = .returned (.bool true) ∧ Below W.heap.size W w') := Lib.hid fun W => Reader.closed e53_ok rfl rfl rfl W

theorem mergesLaw_any (va vb : Value) (A B : List Nt) (w : World) (ha : SlN w va A) (hb : SlN w vb B) (ra : ∀ n ∈ A, n.rg) (rb : ∀ n ∈ B, n.rg) :
    Calls Tryz.prog 4 #[va, vb] w fun e w' => e = .returned (.bool true) ∧ Below w.heap.size w w' := merges_law va vb A B w ha hb ra rb awakeM

end Go.Proofs.YtcgmmfcphfkdhaaGreat
