/- The law BenchesUnion with its head. -/
import Derived.Test.YtcgmmfcphfkdhaaGreatEC
import Derived.Test.YtcgmmfcphfkdhaaGreatOEa
namespace Go.Proofs.YtcgmmfcphfkdhaaGreat
open Go Go.RowKit Go.Proofs Go.Abs

theorem awakeU : Hid (∀ W, Calls Tryz.prog 10 #[] W fun e w' => e = .returned (.bool true) ∧ Below W.heap.size W w') := Lib.hid fun W => Reader.closed e53_ok rfl rfl rfl W

theorem unionLaw_any (va vb vc : Value) (A B C : List Nt) (w : World) (ha : SlN w va A) (hb : SlN w vb B) (hc : SlN w vc C) (ra : ∀ n ∈ A, n.rg) (rb : ∀ n ∈ B, n.rg) (rc : ∀ n ∈ C, n.rg) :
    Calls Tryz.prog 7 #[va, vb, vc] w fun e w' => e = .returned (.bool true) ∧ Below w.heap.size w w' := union_law va vb vc A B C w ha hb hc ra rb rc awakeU

end Go.Proofs.YtcgmmfcphfkdhaaGreat
