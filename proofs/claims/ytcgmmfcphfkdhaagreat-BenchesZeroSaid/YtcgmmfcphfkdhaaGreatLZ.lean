/- The law BenchesZero with its head. -/
import Derived.Test.YtcgmmfcphfkdhaaGreatLT
import Derived.Test.YtcgmmfcphfkdhaaGreatZ5
import Derived.Test.YtcgmmfcphfkdhaaGreatV6
namespace Go.Proofs.YtcgmmfcphfkdhaaGreat
open Go Go.RowKit Go.Proofs Go.Torn Go.Abs

theorem zeroLaw_any (u0 : Value) (D : List Nat) (keep flip : Int) (E : Array Value) (eb : Int) (hE : E.size = 35) (hE1 : E[1]? = some (.int .i64 eb)) (p4 : Option Addr) (l4 c4 : Nat) (w : World) (hs : SlB w u0 D) (hy : By D) :
    Calls Tryz.prog 9 #[u0, .int .i64 keep, .int .i64 flip, .agg E, .slice p4 l4 c4] w fun e w' => e = .returned (.bool true) ∧ Below w.heap.size w w' :=
  zero_law u0 D keep flip E eb hE hE1 p4 l4 c4 w hs hy awake_any

end Go.Proofs.YtcgmmfcphfkdhaaGreat
