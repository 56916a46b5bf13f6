/- The law BenchesNotes with its head. -/
import Derived.Test.YtcgmmfcphfkdhaaGreatEC
import Derived.Test.YtcgmmfcphfkdhaaGreatGrNA
namespace Go.Proofs.YtcgmmfcphfkdhaaGreat
open Go Go.RowKit Go.Proofs Go.Abs

theorem awakeN : Hid (∀ W, Calls Tryz.prog 10 #[] W fun e w' => e = .returned (.bool true) ∧ Below W.heap.size W w') := Lib.hid fun W => Reader.closed e53_ok rfl rfl rfl W

theorem notesLaw_any (v : Value) (L : List Nt) (w : World) (h : SlN w v L) :
    Calls Tryz.prog 3 #[v] w fun e w' => e = .returned (.bool true) ∧ Below w.heap.size w w' := notes_law v L w h awakeN

end Go.Proofs.YtcgmmfcphfkdhaaGreat
