/- The law BenchesReads with its head. -/
import Derived.Test.YtdnljbdngbphnaaGreatEC
import Derived.Test.YtdnljbdngbphnaaGreatF9
import Derived.Test.YtdnljbdngbphnaaGreatV3
namespace Go.Proofs.YtdnljbdngbphnaaGreat
open Go Go.RowKit Go.Proofs Go.Reads Go.Abs

theorem awake_any : Hid (∀ W, Calls Tryz.prog 4 #[] W fun e w' => e = .returned (.bool true) ∧ Below W.heap.size W w') := Lib.hid fun W => Reader.closed e52_ok rfl rfl rfl W

theorem readsLaw_any (v0 v1 : Value) (L : List W7) (N : List H5) (n : Int) (w : World) (h : SlW w v0 L) (h' : SlH w v1 N) (hw : ∀ x ∈ L, Wfi x.a) (hw' : ∀ x ∈ N, Wfi x.n) :
    Calls Tryz.prog 3 #[v0, v1, .int .i64 n] w fun e w' => e = .returned (.bool true) ∧ Below w.heap.size w w' :=
  reads_law v0 v1 L N n w h h' hw hw' awake_any

end Go.Proofs.YtdnljbdngbphnaaGreat
