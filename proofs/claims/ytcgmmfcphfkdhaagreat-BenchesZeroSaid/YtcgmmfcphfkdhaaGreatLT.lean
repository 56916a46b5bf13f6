/- The law BenchesTorn with its head. -/
import Derived.Test.YtcgmmfcphfkdhaaGreatEC
import Derived.Test.YtcgmmfcphfkdhaaGreatB10
import Derived.Test.YtcgmmfcphfkdhaaGreatV1
namespace Go.Proofs.YtcgmmfcphfkdhaaGreat
open Go Go.RowKit Go.Proofs Go.Torn Go.Abs

theorem awake_any : Hid (∀ W, Calls Tryz.prog 10 #[] W fun e w' => e = .returned (.bool true) ∧ Below W.heap.size W w') := Lib.hid fun W => Reader.closed e53_ok rfl rfl rfl W

theorem wf_b64 {n : Int} (h : (Lit.int .i64 n).wf = true) : -9223372036854775808 ≤ n ∧ n ≤ 9223372036854775807 := by
  have h' : (decide (IntKind.i64.min ≤ n) && decide (n ≤ IntKind.i64.max)) = true := h
  have e1 : IntKind.i64.min = -9223372036854775808 := rfl
  have e2 : IntKind.i64.max = 9223372036854775807 := rfl
  rw [e1, e2] at h'
  simp at h'
  omega

theorem tornLaw_any (v : Value) (Ps : List (List Nat)) (bit : Int) (w : World) (h : RowsR w v Ps) (hy : ∀ r ∈ Ps, By r) (hcp : ∀ x n c, v = .slice x n c → n ≤ c) (hw : (Lit.int .i64 bit).wf = true) :
    Calls Tryz.prog 6 #[v, .int .i64 bit] w fun e w' => e = .returned (.bool true) ∧ Below w.heap.size w w' :=
  torn_law v Ps bit (wf_b64 hw).1 (wf_b64 hw).2 w h hy hcp awake_any

end Go.Proofs.YtcgmmfcphfkdhaaGreat
