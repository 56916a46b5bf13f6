/- The abstract machine, part GA. -/
import Derived.Test.YtpknllbglppjcaaWA
import Derived.Lib.Hide
/- Settings: the plain law. -/
namespace Go.Plain

/-- The edge on which a setting lays an edge. -/
def ed (sh : Int) (b : Bool) (n i : Int) : Int :=
  if b then (if sh - i < 0 then sh - i + n else sh - i) else (if sh + i < n then sh + i else sh + i - n)

end Go.Plain

/- Walks: settings. -/
namespace Go.Proofs.Ytpknllbglppjcaa
open Go Go.RowKit Go.Proofs

abbrev st (s : Int) (b : Bool) : Value := .agg #[.int .i64 s, .bool b]

abbrev stObj (s : Int) (b : Bool) : Obj := .cells #[.int .i64 s, .bool b] 51

theorem st_new (w : World) (s : Int) (b : Bool) : (w.alloc (stObj s b)).cell? ⟨w.heap.size, 0, none⟩ = some (.int .i64 s) ∧ (w.alloc (stObj s b)).cell? ⟨w.heap.size, 1, none⟩ = some (.bool b) := by
  constructor <;> go_simp

theorem ret_int {k : IntKind} {a b : Int} (h : a = b) : Ending.returned (.int k a) = .returned (.int k b) := by rw [h]

end Go.Proofs.Ytpknllbglppjcaa
