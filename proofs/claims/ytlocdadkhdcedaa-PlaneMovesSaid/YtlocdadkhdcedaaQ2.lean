/- Two points compared. -/
import Derived.Test.YtlocdadkhdcedaaQ1
namespace Go.Proofs.Ytlocdadkhdcedaa
open Go Go.RowKit Go.Proofs

theorem run_pt_eql (a b c d : Int) (w : World) : (binOp .eql 23 (pt a b) (pt c d)).run Try.prog w = .ok (.bool (a == c && b == d)) w := by
  by_cases h1 : a = c <;> by_cases h2 : b = d <;> go_simp

theorem run_pt_neq (a b c d : Int) (w : World) : (binOp .neq 23 (pt a b) (pt c d)).run Try.prog w = .ok (.bool !(a == c && b == d)) w := by
  by_cases h1 : a = c <;> by_cases h2 : b = d <;> go_simp
end Go.Proofs.Ytlocdadkhdcedaa
