/- The group of settings, whatever the arguments. -/
import Derived.Test.YtennldmiepondaaG3
namespace Go.Proofs.Ytennldmiepondaa
open Go Go.RowKit Go.Proofs

theorem group_any (s : Int) (b : Bool) (t : Int) (c : Bool) (u : Int) (d : Bool) (n i : Int) (w : World) (_ : (Lit.int .i64 s).wf = true) (_ : (Lit.int .i64 t).wf = true) (_ : (Lit.int .i64 u).wf = true) (_ : (Lit.int .i64 n).wf = true) (_ : (Lit.int .i64 i).wf = true) :
    Calls Try.prog 14 #[st s b, st t c, st u d, .int .i64 n, .int .i64 i] w fun e w' => e = .returned (.bool true) ∧ Below w.heap.size w w' := by
  cases h : (vset s n && vset t n && vset u n && decide (0 ≤ i) && decide (i < n))
  · exact group_out s t u n i b c d w h
  · simp only [Bool.and_eq_true, decide_eq_true_eq] at h
    obtain ⟨⟨⟨⟨h1, h2⟩, h3⟩, h4⟩, h5⟩ := h
    exact group_in s t u n i b c d w h1 h2 h3 h4 h5

end Go.Proofs.Ytennldmiepondaa
