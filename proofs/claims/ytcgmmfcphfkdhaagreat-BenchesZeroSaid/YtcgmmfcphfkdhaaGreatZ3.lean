/- Walks: what a bench and a world that nobody made do with a note, an event and counts. -/
import Derived.Test.YtcgmmfcphfkdhaaGreatZ1
import Derived.Test.YtcgmmfcphfkdhaaGreatZ0
namespace Go.Proofs.YtcgmmfcphfkdhaaGreat
open Go Go.RowKit Go.Proofs Go.Torn Go.Abs

set_option maxRecDepth 100000 in
theorem step49 {v : Value} (a : Array Value) (_ha : a.size = 35) (w : World) (h : NoW w v) : Calls Tryz.prog 49 #[v, .agg a] w fun e w' => e = .returned (.int .i64 1) ∧ Below w.heap.size w w' := by
  have H := Lib.hid h
  clear h
  go_enter Tryz.func49, Tryz.ntmps49
  go_wp2_with fail
  have b1 := ((Below.refl w.heap.size w).alloc (Nat.le_refl _) (Obj.cells a 73))
  refine (made95 _ (H.out.keep b1)).mono ?_
  rintro e w1 ⟨rfl, rfl⟩
  have B := Lib.hid b1
  clear b1 H
  go_wp2
  go_ret
  exact ⟨rfl, B.out⟩

theorem only94 (u : Value) (w : World) : Calls Tryz.prog 94 #[.slice none 0 0, u] w fun e w' => e = .returned (.slice none 0 0) ∧ w' = w := by
  go_enter Tryz.func94, Tryz.ntmps94
  go_wp2_with fail
  go_loopw [5, 10] (fun s i wr => s = .slice none 0 0 ∧ i = .int .i64 0 ∧ wr = w) (fun _ _ _ => 0)
  case atStart => exact ⟨rfl, rfl, rfl⟩
  case round =>
    obtain ⟨rfl, rfl, rfl⟩ := hrel
    have j1 : decide ((0 : Int) < ((0 : Nat) : Int)) = false := by simp
    go_wp2
    go_ret
    exact ⟨rfl, rfl⟩

theorem missing47 {v : Value} {p : Option Addr} {l c : Nat} (w : World) (h : NoB w v) : Calls Tryz.prog 47 #[v, .slice p l c] w fun e w' => e = .returned (.slice none 0 0) ∧ Below w.heap.size w w' := by
  have H := Lib.hid h
  clear h
  go_enter Tryz.func47, Tryz.ntmps47
  go_wp2_with fail
  have b1 := ((Below.refl w.heap.size w).alloc (Nat.le_refl _) (Obj.cells #[.slice p l c] 32))
  refine (notes45 _ (H.out.keep b1)).mono ?_
  rintro e w1 ⟨rfl, rfl⟩
  have B := Lib.hid b1
  clear b1 H
  go_wp2_with fail
  refine (only94 _ _).mono ?_
  rintro e w1 ⟨rfl, rfl⟩
  go_wp2
  go_ret
  exact ⟨rfl, B.out⟩
end Go.Proofs.YtcgmmfcphfkdhaaGreat
