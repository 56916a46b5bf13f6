/- Walks: benches and worlds that nobody made. -/
import Derived.Test.YtcgmmfcphfkdhaaGreatD6
namespace Go.Proofs.YtcgmmfcphfkdhaaGreat
open Go Go.RowKit Go.Proofs Go.Torn Go.Abs

/-- No bench, or one without a number. -/
def NoB (w : World) (v : Value) : Prop := v = .pointer none ∨ ∃ B, v = .pointer (some ⟨B, 0, none⟩) ∧ w.cell? ⟨B, 0, none⟩ = some (.int .i64 0)
/-- No world, or one without benches. -/
def NoW (w : World) (v : Value) : Prop := v = .pointer none ∨ ∃ B, v = .pointer (some ⟨B, 0, none⟩) ∧ w.cell? ⟨B, 0, none⟩ = some (.slice none 0 0)

theorem NoB.keep {w w' : World} {v : Value} (h : NoB w v) (hb : Below w.heap.size w w') : NoB w' v := by
  rcases h with h | ⟨B, h, hc⟩
  · exact .inl h
  · exact .inr ⟨B, h, keep_cell hb hc⟩
theorem NoW.keep {w w' : World} {v : Value} (h : NoW w v) (hb : Below w.heap.size w w') : NoW w' v := by
  rcases h with h | ⟨B, h, hc⟩
  · exact .inl h
  · exact .inr ⟨B, h, keep_cell hb hc⟩

theorem made85 {v : Value} (w : World) (h : NoB w v) : Calls Tryz.prog 85 #[v] w fun e w' => e = .returned (.bool false) ∧ w' = w := by
  rcases h with rfl | ⟨B, rfl, hc⟩
  · go_enter Tryz.func85, Tryz.ntmps85
    go_wp2
    go_ret
    exact ⟨rfl, rfl⟩
  · go_enter Tryz.func85, Tryz.ntmps85
    go_wp2
    go_ret
    exact ⟨rfl, rfl⟩

theorem made95 {v : Value} (w : World) (h : NoW w v) : Calls Tryz.prog 95 #[v] w fun e w' => e = .returned (.bool false) ∧ w' = w := by
  rcases h with rfl | ⟨B, rfl, hc⟩
  · go_enter Tryz.func95, Tryz.ntmps95
    go_wp2
    go_ret
    exact ⟨rfl, rfl⟩
  · go_enter Tryz.func95, Tryz.ntmps95
    go_wp2
    go_ret
    exact ⟨rfl, rfl⟩

theorem sync41 {v : Value} (w : World) (h : NoB w v) : Calls Tryz.prog 41 #[v] w fun e w' => e = .returned (.tuple #[]) ∧ w' = w := by
  have H := Lib.hid (made85 w h)
  clear h
  go_enter Tryz.func41, Tryz.ntmps41
  go_wp2_with fail
  refine H.out.mono ?_
  rintro e w1 ⟨rfl, rfl⟩
  go_wp2
  exact Go.Great.bodyPost_end0 rfl rfl ⟨rfl, rfl⟩

theorem crash44 {v : Value} (k f : Int) (w : World) (h : NoB w v) : Calls Tryz.prog 44 #[v, .int .i64 k, .int .i64 f] w fun e w' => e = .returned (.int .i64 1) ∧ w' = w := by
  have H := Lib.hid (made85 w h)
  clear h
  go_enter Tryz.func44, Tryz.ntmps44
  go_wp2_with fail
  refine H.out.mono ?_
  rintro e w1 ⟨rfl, rfl⟩
  go_wp2
  go_ret
  exact ⟨rfl, rfl⟩

theorem hear43 {v u : Value} (w : World) (h : NoB w v) : Calls Tryz.prog 43 #[v, u] w fun e w' => e = .returned (.tuple #[.int .i64 0, .int .i64 1]) ∧ w' = w := by
  have H := Lib.hid (made85 w h)
  clear h
  go_enter Tryz.func43, Tryz.ntmps43
  go_wp2_with fail
  refine H.out.mono ?_
  rintro e w1 ⟨rfl, rfl⟩
  go_wp2
  go_ret2
  exact ⟨rfl, rfl⟩

theorem notes45 {v : Value} (w : World) (h : NoB w v) : Calls Tryz.prog 45 #[v] w fun e w' => e = .returned (.slice none 0 0) ∧ w' = w := by
  have H := Lib.hid (made85 w h)
  clear h
  go_enter Tryz.func45, Tryz.ntmps45
  go_wp2_with fail
  refine H.out.mono ?_
  rintro e w1 ⟨rfl, rfl⟩
  go_wp2
  go_ret
  exact ⟨rfl, rfl⟩

theorem counts46 {v : Value} (w : World) (h : NoB w v) : Calls Tryz.prog 46 #[v] w fun e w' => e = .returned (.slice none 0 0) ∧ w' = w := by
  have H := Lib.hid (made85 w h)
  clear h
  go_enter Tryz.func46, Tryz.ntmps46
  go_wp2_with fail
  refine H.out.mono ?_
  rintro e w1 ⟨rfl, rfl⟩
  go_wp2
  go_ret
  exact ⟨rfl, rfl⟩

theorem wnotes48 {v : Value} (n : Int) (w : World) (h : NoW w v) : Calls Tryz.prog 48 #[v, .int .i64 n] w fun e w' => e = .returned (.tuple #[.slice none 0 0, .int .i64 1]) ∧ w' = w := by
  have H := Lib.hid (made95 w h)
  clear h
  go_enter Tryz.func48, Tryz.ntmps48
  go_wp2_with fail
  refine H.out.mono ?_
  rintro e w1 ⟨rfl, rfl⟩
  go_wp2
  go_ret2
  exact ⟨rfl, rfl⟩

theorem settle50 {v : Value} (w : World) (h : NoW w v) : Calls Tryz.prog 50 #[v] w fun e w' => e = .returned (.int .i64 1) ∧ w' = w := by
  have H := Lib.hid (made95 w h)
  clear h
  go_enter Tryz.func50, Tryz.ntmps50
  go_wp2_with fail
  refine H.out.mono ?_
  rintro e w1 ⟨rfl, rfl⟩
  go_wp2
  go_ret
  exact ⟨rfl, rfl⟩

theorem mails51 {v : Value} (w : World) (h : NoW w v) : Calls Tryz.prog 51 #[v] w fun e w' => e = .returned (.slice none 0 0) ∧ w' = w := by
  have H := Lib.hid (made95 w h)
  clear h
  go_enter Tryz.func51, Tryz.ntmps51
  go_wp2_with fail
  refine H.out.mono ?_
  rintro e w1 ⟨rfl, rfl⟩
  go_wp2
  go_ret
  exact ⟨rfl, rfl⟩

theorem trays52 {v : Value} (w : World) (h : NoW w v) : Calls Tryz.prog 52 #[v] w fun e w' => e = .returned (.slice none 0 0) ∧ w' = w := by
  have H := Lib.hid (made95 w h)
  clear h
  go_enter Tryz.func52, Tryz.ntmps52
  go_wp2_with fail
  refine H.out.mono ?_
  rintro e w1 ⟨rfl, rfl⟩
  go_wp2
  go_ret
  exact ⟨rfl, rfl⟩

theorem nsync33 (w : World) : Calls Tryz.prog 33 #[.pointer none] w fun e w' => e = .returned (.tuple #[]) ∧ w' = w := by
  go_enter Tryz.func33, Tryz.ntmps33
  go_wp2
  exact Go.Great.bodyPost_end0 rfl rfl ⟨rfl, rfl⟩

theorem nwrite31 {u : Value} (w : World) : Calls Tryz.prog 31 #[.pointer none, u] w fun e w' => e = .returned (.int .i64 1) ∧ w' = w := by
  go_enter Tryz.func31, Tryz.ntmps31
  go_wp2
  go_ret
  exact ⟨rfl, rfl⟩

theorem nread39 (w : World) : Calls Tryz.prog 39 #[.pointer none] w fun e w' => e = .returned (.slice none 0 0) ∧ w' = w := by
  go_enter Tryz.func39, Tryz.ntmps39
  go_wp2
  go_ret
  exact ⟨rfl, rfl⟩

theorem npending37 (w : World) : Calls Tryz.prog 37 #[.pointer none] w fun e w' => e = .returned (.int .i64 0) ∧ w' = w := by
  go_enter Tryz.func37, Tryz.ntmps37
  go_wp2
  go_ret
  exact ⟨rfl, rfl⟩

theorem ncrash35 (k f : Int) (w : World) : Calls Tryz.prog 35 #[.pointer none, .int .i64 k, .int .i64 f] w fun e w' => e = .returned (.int .i64 1) ∧ w' = w := by
  go_enter Tryz.func35, Tryz.ntmps35
  go_wp2
  go_ret
  exact ⟨rfl, rfl⟩

end Go.Proofs.YtcgmmfcphfkdhaaGreat
