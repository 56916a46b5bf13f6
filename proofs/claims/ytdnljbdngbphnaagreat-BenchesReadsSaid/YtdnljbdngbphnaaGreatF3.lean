/- Walks: SameHeld; rows of what panes hold that one owns. -/
import Derived.Test.YtdnljbdngbphnaaGreatF1
import Derived.Deep.Draws
import Derived.BigQuiet
import Derived.Deep.QuietTactic
import Derived.Maps.AppendAt
namespace Go.Proofs.YtdnljbdngbphnaaGreat
open Go Go.RowKit Go.Proofs Go.Reads

theorem below_drewN {B : Nat} {a w : World} (h : Below B a w) (n : Nat) : Below B a (w.drewN n) := h.trans ⟨rfl, rfl, rfl, Nat.le_refl _, fun _ _ => rfl⟩

theorem run_neqH (n p c s : Int) (b : Bool) (w : World) : (binOp .neq 64 (.agg #[.int .i64 n, .int .i64 p, .int .i64 c, .int .i64 s, .bool b]) (.agg #[.int .i64 n, .int .i64 p, .int .i64 c, .int .i64 s, .bool b])).run Tryz.prog w = .ok (.bool false) w := by
  cases b <;> go_simp

theorem run_eqlW (p k a s : Int) (b : Bool) (t u : Int) (w : World) : (binOp .eql 36 (.agg #[.int .i64 p, .int .i64 k, .int .i64 a, .int .i64 s, .bool b, .int .i64 t, .int .i64 u]) (.agg #[.int .i64 p, .int .i64 k, .int .i64 a, .int .i64 s, .bool b, .int .i64 t, .int .i64 u])).run Tryz.prog w = .ok (.bool true) w := by
  cases b <;> go_simp

set_option maxRecDepth 100000 in
set_option maxHeartbeats 2000000 in
theorem same7_any (v v' : Value) (L : List H5) (hl : L.length ≤ 100000) (w : World) (hs : SlH w v L) (hs' : SlH w v' L) :
    Calls Tryz.prog 7 #[v, v'] w fun e w' => e = .returned (.bool true) ∧ Below w.heap.size w w' := by
  obtain ⟨a, cap, rfl, -, hd⟩ := hs
  obtain ⟨a', cap', rfl, -, hd'⟩ := hs'
  obtain ⟨M, hM⟩ : ∃ M, L.length = M := ⟨_, rfl⟩
  rw [hM] at hd hd' hl ⊢
  have HD := Lib.hid hd
  have HD' := Lib.hid hd'
  clear hd hd' hM
  go_enter Tryz.func7, Tryz.ntmps7
  go_wp2_with fail
  go_loopw [5] (fun i wr => ∃ q : Nat, q ≤ M ∧ i = .int .i64 q ∧ Below w.heap.size w wr) (fun i _ => M - (intOf i).toNat)
  case atStart => exact ⟨0, by omega, rfl, Below.refl _ _⟩
  case round =>
    obtain ⟨q, hq0, rfl, hbel⟩ := hrel
    by_cases hqn : q < M
    · obtain ⟨b, off, rfl, hc⟩ := HD.out (by omega)
      obtain ⟨b', off', rfl, hc'⟩ := HD'.out (by omega)
      obtain ⟨c0, c1, c2, c3, c4⟩ := (hc q hqn).keep hbel
      obtain ⟨d0, d1, d2, d3, d4⟩ := (hc' q hqn).keep hbel
      generalize hq L q = x at c0 c1 c2 c3 c4 d0 d1 d2 d3 d4
      obtain ⟨xn, xp, xc, xs, xb⟩ := x
      dsimp only at c0 c1 c2 c3 c4 d0 d1 d2 d3 d4
      have j1 : decide ((q : Int) < (M : Int)) = true := by simp; omega
      have p0 : (q : Int) < (M : Int) := by omega
      have k1 := w64 ((q : Int) + 1) (by omega)
      have RE := run_neqH xn xp xc xs xb
      replace hbel := Lib.hid hbel
      clear hc hc' HD HD'
      go_wp2_with fail
      go_quiet (fail)
      go_wp2_with fail
      exact ⟨⟨q + 1, hqn, by simp, below_drewN hbel.out _⟩, by simp [intOf]; omega⟩
    · have hqM : q = M := by omega
      subst hqM
      have j1 : decide ((q : Int) < (q : Int)) = false := by simp
      replace hbel := Lib.hid hbel
      clear HD HD'
      go_wp2_with fail
      go_ret
      exact ⟨rfl, hbel.out⟩

end Go.Proofs.YtdnljbdngbphnaaGreat
