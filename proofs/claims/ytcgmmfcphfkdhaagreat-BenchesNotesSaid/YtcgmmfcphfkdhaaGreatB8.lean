/- Walks: SameBytes. -/
import Derived.Test.YtcgmmfcphfkdhaaGreatB7
namespace Go.Proofs.YtcgmmfcphfkdhaaGreat
open Go Go.RowKit Go.Proofs Go.Torn Go.Abs

/-- A row of slices, only read. -/
def RowsR (w : World) (v : Value) (Rs : List (List Nat)) : Prop := ∃ a cap, v = .slice a Rs.length cap ∧
  (0 < Rs.length → ∃ b off, a = some ⟨b, off, none⟩ ∧ ∀ k, k < Rs.length → ∃ u, w.cell? ⟨b, off + k, none⟩ = some u ∧ SlB w u (Rs.getD k []))

theorem RowsR.keep {w w' : World} {v : Value} {Rs : List (List Nat)} (h : RowsR w v Rs) (hb : Below w.heap.size w w') : RowsR w' v Rs := by
  obtain ⟨a, cap, rfl, h2⟩ := h
  refine ⟨a, cap, rfl, fun hp => ?_⟩
  obtain ⟨b, off, rfl, h3⟩ := h2 hp
  refine ⟨b, off, rfl, fun k hk => ?_⟩
  obtain ⟨u, g1, g2⟩ := h3 k hk
  exact ⟨u, keep_cell hb g1, g2.keep hb⟩

theorem RowsB.read {w : World} {base : Nat} {v : Value} {Rs : List (List Nat)} (h : RowsB w base v Rs) : RowsR w v Rs := by
  obtain ⟨xs, hown, hx⟩ := h
  rcases hown.2 with ⟨rfl, h0⟩ | ⟨g, cap, cur, rfl, -⟩
  · exact ⟨none, 0, by rw [h0], fun hp => by omega⟩
  · refine ⟨some ⟨g, 0, none⟩, cap, rfl, fun _ => ⟨g, 0, rfl, fun k hk => ?_⟩⟩
    obtain ⟨u, g1, g2, -⟩ := hx k hk
    refine ⟨u, ?_, g2⟩
    rw [Nat.zero_add, hown.cellAt k (by omega)]
    exact g1

theorem run_str_drew {w : World} {v : Value} {L : List Nat} (h : SlB w v L) (n : Nat) : (convert 46 9 v).run Tryz.prog (w.drewN n) = .ok (.string (strB L)) (w.drewN n) := run_str (h.keep (below_drewN (Below.refl _ w) n))

set_option maxRecDepth 100000 in
set_option maxHeartbeats 2000000 in
theorem same_any (v v' : Value) (Rs : List (List Nat)) (hN : Rs.length ≤ 100000) (w : World) (h : RowsR w v Rs) (h' : RowsR w v' Rs) :
    Calls Tryz.prog 27 #[v, v'] w fun e w' => e = .returned (.bool true) ∧ Below w.heap.size w w' := by
  obtain ⟨a, cap, rfl, hd⟩ := h
  obtain ⟨a', cap', rfl, hd'⟩ := h'
  obtain ⟨N, hNN⟩ : ∃ N, Rs.length = N := ⟨_, rfl⟩
  rw [hNN] at hN hd hd' ⊢
  have HD := Lib.hid hd
  have HD' := Lib.hid hd'
  clear hd hd' hNN
  go_enter Tryz.func27, Tryz.ntmps27
  go_wp2_with fail
  go_loopw [5] (fun i wr => ∃ q : Nat, q ≤ N ∧ i = .int .i64 q ∧ Below w.heap.size w wr) (fun i _ => N - (intOf i).toNat)
  case atStart => exact ⟨0, by omega, rfl, Below.refl _ _⟩
  case round =>
    obtain ⟨q, hq, rfl, hbel⟩ := hrel
    by_cases hqn : q < N
    · obtain ⟨b, off, rfl, hb⟩ := HD.out (by omega)
      obtain ⟨b', off', rfl, hb'⟩ := HD'.out (by omega)
      obtain ⟨u, k0, g0⟩ := hb q hqn
      obtain ⟨u', k1, g1⟩ := hb' q hqn
      have k0 := keep_cell hbel k0
      have k1 := keep_cell hbel k1
      have R0 := run_str_drew (g0.keep hbel)
      have R1 := run_str_drew (g1.keep hbel)
      have s0 := run_str (g0.keep hbel)
      have s1 := run_str (g1.keep hbel)
      generalize strB (Rs.getD q []) = s at R0 R1 s0 s1
      have HB := Lib.hid hbel
      clear hb hb' g0 g1 hbel HD HD'
      have j1 : decide ((q : Int) < (N : Int)) = true := by simp; omega
      have j2 : wrap64 ((q : Int) + 1) = (q : Int) + 1 := w64 _ (by omega)
      have p0 : (q : Int) < (N : Int) := by omega
      go_wp2_with fail
      go_quiet (fail)
      go_wp2
      exact ⟨⟨q + 1, hqn, by simp, below_drewN HB.out _⟩, by simp [intOf]; omega⟩
    · have : q = N := by omega
      subst this
      have j1 : decide ((q : Int) < (q : Int)) = false := by simp
      have HB := Lib.hid hbel
      clear hbel
      go_wp2
      go_ret
      exact ⟨rfl, HB.out⟩

end Go.Proofs.YtcgmmfcphfkdhaaGreat
