/- Walks: lists of acts; size. -/
import Derived.Test.YtcgmmfcphfkdhaaGreatD6
namespace Go.Proofs.YtcgmmfcphfkdhaaGreat
open Go Go.RowKit Go.Proofs Go.Torn Go.Abs

/-- What a disk is told of an act. -/
structure Ac where
  k : Int
  e : Int
  f : Int
  d : List Nat

/-- The cells of an act at an offset. -/
structure AcAt (w : World) (b o : Nat) (A : Ac) : Prop where
  c0 : w.cell? ⟨b, o, none⟩ = some (.int .i64 A.k)
  c1 : w.cell? ⟨b, o + 1, none⟩ = some (.int .i64 A.e)
  c2 : w.cell? ⟨b, o + 2, none⟩ = some (.int .i64 A.f)
  c3 : ∃ u, w.cell? ⟨b, o + 3, none⟩ = some u ∧ SlB w u A.d
  c33 : ∃ a n c, w.cell? ⟨b, o + 33, none⟩ = some (.slice a n c)
  c34 : ∃ a n c, w.cell? ⟨b, o + 34, none⟩ = some (.slice a n c)

theorem AcAt.keep {w w' : World} {b o : Nat} {A : Ac} (h : AcAt w b o A) (hb : Below w.heap.size w w') : AcAt w' b o A := by
  obtain ⟨h0, h1, h2, ⟨u, h3, h4⟩, ⟨a, n, c, h5⟩, ⟨a', n', c', h6⟩⟩ := h
  exact ⟨keep_cell hb h0, keep_cell hb h1, keep_cell hb h2, ⟨u, keep_cell hb h3, h4.keep hb⟩, ⟨a, n, c, keep_cell hb h5⟩, ⟨a', n', c', keep_cell hb h6⟩⟩

def acq (As : List Ac) (i : Nat) : Ac := As.getD i ⟨0, 0, 0, []⟩

/-- A row of acts, only read. -/
def RowA (w : World) (v : Value) (As : List Ac) : Prop := ∃ a cap, v = .slice a As.length cap ∧ (0 < As.length → ∃ b off, a = some ⟨b, off, none⟩ ∧ ∀ i, i < As.length → AcAt w b (off + i * 35) (acq As i))

theorem RowA.keep {w w' : World} {v : Value} {As : List Ac} (h : RowA w v As) (hb : Below w.heap.size w w') : RowA w' v As := by
  obtain ⟨a, cap, rfl, h2⟩ := h
  refine ⟨a, cap, rfl, fun hp => ?_⟩
  obtain ⟨b, off, rfl, h3⟩ := h2 hp
  exact ⟨b, off, rfl, fun i hi => (h3 i hi).keep hb⟩

set_option maxRecDepth 100000 in
set_option maxHeartbeats 2000000 in
theorem size28_any (v : Value) (As : List Ac) (hl : As.length ≤ 1000) (w : World) (h : RowA w v As) :
    Calls Tryz.prog 28 #[v] w fun e w' => ∃ n : Int, e = .returned (.int .i64 n) ∧ Below w.heap.size w w' := by
  obtain ⟨a, cap, rfl, hd⟩ := h
  obtain ⟨M, hM⟩ : ∃ M, As.length = M := ⟨_, rfl⟩
  rw [hM] at hd hl ⊢
  have HD := Lib.hid hd
  clear hd hM
  go_enter Tryz.func28, Tryz.ntmps28
  go_wp2_with fail
  go_loopw [3, 4] (fun s i wr => ∃ q : Nat, q ≤ M ∧ i = .int .i64 q ∧ (∃ n : Int, s = .int .i64 n) ∧ Below w.heap.size w wr) (fun _ i _ => M - (intOf i).toNat)
  case atStart => exact ⟨0, by omega, rfl, ⟨0, rfl⟩, Below.refl _ _⟩
  case round =>
    obtain ⟨q, hq, rfl, ⟨n, rfl⟩, hbel⟩ := hrel
    by_cases hqn : q < M
    · obtain ⟨b, off, rfl, hc⟩ := HD.out (by omega)
      obtain ⟨-, -, -, ⟨u, c3, hs⟩, ⟨a1, n1, p1, c33⟩, ⟨a2, n2, p2, c34⟩⟩ := (hc q hqn).keep hbel
      obtain ⟨a0, p0, rfl, -, -⟩ := hs
      obtain ⟨n0, hn0⟩ : ∃ n, (acq As q).d.length = n := ⟨_, rfl⟩
      rw [hn0] at c3
      clear hn0 hc
      have HB := Lib.hid hbel
      clear hbel HD
      have j1 : decide ((q : Int) < (M : Int)) = true := by simp; omega
      have j2 : wrap64 ((q : Int) + 1) = (q : Int) + 1 := w64 _ (by omega)
      have p0 : (q : Int) < (M : Int) := by omega
      go_wp2_with fail
      go_quiet (fail)
      go_wp2
      exact ⟨⟨q + 1, hqn, by simp, ⟨_, rfl⟩, below_drewN HB.out _⟩, by simp [intOf]; omega⟩
    · have : q = M := by omega
      subst this
      have j1 : decide ((q : Int) < (q : Int)) = false := by simp
      have HB := Lib.hid hbel
      clear hbel HD
      go_wp2
      go_ret
      exact ⟨n, rfl, HB.out⟩

end Go.Proofs.YtcgmmfcphfkdhaaGreat
