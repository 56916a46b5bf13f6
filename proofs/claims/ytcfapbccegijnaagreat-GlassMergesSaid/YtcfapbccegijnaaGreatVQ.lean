/- Walks: law 3 (GlassFits). -/
import Derived.Test.YtcfapbccegijnaaGreatLP
import Derived.Test.YtcfapbccegijnaaGreatAwake
import Derived.Deep.Cut
namespace Go.Proofs.YtcfapbccegijnaaGreat
open Go Go.RowKit Go.Proofs Go.Abs

theorem SetAt.shape {W : World} {v : Value} {F : List (Nat × Bool)} (h : SetAt W v F) : ∃ a cap, v = .slice a F.length cap := by
  rcases h with ⟨rfl, rfl⟩ | ⟨g, cap, rfl, -⟩
  · exact ⟨_, _, rfl⟩
  · exact ⟨_, _, rfl⟩

theorem SetAt.pos {W : World} {a : Option Addr} {cap : Nat} {F : List (Nat × Bool)} (h : SetAt W (.slice a F.length cap) F) {i : Nat} {p : Nat × Bool} (hp : F[i]? = some p) :
    ∃ g, a = some ⟨g, 0, none⟩ ∧ W.cell? ⟨g, i * 2, none⟩ = some (.int .i64 p.1) ∧ W.cell? ⟨g, i * 2 + 1, none⟩ = some (.bool p.2) := by
  rcases h with ⟨rfl, -⟩ | ⟨g, cap', e, hr⟩
  · simp at hp
  · simp only [Value.slice.injEq] at e
    obtain ⟨rfl, _, rfl⟩ := e
    exact ⟨g, rfl, hr.cell hp⟩

set_option maxRecDepth 100000 in
set_option maxHeartbeats 2000000 in
theorem sameSet_at {L : List (Nat × Bool)} {v1 v2 : Value} (w : World) (h1 : SetAt w v1 L) (h2 : SetAt w v2 L) (hl : L.length ≤ 1000) :
    Calls Tryz.prog 16 #[v1, v2] w fun e w' => e = .returned (.bool true) ∧ Below w.heap.size w w' := by
  obtain ⟨a1, c1, rfl⟩ := SetAt.shape h1
  obtain ⟨a2, c2, rfl⟩ := SetAt.shape h2
  have H1 := Lib.hid h1
  have H2 := Lib.hid h2
  clear h1 h2
  go_enter Tryz.func16, Tryz.ntmps16
  go_wp2_with fail
  go_loopw [5] (fun i wr => ∃ k : Nat, k ≤ L.length ∧ i = .int .i64 k ∧ Below w.heap.size w wr) (fun i _ => L.length - (intOf i).toNat)
  case atStart => exact ⟨0, Nat.zero_le _, rfl, Below.refl _ _⟩
  case round =>
    obtain ⟨k, hk, rfl, hbel⟩ := hrel
    by_cases hlt : k < L.length
    · have j1 : (k : Int) < (L.length : Int) := by omega
      obtain ⟨⟨s, b⟩, hp⟩ : ∃ p, L[k]? = some p := ⟨_, List.getElem?_eq_getElem hlt⟩
      obtain ⟨g1, rfl, x0, x1⟩ := SetAt.pos (H1.out.keep hbel) hp
      obtain ⟨g2, rfl, y0, y1⟩ := SetAt.pos (H2.out.keep hbel) hp
      clear hp
      go_wp2_with fail
      have G0 := grow_cell x0
      have G1 := grow_cell x1
      have G2 := grow_cell y0
      have G3 := grow_cell y1
      have hq := run_st_neq
      refine wp_region_grow (by kernel_rfl) (by kernel_rfl) ?_
      repeat (go_big_quiet_step (fail))
      refine wpQuiet_nil ?_
      rintro w4 ⟨z, hz⟩
      have hb : Below wr.heap.size wr w4 := by rw [hz]; exact z.b
      clear hz z G0 G1 G2 G3 x0 x1 y0 y1 hq
      have bel4 := keep_below hbel hb
      clear hb
      go_wp2
      exact ⟨⟨k + 1, by omega, by simp, bel4⟩, by simp [intOf]; omega⟩
    · obtain rfl : k = L.length := by omega
      go_wp2
      go_ret
      exact ⟨rfl, hbel⟩


def fewB (G : List G5) (M : List M3) (n : Nat) : Bool := decide (G.length ≤ 60) && (decide (M.length ≤ 100) && decide (n ≤ 60))

set_option maxHeartbeats 2000000 in
theorem few3_any (id c r m s : Int) (vg vm : Value) (G : List G5) (M : List M3) (la : Option Addr) (n lcap : Nat) (w : World) (hG : SlG w vg G) (hM : SlM w vm M) :
    Calls Tryz.prog 11 #[pcs id c r m s vg vm, .slice la n lcap] w fun e w' => e = .returned (.bool (fewB G M n)) ∧ Below w.heap.size w w' := by
  obtain ⟨ga, gcap, rfl, hgl, -⟩ := hG
  obtain ⟨ma, mcap, rfl, hml, -⟩ := hM
  have b0 : Below w.heap.size w (w.alloc (pcsObj id c r m s (.slice ga G.length gcap) (.slice ma M.length mcap))) := (Below.refl _ _).alloc (Nat.le_refl _) _
  unfold fewB
  generalize G.length = k at *
  generalize M.length = l at *
  have e1 : decide (k ≤ 60) = decide ((k : Int) ≤ 60) := by rw [decide_eq_decide]; omega
  have e2 : decide (l ≤ 100) = decide ((l : Int) ≤ 100) := by rw [decide_eq_decide]; omega
  have e3 : decide (n ≤ 60) = decide ((n : Int) ≤ 60) := by rw [decide_eq_decide]; omega
  rw [e1, e2, e3]
  cases h1 : decide ((k : Int) ≤ 60) <;> cases h2 : decide ((l : Int) ≤ 100) <;> cases h3 : decide ((n : Int) ≤ 60)
  all_goals
    clear e1 e2 e3
    go_enter Tryz.func11, Tryz.ntmps11
    go_wp2
    go_ret
    exact ⟨rfl, b0⟩

end Go.Proofs.YtcfapbccegijnaaGreat
