/- The abstract machine, part RH. -/
import Derived.Test.YtcfapbccegijnaaGreatRG
import Derived.Test.YtcfapbccegijnaaGreatLK
import Derived.Test.YtcfapbccegijnaaGreatH0
import Derived.Test.YtcfapbccegijnaaGreatVQ
/- Walks: SamePiece of equal pieces; Shows and Marks of the program, told as the reference's. -/
namespace Go.Proofs.YtcfapbccegijnaaGreat
open Go Go.RowKit Go.Proofs Go.Abs

theorem run_mk_neq (a b c : Int) (w : World) : (binOp .neq 78 (mk a b c) (mk a b c)).run Tryz.prog w = .ok (.bool false) w := by
  go_simp

set_option maxRecDepth 100000 in
set_option maxHeartbeats 2000000 in
theorem sameMarks_any {M : List M3} {v1 v2 : Value} (w : World) (h1 : SlM w v1 M) (h2 : SlM w v2 M) (hl : M.length ≤ 1000) :
    Calls Tryz.prog 24 #[v1, v2] w fun e w' => e = .returned (.bool true) ∧ Below w.heap.size w w' := by
  obtain ⟨a1, c1, rfl, hl1, H1⟩ := h1
  obtain ⟨a2, c2, rfl, hl2, H2⟩ := h2
  have HC1 := Lib.hid H1
  have HC2 := Lib.hid H2
  clear H1 H2
  go_enter Tryz.func24, Tryz.ntmps24
  go_wp2_with fail
  go_loopw [5] (fun i wr => ∃ k : Nat, k ≤ M.length ∧ i = .int .i64 k ∧ Below w.heap.size w wr) (fun i _ => M.length - (intOf i).toNat)
  case atStart => exact ⟨0, Nat.zero_le _, rfl, Below.refl _ _⟩
  case round =>
    obtain ⟨k, hk, rfl, hbel⟩ := hrel
    by_cases hlt : k < M.length
    · have j1 : (k : Int) < (M.length : Int) := by omega
      obtain ⟨b1, o1, rfl, x0, x1, x2⟩ := HC1.out k hlt
      obtain ⟨b2, o2, rfl, y0, y1, y2⟩ := HC2.out k hlt
      have hq := run_mk_neq
      generalize (mq M k).x = a at x0 y0
      generalize (mq M k).y = b at x1 y1
      generalize (mq M k).z = c at x2 y2
      have G0 := grow_cell (keep_cell hbel x0)
      have G1 := grow_cell (keep_cell hbel x1)
      have G2 := grow_cell (keep_cell hbel x2)
      have G5 := grow_cell (keep_cell hbel y0)
      have G6 := grow_cell (keep_cell hbel y1)
      have G7 := grow_cell (keep_cell hbel y2)
      clear x0 x1 x2 y0 y1 y2
      go_wp2_with fail
      refine wp_region_grow (by kernel_rfl) (by kernel_rfl) ?_
      repeat (go_big_quiet_step (fail))
      refine wpQuiet_nil ?_
      rintro w4 ⟨z, hz⟩
      have hb : Below wr.heap.size wr w4 := by rw [hz]; exact z.b
      clear hz z G0 G1 G2 G5 G6 G7 hq
      have bel4 := keep_below hbel hb
      clear hb
      go_wp2
      exact ⟨⟨k + 1, by omega, by simp, bel4⟩, by simp [intOf]; omega⟩
    · obtain rfl : k = M.length := by omega
      go_wp2
      go_ret
      exact ⟨rfl, hbel⟩

set_option maxRecDepth 100000 in
set_option maxHeartbeats 4000000 in
theorem samePiece_walk (id c r m s : Int) (ag am ag' am' : Option Addr) (n gc gc' l mc mc' : Nat) (w : World)
    (CG : Hid (∀ W, Below w.heap.size w W → Calls Tryz.prog 33 #[.slice ag n gc, .slice ag' n gc'] W fun e w' => e = .returned (.bool true) ∧ Below W.heap.size W w'))
    (CM : Hid (∀ W, Below w.heap.size w W → Calls Tryz.prog 24 #[.slice am l mc, .slice am' l mc'] W fun e w' => e = .returned (.bool true) ∧ Below W.heap.size W w')) :
    Calls Tryz.prog 23 #[pcs id c r m s (.slice ag n gc) (.slice am l mc), pcs id c r m s (.slice ag' n gc') (.slice am' l mc')] w fun e w' => e = .returned (.bool true) ∧ Below w.heap.size w w' := by
  have hp : ((w.alloc (pcsObj id c r m s (.slice ag n gc) (.slice am l mc))).alloc (pcsObj id c r m s (.slice ag' n gc') (.slice am' l mc'))).heap[w.heap.size]? = some (pcsObj id c r m s (.slice ag n gc) (.slice am l mc)) := (alloc_heap_old _ _ (by simp)).trans (alloc_heap_new _ _)
  have hq : ((w.alloc (pcsObj id c r m s (.slice ag n gc) (.slice am l mc))).alloc (pcsObj id c r m s (.slice ag' n gc') (.slice am' l mc'))).heap[w.heap.size + 1]? = some (pcsObj id c r m s (.slice ag' n gc') (.slice am' l mc')) := by
    have := alloc_heap_new (w.alloc (pcsObj id c r m s (.slice ag n gc) (.slice am l mc))) (pcsObj id c r m s (.slice ag' n gc') (.slice am' l mc')); rwa [World.size_alloc] at this
  have b0 : Below w.heap.size w ((w.alloc (pcsObj id c r m s (.slice ag n gc) (.slice am l mc))).alloc (pcsObj id c r m s (.slice ag' n gc') (.slice am' l mc'))) := ((Below.refl _ _).alloc (Nat.le_refl _) _).alloc (by simp) _
  obtain ⟨W0, hW0⟩ : ∃ W0, (w.alloc (pcsObj id c r m s (.slice ag n gc) (.slice am l mc))).alloc (pcsObj id c r m s (.slice ag' n gc') (.slice am' l mc')) = W0 := ⟨_, rfl⟩
  rw [hW0] at hp hq b0
  obtain ⟨p0, p1, p2, p3, p4, p5, p6⟩ := And.intro (cell_of hp (k := 0) rfl) (And.intro (cell_of hp (k := 1) rfl) (And.intro (cell_of hp (k := 2) rfl) (And.intro (cell_of hp (k := 3) rfl) (And.intro (cell_of hp (k := 4) rfl) (And.intro (cell_of hp (k := 5) rfl) (cell_of hp (k := 6) rfl))))))
  obtain ⟨q0, q1, q2, q3, q4, q5, q6⟩ := And.intro (cell_of hq (k := 0) rfl) (And.intro (cell_of hq (k := 1) rfl) (And.intro (cell_of hq (k := 2) rfl) (And.intro (cell_of hq (k := 3) rfl) (And.intro (cell_of hq (k := 4) rfl) (And.intro (cell_of hq (k := 5) rfl) (cell_of hq (k := 6) rfl))))))
  clear hp hq
  go_enter Tryz.func23, Tryz.ntmps23
  go_wp2_with (first
    | (go_at_call 33; with_reducible refine (CG.out _ b0).mono ?_; rintro e w1 ⟨rfl, hb⟩
       have b1 := keep_below b0 hb
       replace p6 := keep_cell hb p6
       replace q6 := keep_cell hb q6)
    | (go_at_call 24; with_reducible refine (CM.out _ b1).mono ?_; rintro e w2 ⟨rfl, hb2⟩))
  go_ret
  exact ⟨rfl, keep_below b1 hb2⟩

theorem samePiece_any {d : PcD} {v1 v2 : Value} {B1 B2 : Nat} (w : World) (h1 : PcV w B1 v1 d) (h2 : PcV w B2 v2 d) (hg : d.G.length ≤ 1000) (hm : d.M.length ≤ 1000) :
    Calls Tryz.prog 23 #[v1, v2] w fun e w' => e = .returned (.bool true) ∧ Below w.heap.size w w' := by
  obtain ⟨ag, gc, am, mc, rfl, g1, m1, -⟩ := h1.shape
  obtain ⟨ag', gc', am', mc', rfl, g2, m2, -⟩ := h2.shape
  exact samePiece_walk d.id d.c d.r d.m d.s ag am ag' am' d.G.length gc gc' d.M.length mc mc' w
    (Lib.hid fun W hW => sameGauges_any W (g1.keep hW) (g2.keep hW) hg)
    (Lib.hid fun W hW => sameMarks_any W (m1.keep hW) (m2.keep hW) hm)

end Go.Proofs.YtcfapbccegijnaaGreat

/- Walks: law 4 (GlassResets). -/
namespace Go.Proofs.YtcfapbccegijnaaGreat
open Go Go.RowKit Go.Proofs Go.Abs

end Go.Proofs.YtcfapbccegijnaaGreat
