/- Walks: the reference's WhereIs. -/
import Derived.Test.YtdnljbdngbphnaaGreatF1
namespace Go.Proofs.YtdnljbdngbphnaaGreat
open Go Go.RowKit Go.Proofs Go.Reads

set_option maxRecDepth 100000 in
set_option maxHeartbeats 4000000 in
theorem where6_any (vw vn : Value) (L : List W7) (n : Int) (hl : L.length ≤ 1000) (w : World) (hs : SlW w vw L) :
    Calls Tryz.prog 6 #[regV vw vn, .int .i64 n] w fun e w' => e = .returned (.tuple #[agW (wfind L n).1, .int .i64 (wfind L n).2]) ∧ Below w.heap.size w w' := by
  obtain ⟨a, cap, rfl, hd⟩ := hs
  have HF := Lib.hid (fun q (hq : q < L.length) h hl => wfind_at (L := L) (n := n) (q := q) hq h hl)
  have HN := Lib.hid (fun hl => wfind_none (L := L) (n := n) hl)
  obtain ⟨M, hM⟩ : ∃ M, L.length = M := ⟨_, rfl⟩
  rw [hM] at hd hl HF HN ⊢
  have HD := Lib.hid hd
  clear hd hM
  unfold regV
  have B0 : Below w.heap.size w ((w.alloc (.cells #[.slice none 0 0, .slice a M cap, vn, .slice none 0 0, .slice none 0 0, .slice none 0 0] 30)).alloc (.cells #[.int .i64 0, .int .i64 0, .int .i64 0, .int .i64 0, .bool false, .int .i64 0, .int .i64 0] 36)) := ((Below.refl _ w).alloc (Nat.le_refl _) _).alloc (by simp) _
  have Z0 : ((w.alloc (.cells #[.slice none 0 0, .slice a M cap, vn, .slice none 0 0, .slice none 0 0, .slice none 0 0] 30)).alloc (.cells #[.int .i64 0, .int .i64 0, .int .i64 0, .int .i64 0, .bool false, .int .i64 0, .int .i64 0] 36)).heap[w.heap.size + 1]? = some (.cells #[.int .i64 0, .int .i64 0, .int .i64 0, .int .i64 0, .bool false, .int .i64 0, .int .i64 0] 36 (0, 0)) := by
    have := alloc_heap_new (w.alloc (.cells #[.slice none 0 0, .slice a M cap, vn, .slice none 0 0, .slice none 0 0, .slice none 0 0] 30)) (.cells #[.int .i64 0, .int .i64 0, .int .i64 0, .int .i64 0, .bool false, .int .i64 0, .int .i64 0] 36)
    rw [World.size_alloc] at this
    exact this
  have R0 : ((w.alloc (.cells #[.slice none 0 0, .slice a M cap, vn, .slice none 0 0, .slice none 0 0, .slice none 0 0] 30)).alloc (.cells #[.int .i64 0, .int .i64 0, .int .i64 0, .int .i64 0, .bool false, .int .i64 0, .int .i64 0] 36)).cell? ⟨w.heap.size, 1, none⟩ = some (.slice a M cap) := cell_of ((alloc_heap_old _ _ (by rw [World.size_alloc]; exact Nat.lt_succ_self _)).trans (alloc_heap_new w _)) rfl
  have HBZ := Lib.hid (And.intro B0 (And.intro Z0 R0))
  clear B0 Z0 R0
  go_enter Tryz.func6, Tryz.ntmps6
  go_wp2_with fail
  go_loopw [6] (fun i wr => ∃ q : Nat, q ≤ M ∧ i = .int .i64 q ∧ Below w.heap.size w wr ∧ wr.heap[w.heap.size + 1]? = some (.cells #[.int .i64 0, .int .i64 0, .int .i64 0, .int .i64 0, .bool false, .int .i64 0, .int .i64 0] 36 (0, 0)) ∧ wr.cell? ⟨w.heap.size, 1, none⟩ = some (.slice a M cap) ∧ NoP L n q) (fun i _ => M - (intOf i).toNat)
  case atStart => exact ⟨0, by omega, rfl, HBZ.out.1, HBZ.out.2.1, HBZ.out.2.2, fun j hj => by omega⟩
  case round =>
    clear HBZ
    obtain ⟨q, hq, rfl, hbel, hzb, hr1, hno⟩ := hrel
    by_cases hqn : q < M
    · obtain ⟨b, off, rfl, hc⟩ := HD.out (by omega)
      obtain ⟨c0, c1, c2, c3, c4, c5, c6⟩ := (hc q hqn).keep hbel
      have HFq := Lib.hid (HF.out q hqn)
      have HNq : Hid ((wq L q).p ≠ n → NoP L n (q + 1)) := Lib.hid (fun h j hj => by
        by_cases e : j < q
        · exact hno j e
        · have : j = q := by omega
          rw [this]; exact h)
      clear hc
      generalize wq L q = x at c0 c1 c2 c3 c4 c5 c6 HFq HNq
      obtain ⟨xp, xk, xa, xsh, xbk, xtb, xtn⟩ := x
      dsimp only at c0 c1 c2 c3 c4 c5 c6
      have j1 : decide ((q : Int) < (M : Int)) = true := by simp; omega
      have p0 : (q : Int) < (M : Int) := by omega
      have k1 := w64 ((q : Int) + 1) (by omega)
      have z0 : wr.cell? ⟨w.heap.size + 1, 0, none⟩ = some (.int .i64 0) := cell_of hzb rfl
      have y0 : wr.frozen? ⟨w.heap.size + 1, 0, none⟩ = false := frozen_of hzb
      have z1 : wr.cell? ⟨w.heap.size + 1, 1, none⟩ = some (.int .i64 0) := cell_of hzb rfl
      have y1 : wr.frozen? ⟨w.heap.size + 1, 1, none⟩ = false := frozen_of hzb
      have z2 : wr.cell? ⟨w.heap.size + 1, 2, none⟩ = some (.int .i64 0) := cell_of hzb rfl
      have y2 : wr.frozen? ⟨w.heap.size + 1, 2, none⟩ = false := frozen_of hzb
      have z3 : wr.cell? ⟨w.heap.size + 1, 3, none⟩ = some (.int .i64 0) := cell_of hzb rfl
      have y3 : wr.frozen? ⟨w.heap.size + 1, 3, none⟩ = false := frozen_of hzb
      have z4 : wr.cell? ⟨w.heap.size + 1, 4, none⟩ = some (.bool false) := cell_of hzb rfl
      have y4 : wr.frozen? ⟨w.heap.size + 1, 4, none⟩ = false := frozen_of hzb
      have z5 : wr.cell? ⟨w.heap.size + 1, 5, none⟩ = some (.int .i64 0) := cell_of hzb rfl
      have y5 : wr.frozen? ⟨w.heap.size + 1, 5, none⟩ = false := frozen_of hzb
      have z6 : wr.cell? ⟨w.heap.size + 1, 6, none⟩ = some (.int .i64 0) := cell_of hzb rfl
      have y6 : wr.frozen? ⟨w.heap.size + 1, 6, none⟩ = false := frozen_of hzb
      have hf : (((((((wr.setCell ⟨w.heap.size + 1, 0, none⟩ (.int .i64 xp)).setCell ⟨w.heap.size + 1, 1, none⟩ (.int .i64 xk)).setCell ⟨w.heap.size + 1, 2, none⟩ (.int .i64 xa)).setCell ⟨w.heap.size + 1, 3, none⟩ (.int .i64 xsh)).setCell ⟨w.heap.size + 1, 4, none⟩ (.bool xbk)).setCell ⟨w.heap.size + 1, 5, none⟩ (.int .i64 xtb)).setCell ⟨w.heap.size + 1, 6, none⟩ (.int .i64 xtn)).heap[w.heap.size + 1]? = some (.cells (([.int .i64 xp, .int .i64 xk, .int .i64 xa, .int .i64 xsh, .bool xbk, .int .i64 xtb, .int .i64 xtn] : List Value).toArray) 36 (0, 0)) := (setCell_heap _ (setCell_heap _ (setCell_heap _ (setCell_heap _ (setCell_heap _ (setCell_heap _ (setCell_heap _ hzb)))))))
      replace hf := Lib.hid hf
      replace hbel := Lib.hid hbel
      replace hzb := Lib.hid hzb
      replace hno := Lib.hid hno
      have hr1H := Lib.hid hr1
      clear HD HF HN
      by_cases he : xp = n
      · subst he
        have j2 : ((xp : Int) == xp) = true := by simp
        go_wp2_with fail
        have hl := run_loadVar_mid (P := Tryz.prog) _ (w.heap.size + 1) 0 36 [.int .i64 xp, .int .i64 xk, .int .i64 xa, .int .i64 xsh, .bool xbk, .int .i64 xtb, .int .i64 xtn] _ (range_of hf.out) Tryz.underlying36 rfl (by kernel_rfl)
        refine bodyPost_ret (results_cell_tmp (fn := Tryz.f6) rfl _ (by rfl) hl) rfl ?_
        rw [HFq.out (by first | rfl | trivial) hno.out]
        exact ⟨rfl, (((((((hbel.out.setCell (p := ⟨w.heap.size + 1, 0, none⟩) (Nat.le_succ _) _).setCell (p := ⟨w.heap.size + 1, 1, none⟩) (Nat.le_succ _) _).setCell (p := ⟨w.heap.size + 1, 2, none⟩) (Nat.le_succ _) _).setCell (p := ⟨w.heap.size + 1, 3, none⟩) (Nat.le_succ _) _).setCell (p := ⟨w.heap.size + 1, 4, none⟩) (Nat.le_succ _) _).setCell (p := ⟨w.heap.size + 1, 5, none⟩) (Nat.le_succ _) _).setCell (p := ⟨w.heap.size + 1, 6, none⟩) (Nat.le_succ _) _)⟩
      · have j2 : ((xp : Int) == n) = false := by simpa using he
        go_wp2_with fail
        exact ⟨⟨q + 1, hqn, by simp, hbel.out, hzb.out, hr1H.out, HNq.out he⟩, by simp [intOf]; omega⟩
    · have hqM : q = M := by omega
      subst hqM
      have j1 : decide ((q : Int) < (q : Int)) = false := by simp
      have z0 : wr.cell? ⟨w.heap.size + 1, 0, none⟩ = some (.int .i64 0) := cell_of hzb rfl
      have y0 : wr.frozen? ⟨w.heap.size + 1, 0, none⟩ = false := frozen_of hzb
      have z1 : wr.cell? ⟨w.heap.size + 1, 1, none⟩ = some (.int .i64 0) := cell_of hzb rfl
      have y1 : wr.frozen? ⟨w.heap.size + 1, 1, none⟩ = false := frozen_of hzb
      have z2 : wr.cell? ⟨w.heap.size + 1, 2, none⟩ = some (.int .i64 0) := cell_of hzb rfl
      have y2 : wr.frozen? ⟨w.heap.size + 1, 2, none⟩ = false := frozen_of hzb
      have z3 : wr.cell? ⟨w.heap.size + 1, 3, none⟩ = some (.int .i64 0) := cell_of hzb rfl
      have y3 : wr.frozen? ⟨w.heap.size + 1, 3, none⟩ = false := frozen_of hzb
      have z4 : wr.cell? ⟨w.heap.size + 1, 4, none⟩ = some (.bool false) := cell_of hzb rfl
      have y4 : wr.frozen? ⟨w.heap.size + 1, 4, none⟩ = false := frozen_of hzb
      have z5 : wr.cell? ⟨w.heap.size + 1, 5, none⟩ = some (.int .i64 0) := cell_of hzb rfl
      have y5 : wr.frozen? ⟨w.heap.size + 1, 5, none⟩ = false := frozen_of hzb
      have z6 : wr.cell? ⟨w.heap.size + 1, 6, none⟩ = some (.int .i64 0) := cell_of hzb rfl
      have y6 : wr.frozen? ⟨w.heap.size + 1, 6, none⟩ = false := frozen_of hzb
      have hf : (((((((wr.setCell ⟨w.heap.size + 1, 0, none⟩ (.int .i64 0)).setCell ⟨w.heap.size + 1, 1, none⟩ (.int .i64 0)).setCell ⟨w.heap.size + 1, 2, none⟩ (.int .i64 0)).setCell ⟨w.heap.size + 1, 3, none⟩ (.int .i64 0)).setCell ⟨w.heap.size + 1, 4, none⟩ (.bool false)).setCell ⟨w.heap.size + 1, 5, none⟩ (.int .i64 0)).setCell ⟨w.heap.size + 1, 6, none⟩ (.int .i64 0)).heap[w.heap.size + 1]? = some (.cells (([.int .i64 0, .int .i64 0, .int .i64 0, .int .i64 0, .bool false, .int .i64 0, .int .i64 0] : List Value).toArray) 36 (0, 0)) := (setCell_heap _ (setCell_heap _ (setCell_heap _ (setCell_heap _ (setCell_heap _ (setCell_heap _ (setCell_heap _ hzb)))))))
      replace hf := Lib.hid hf
      replace hbel := Lib.hid hbel
      replace hno := Lib.hid hno
      clear hzb HD HF
      go_wp2_with fail
      have hl := run_loadVar_mid (P := Tryz.prog) _ (w.heap.size + 1) 0 36 [.int .i64 0, .int .i64 0, .int .i64 0, .int .i64 0, .bool false, .int .i64 0, .int .i64 0] _ (range_of hf.out) Tryz.underlying36 rfl (by kernel_rfl)
      refine bodyPost_ret (results_cell_tmp (fn := Tryz.f6) rfl _ (by rfl) hl) rfl ?_
      rw [HN.out hno.out]
      exact ⟨rfl, (((((((hbel.out.setCell (p := ⟨w.heap.size + 1, 0, none⟩) (Nat.le_succ _) _).setCell (p := ⟨w.heap.size + 1, 1, none⟩) (Nat.le_succ _) _).setCell (p := ⟨w.heap.size + 1, 2, none⟩) (Nat.le_succ _) _).setCell (p := ⟨w.heap.size + 1, 3, none⟩) (Nat.le_succ _) _).setCell (p := ⟨w.heap.size + 1, 4, none⟩) (Nat.le_succ _) _).setCell (p := ⟨w.heap.size + 1, 5, none⟩) (Nat.le_succ _) _).setCell (p := ⟨w.heap.size + 1, 6, none⟩) (Nat.le_succ _) _)⟩

end Go.Proofs.YtdnljbdngbphnaaGreat
