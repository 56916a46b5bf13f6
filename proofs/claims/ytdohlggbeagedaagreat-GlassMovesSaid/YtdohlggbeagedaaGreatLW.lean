/- The abstract machine, part LW. -/
import Derived.StillTailTactics
import Derived.Test.YtdohlggbeagedaaGreatLV
import Derived.Maps.OwnOps
import Derived.Maps.Views
import Derived.DeepKeys4
/- Walks: normal. -/
namespace Go.Proofs.YtdohlggbeagedaaGreat
open Go Go.RowKit Go.Proofs Go.Abs Go.Plain

theorem own_capP {W : World} {base g n cap : Nat} {e : TypeId} {size : Nat} {xs : List Value} (h : W.ownsRow base e size (.slice (some ⟨g, 0, none⟩) n cap) n xs) : n ≤ cap ∧ cap ≤ maxLen ∧ base ≤ g := by
  obtain ⟨h1, ⟨h2, _⟩ | ⟨g', cap', cur, e1, e2, e3, e4, e5, e6, e7⟩⟩ := h
  · cases h2
  · cases e1
    exact ⟨e4, e5, e2⟩

theorem own_at {W : World} {base g n cap : Nat} {L : Pl} (hn : L.length = n) (h : W.ownsRow base 66 2 (.slice (some ⟨g, 0, none⟩) n cap) n (ptCells L)) : PtsAt W g 0 L := by
  subst hn
  exact fun k hk => by rw [Nat.zero_add]; exact own_pts h k hk

set_option maxRecDepth 100000 in
set_option maxHeartbeats 4000000 in
theorem normal_any (b off cap : Nat) (L : Pl) (hs : 0 < L.length) (hs2 : L.length ≤ 1000) (hsm : ∀ k, Small (px L k) ∧ Small (py L k)) (w : World) (hp : PtsAt w b off L) :
    Calls Tryz.prog 81 #[.slice (some ⟨b, off, none⟩) L.length cap] w fun e w' => ∃ v, e = .returned v ∧ w'.ownsRow w.heap.size 66 2 v L.length (ptCells (normL L)) ∧ Below w.heap.size w w' := by
  have CL := pclone_any b off cap L hs (by omega) w hp
  obtain ⟨N, hN⟩ : ∃ N, ptCells (normL L) = N := ⟨_, rfl⟩
  rw [hN]
  have HN := Lib.hid hN
  clear hN
  obtain ⟨n, hn⟩ : ∃ n, L.length = n := ⟨_, rfl⟩
  rw [hn] at hs hs2 CL ⊢
  go_enter Tryz.func81, Tryz.ntmps81
  go_wp2_with fail
  refine CL.mono ?_
  rintro e w1 ⟨v1, rfl, o1, b1⟩
  obtain ⟨g, cg, rfl⟩ := own_slice o1 hs
  clear CL
  have P1 : PtsAt w1 g 0 L := own_at hn o1
  have CD := calls_wide_doubled g 0 L.length cg (px L) (py L) (by omega) hsm w1 P1 (P1.lt (by omega))
  rw [hn] at CD
  go_wp2_with fail
  obtain ⟨s, hs'⟩ : ∃ s, sumL L = s := ⟨_, rfl⟩
  rw [show sumD (px L) (py L) n (List.range n) = s by rw [← hs', ← hn]; rfl] at CD
  refine CD.mono ?_
  rintro e w2 ⟨rfl, b2⟩
  have b2' := keep_below b1 b2
  replace o1 := own_keep o1 b2
  clear CD P1 b1 b2 hp
  by_cases hneg : s < 0
  · have HM : Hid (N = ptCells (placeL L.reverse)) := Lib.hid (by rw [← HN.out]; unfold normL; rw [hs', if_pos hneg])
    have CR := reverse_any w.heap.size g cg L (by omega) w2 (by rw [hn]; exact own_low o1 (Nat.le_refl _))
    rw [hn] at CR
    go_wp2_with fail
    refine CR.mono ?_
    rintro e w2' ⟨rfl, o1', hg1⟩
    have bR : Below w.heap.size w w2' := b2'.grown hg1 b2'.size (fun j e => by cases e; exact (own_capP o1).2.2)
    clear CR HN hsm hs' b2' o1 hg1
    have b2' := bR
    have o1 := o1'
    clear bR o1'
    have hM : L.reverse.length = n := by rw [List.length_reverse, hn]
    obtain ⟨M, hMr⟩ : ∃ M, L.reverse = M := ⟨_, rfl⟩
    rw [hMr] at o1 HM hM
    clear hMr hn
    have P2 : PtsAt w2' g 0 M := own_at hM o1
    have CM := least_any g 0 M.length cg (px M) (py M) (by omega) (by omega) w2' P2
    go_wp2_with fail
    have hkl := leastL_lt (L := M) (by omega)
    obtain ⟨k, hk⟩ : ∃ k, leastK (px M) (py M) M.length = k := ⟨_, rfl⟩
    have hpl : placeL M = M.drop k ++ M.take k := by unfold placeL; rw [hk]; rfl
    rw [hk] at hkl CM
    rw [hM] at CM hkl
    refine CM.mono ?_
    rintro e w3 ⟨rfl, b3⟩
    have b3' := keep_below b2' b3
    replace P2 := P2.keep b3
    have hcap := own_capP o1
    clear CM o1
    have j1 : (k : Int) < (n : Int) := by omega
    have j2 : (k : Int) ≤ (n : Int) := by omega
    have j3 : (k : Int) ≤ (cg : Int) := by omega
    have j4 : ¬ cg = k := by omega
    have lA : (M.drop k).length = n - k := by rw [List.length_drop, hM]
    have lB : (M.take k).length = k := by rw [List.length_take]; omega
    have P3 : PtsAt w3 g (k * 2) (M.drop k) := by
      have := pts_drop P2 k
      rwa [Nat.zero_add] at this
    have P4 : PtsAt w3 g 0 (M.take k) := pts_take P2 k
    have C := fun (w : World) (h ca cb : Nat) (c0 : w.cell? ⟨h, 0, none⟩ = some (.slice (some ⟨g, k * 2, none⟩) (n - k) ca)) (c1 : w.cell? ⟨h, 1, none⟩ = some (.slice (some ⟨g, 0, none⟩) k cb)) (hb : Below w3.heap.size w3 w) => concat_any h ca cb g (k * 2) g 0 (M.drop k) (M.take k) (by omega) (by omega) w (by rw [lA]; exact c0) (by rw [lB]; exact c1) (P3.keep hb) (P4.keep hb)
    rw [lA, lB, ← hpl, show n - k + k = n by omega, ← HM.out] at C
    have bd := Below.drew (Below.refl w3.heap.size w3)
    clear P2 P3 P4 hpl HM lA lB hcap
    go_wp2_with fail
    go_still_tail 6, (by kernel_rfl)
    change wpList _ _ _ _ _ w3.drew
    obtain ⟨w4, hw4⟩ : ∃ w4, w3.drew = w4 := ⟨_, rfl⟩
    rw [hw4] at bd ⊢
    clear hw4
    go_wp2_with fail
    have o0 : (w4.alloc (.cells #[.slice (some ⟨g, k * 2, none⟩) (n - k) (cg - k), .slice (some ⟨g, 0, none⟩) k cg] 26)).cell? ⟨w4.heap.size, 0, none⟩ = some (.slice (some ⟨g, k * 2, none⟩) (n - k) (cg - k)) := cell_at (World.alloc_heap_new _ _) rfl
    have o2 : (w4.alloc (.cells #[.slice (some ⟨g, k * 2, none⟩) (n - k) (cg - k), .slice (some ⟨g, 0, none⟩) k cg] 26)).cell? ⟨w4.heap.size, 1, none⟩ = some (.slice (some ⟨g, 0, none⟩) k cg) := cell_at (World.alloc_heap_new _ _) rfl
    have bd2 := bd.alloc bd.size (.cells #[.slice (some ⟨g, k * 2, none⟩) (n - k) (cg - k), .slice (some ⟨g, 0, none⟩) k cg] 26)
    have b5 := keep_below b3' bd2
    refine (C _ _ _ _ o0 o2 bd2).mono ?_
    rintro e w6 ⟨v6, rfl, o6, b6⟩
    have hz6 := b5.size
    clear C o0 o2 bd bd2 b3 b3'
    go_wp2
    go_ret
    exact ⟨_, rfl, own_low o6 hz6, keep_below b5 b6⟩
  · have HM : Hid (N = ptCells (placeL L)) := Lib.hid (by rw [← HN.out]; unfold normL; rw [hs', if_neg hneg])
    clear HN hsm hs'
    replace o1 := own_low o1 (Nat.le_refl w.heap.size)
    have hM := hn
    obtain ⟨M, hMr⟩ : ∃ M, L = M := ⟨_, rfl⟩
    rw [hMr] at o1 HM hM
    clear hMr hn
    have P2 : PtsAt w2 g 0 M := own_at hM o1
    have CM := least_any g 0 M.length cg (px M) (py M) (by omega) (by omega) w2 P2
    go_wp2_with fail
    have hkl := leastL_lt (L := M) (by omega)
    obtain ⟨k, hk⟩ : ∃ k, leastK (px M) (py M) M.length = k := ⟨_, rfl⟩
    have hpl : placeL M = M.drop k ++ M.take k := by unfold placeL; rw [hk]; rfl
    rw [hk] at hkl CM
    rw [hM] at CM hkl
    refine CM.mono ?_
    rintro e w3 ⟨rfl, b3⟩
    have b3' := keep_below b2' b3
    replace P2 := P2.keep b3
    have hcap := own_capP o1
    clear CM o1
    have j1 : (k : Int) < (n : Int) := by omega
    have j2 : (k : Int) ≤ (n : Int) := by omega
    have j3 : (k : Int) ≤ (cg : Int) := by omega
    have j4 : ¬ cg = k := by omega
    have lA : (M.drop k).length = n - k := by rw [List.length_drop, hM]
    have lB : (M.take k).length = k := by rw [List.length_take]; omega
    have P3 : PtsAt w3 g (k * 2) (M.drop k) := by
      have := pts_drop P2 k
      rwa [Nat.zero_add] at this
    have P4 : PtsAt w3 g 0 (M.take k) := pts_take P2 k
    have C := fun (w : World) (h ca cb : Nat) (c0 : w.cell? ⟨h, 0, none⟩ = some (.slice (some ⟨g, k * 2, none⟩) (n - k) ca)) (c1 : w.cell? ⟨h, 1, none⟩ = some (.slice (some ⟨g, 0, none⟩) k cb)) (hb : Below w3.heap.size w3 w) => concat_any h ca cb g (k * 2) g 0 (M.drop k) (M.take k) (by omega) (by omega) w (by rw [lA]; exact c0) (by rw [lB]; exact c1) (P3.keep hb) (P4.keep hb)
    rw [lA, lB, ← hpl, show n - k + k = n by omega, ← HM.out] at C
    have bd := Below.drew (Below.refl w3.heap.size w3)
    clear P2 P3 P4 hpl HM lA lB hcap
    go_wp2_with fail
    go_still_tail 6, (by kernel_rfl)
    change wpList _ _ _ _ _ w3.drew
    obtain ⟨w4, hw4⟩ : ∃ w4, w3.drew = w4 := ⟨_, rfl⟩
    rw [hw4] at bd ⊢
    clear hw4
    go_wp2_with fail
    have o0 : (w4.alloc (.cells #[.slice (some ⟨g, k * 2, none⟩) (n - k) (cg - k), .slice (some ⟨g, 0, none⟩) k cg] 26)).cell? ⟨w4.heap.size, 0, none⟩ = some (.slice (some ⟨g, k * 2, none⟩) (n - k) (cg - k)) := cell_at (World.alloc_heap_new _ _) rfl
    have o2 : (w4.alloc (.cells #[.slice (some ⟨g, k * 2, none⟩) (n - k) (cg - k), .slice (some ⟨g, 0, none⟩) k cg] 26)).cell? ⟨w4.heap.size, 1, none⟩ = some (.slice (some ⟨g, 0, none⟩) k cg) := cell_at (World.alloc_heap_new _ _) rfl
    have bd2 := bd.alloc bd.size (.cells #[.slice (some ⟨g, k * 2, none⟩) (n - k) (cg - k), .slice (some ⟨g, 0, none⟩) k cg] 26)
    have b5 := keep_below b3' bd2
    refine (C _ _ _ _ o0 o2 bd2).mono ?_
    rintro e w6 ⟨v6, rfl, o6, b6⟩
    have hz6 := b5.size
    clear C o0 o2 bd bd2 b3 b3'
    go_wp2
    go_ret
    exact ⟨_, rfl, own_low o6 hz6, keep_below b5 b6⟩

end Go.Proofs.YtdohlggbeagedaaGreat

/- Walks: numbers. -/
namespace Go.Proofs.YtdohlggbeagedaaGreat
open Go Go.RowKit Go.Proofs Go.Abs Go.Plain Go.Maps Go.WideShapes

theorem t_laidOut : laidOutB Tryz.prog = true := by kernel_rfl
theorem t_row23 : (66 : TypeId) < Tryz.prog.types.size := of_decide_eq_true (by kernel_rfl)
theorem t_wide : (match Tryz.prog.underlying 66 with | some (.array _ _) | some (.struct _) => true | _ => false) = true := by rw [Tryz.underlying66]
set_option maxRecDepth 100000 in
theorem ptLaw : Keyed Tryz.prog 66 := Keyed.of_law (deep_law_laid t_laidOut (m := 2) (by omega) t_row23 (by kernel_rfl) t_wide)

/-- What a point reads as, as a key. -/
def klP (p : Int × Int) : Lit := .string (keyBytes [.int .i64 p.1, .int .i64 p.2])

theorem small_wf {x : Int} (h : Small x) : (Lit.int .i64 x).wf = true := by
  have e1 : IntKind.i64.min = -9223372036854775808 := by decide
  have e2 : IntKind.i64.max = 9223372036854775807 := by decide
  unfold Small at h
  simp [Lit.wf, e1, e2]
  omega

theorem t_keyType : Tryz.prog.keyType 66 = true := by kernel_rfl
theorem t_size : ∃ m, Tryz.prog.types.size = m + 1 := ⟨Tryz.prog.types.size - 1, by kernel_rfl⟩
theorem t_cells23 : Tryz.prog.cellsOf 66 = 2 := by kernel_rfl
theorem t_cells3 : Tryz.prog.cellsOf 3 = 1 := by kernel_rfl

theorem key_pt {x y : Int} (hx : Small x) (hy : Small y) : keyOf Tryz.prog 66 (pt x y) = some (klP (x, y)) := by
  have wx := small_wf hx
  have wy := small_wf hy
  obtain ⟨m, hm⟩ := t_size
  have hf : (pt x y).formed Tryz.prog 66 = true := by simp [Value.formed, Tryz.underlying66, t_cells23]
  unfold keyOf
  simp only [Tryz.underlying66]
  rw [t_keyType, hf, hm]
  simp only [Bool.and_self, if_true]
  unfold Program.keyLits
  simp only [Tryz.underlying66, Value.cells, t_cells23]
  simp [Program.keyLits, Tryz.underlying3, t_cells3, wx, wy, klP]

theorem klP_inj {p q : Int × Int} (hp : Small p.1 ∧ Small p.2) (hq : Small q.1 ∧ Small q.2) (h : klP p = klP q) : p = q := by
  have e := ptLaw.inj (key_pt hp.1 hp.2) (by rw [show klP (p.1, p.2) = klP (q.1, q.2) from h]; exact key_pt hq.1 hq.2)
  obtain ⟨a, b⟩ := p
  obtain ⟨c, d⟩ := q
  simpa using e

/-- The numbers of the first k points. -/
def numD (L : Pl) : Nat → DataW Unit
  | 0 => .map []
  | k + 1 => (numD L k).put (klP (L.getD k (0, 0))) (.lit (.int .i64 (k : Nat)))

theorem numD_map (L : Pl) : ∀ k, IsMap (numD L k)
  | 0 => isMap_empty
  | k + 1 => (numD_map L k).put _ _

theorem numD_at {L : Pl} (hA : Apart L) (hs : ∀ k, Small (px L k) ∧ Small (py L k)) (z : DataW Unit) {i : Nat} : ∀ k, k ≤ L.length → i < k → (numD L k).atKey (klP (L.getD i (0, 0))) z = .lit (.int .i64 (i : Nat))
  | 0, _, h => by omega
  | k + 1, hk, h => by
    unfold numD
    by_cases hik : i = k
    · subst hik
      exact atKey_put_same (numD_map L i) (ptLaw.key (key_pt (hs i).1 (hs i).2)) _ _
    · rw [atKey_put_other (fun e => hik (hA.eq (by omega) (by omega) (klP_inj (hs i) (hs k) e)))]
      exact numD_at hA hs z k (by omega) (by omega)

theorem t_zero3 (w : World) : (zeroValue 3).run Tryz.prog w = .ok (.int .i64 0) w := by kernel_rfl

set_option maxRecDepth 100000 in
set_option maxHeartbeats 2000000 in
theorem numbers_any (b off cap : Nat) (L : Pl) (hl : L.length ≤ 1000) (hsm : ∀ k, Small (px L k) ∧ Small (py L k)) (w : World) (hp : PtsAt w b off L) :
    Calls Tryz.prog 82 #[.slice (some ⟨b, off, none⟩) L.length cap] w fun e w' => e = .returned (.map (some w.heap.size)) ∧ w'.ownsMap Tryz.prog 66 (plainElem Tryz.prog 3) w.heap.size L.length (numD L L.length) ∧ Below w.heap.size w w' := by
  have hmm := @run_makeMap Tryz.prog
  have HC := Lib.hid hp
  have HK : Hid (∀ k, numD L (k + 1) = (numD L k).put (klP (px L k, py L k)) (.lit (.int .i64 (k : Nat)))) := Lib.hid fun k => rfl
  have HKL := Lib.hid (fun k => key_pt (hsm k).1 (hsm k).2)
  clear hp hsm
  go_enter Tryz.func82, Tryz.ntmps82
  go_wp2_with fail
  go_loopw [9] (fun i wr => ∃ k : Nat, k ≤ L.length ∧ i = .int .i64 k ∧ wr.ownsMap Tryz.prog 66 (plainElem Tryz.prog 3) w.heap.size k (numD L k) ∧ Below w.heap.size w wr) (fun i _ => L.length - (intOf i).toNat)
  case atStart => exact ⟨0, Nat.zero_le _, rfl, World.ownsMap_made _ _ _ _, (Below.refl _ _).alloc (Nat.le_refl _) _⟩
  case round =>
    obtain ⟨k, hk, rfl, hown, hbel⟩ := hrel
    by_cases hlt : k < L.length
    · have j1 : (k : Int) < (L.length : Int) := by omega
      have a0 := keep_cell hbel (HC.out k hlt).1
      have a1 := keep_cell hbel (HC.out k hlt).2
      have HK1 := Lib.hid (HK.out k)
      have HKL1 := Lib.hid (HKL.out k)
      have WF := WalkArith.wf_i64 (n := (k : Int)) (by omega)
      obtain ⟨x0, hx⟩ : ∃ x, px L k = x := ⟨_, rfl⟩
      obtain ⟨y0, hy⟩ : ∃ y, py L k = y := ⟨_, rfl⟩
      rw [hx] at a0 HK1 HKL1
      rw [hy] at a1 HK1 HKL1
      clear hx hy
      have hown2 := hown.alloc (ptObj x0 y0)
      have q := Pb.new wr x0 y0
      have c0 := q.c0
      have c1 := q.c1
      have hs1 := hbel.size
      go_wp2_with (at_mapUpdate; refine wpList_mapUpdate_own _ rfl _ _ _ 118 rfl 66 3 ptLaw Tryz.underlying118 _ w.heap.size k (numD L k) rfl hown2 (by unfold maxLen; omega) _ _ _ rfl rfl HKL1.out _ [] (plainElem_int Tryz.underlying3 WF) ?_; intro w1 hown1 hgrow1)
      refine ⟨⟨k + 1, by omega, by simp, ?_, (hbel.alloc hs1 _).grown hgrow1 (by simp; omega) (fun j e => by cases e; exact Nat.le_refl _)⟩, by simp [intOf]; omega⟩
      rw [HK1.out]
      exact hown1
    · obtain rfl : k = L.length := by omega
      go_wp2
      go_ret
      exact ⟨rfl, hown, hbel⟩

end Go.Proofs.YtdohlggbeagedaaGreat
