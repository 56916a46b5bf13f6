/- Walks: place. -/
import Derived.Test.YtpknllbglppjcaaPA
import Derived.Test.YtpknllbglppjcaaGQ
namespace Go.Proofs.Ytpknllbglppjcaa
open Go Go.RowKit Go.Proofs Go.Abs Go.Plain Go.Shelf

theorem pb_own (b : Nat) (x y : Int) {β : Type} (B : Nat) : OwnFrom B (fun (_ : β) W => Pb W b x y) := fun _ X Y row hs hg hr =>
  (hg.block b hs.lt (fun e => by
    obtain ⟨_, o, ho, hc⟩ := hr b e.symm
    have hs' : X.heap[b]? = some (.cells #[.int .i64 x, .int .i64 y] 23 (0, 0)) := hs
    rw [hs'] at ho; cases ho; cases hc)).trans hs

attribute [local go_sem] Oper.semAt_some

set_option maxRecDepth 100000 in
set_option maxHeartbeats 8000000 in
theorem place_any (b off cap : Nat) (L : Pl) (px_ py_ : Int) (h3 : 3 ≤ L.length) (h24 : L.length ≤ 1000) (hsm : ∀ k, Small (px L k) ∧ Small (py L k)) (hp1 : Small px_) (hp2 : Small py_) (w : World) (hp : PtsAt w b off L) :
    Calls Try.prog 103 #[.slice (some ⟨b, off, none⟩) L.length cap, pt px_ py_] w fun e w' => e = .returned (.int .i64 (plV L (px_, py_))) ∧ Below w.heap.size w w' := by
  obtain ⟨len, hlen⟩ : ∃ n, L.length = n := ⟨_, rfl⟩
  have HL := Lib.hid hlen
  have HP := Lib.hid (fun k (hk : k < len) => hp k (by omega))
  have HM := Lib.hid hsm
  have HS := Lib.hid (And.intro hp1 hp2)
  have hblt := hp.lt (by omega)
  rw [hlen] at h3 h24 ⊢
  have HSB := Lib.hid (fun pre => sumW_bound L (px_, py_) pre)
  clear hp hsm hp1 hp2 hlen
  refine (callsIn_wide (n := 6)).1 ?_
  have h1 : 1 ≤ 6 := by omega
  refine callsIn_of_wp_marks Try.func103 rfl trivial ?_ rfl
  simp only [Try.ntmps103, List.size_toArray, List.length_cons, List.length_nil, Nat.reduceAdd, Nat.reduceSub, Array.replicate_succ, Array.replicate_zero, List.push_toArray, List.append_toArray, List.nil_append, List.cons_append]
  gi_wp2_with (refine ⟨trivial, ?_⟩; gi_at_call 98; refine (corners_in Fence.wide 5 trivial rfl _ _ _ _).mono ?_; rintro e w' ⟨rfl, rfl⟩)
  have s1 : ∀ (v : World) (o : Obj), (v.alloc o).heap.size = v.heap.size + 1 := fun v o => by simp
  obtain ⟨W0, hW0⟩ : ∃ W0, (((w.alloc (ptObj px_ py_)).alloc (.cells #[.int .i64 0] 3)).alloc (.cells #[.int .i64 0] 3)).alloc (.cells #[.slice (some ⟨b, off, none⟩) len cap] 32) = W0 := ⟨_, rfl⟩
  have hsz : W0.heap.size = w.heap.size + 4 := by rw [← hW0]; simp
  have bP : Pb W0 w.heap.size px_ py_ := by rw [← hW0]; exact (((Pb.new w px_ py_).alloc _).alloc _).alloc _
  have bR : Boxed W0 (w.heap.size + 1) 3 (.int .i64 0) := by
    rw [← hW0]; have := ((Boxed.new (w.alloc (ptObj px_ py_)) 3 (.int .i64 0)).alloc (.cells #[.int .i64 0] 3)).alloc (.cells #[.slice (some ⟨b, off, none⟩) len cap] 32); rwa [s1] at this
  have bS : Boxed W0 (w.heap.size + 1 + 1) 3 (.int .i64 0) := by
    rw [← hW0]; have := (Boxed.new ((w.alloc (ptObj px_ py_)).alloc (.cells #[.int .i64 0] 3)) 3 (.int .i64 0)).alloc (.cells #[.slice (some ⟨b, off, none⟩) len cap] 32); rwa [s1, s1] at this
  have bC : Boxed W0 (w.heap.size + 1 + 1 + 1) 32 (.slice (some ⟨b, off, none⟩) len cap) := by
    rw [← hW0]; have := Boxed.new (((w.alloc (ptObj px_ py_)).alloc (.cells #[.int .i64 0] 3)).alloc (.cells #[.int .i64 0] 3)) 32 (.slice (some ⟨b, off, none⟩) len cap); rwa [s1, s1, s1] at this
  have hB0 : Below w.heap.size w W0 := by rw [← hW0]; exact ((((Below.refl _ w).alloc (Nat.le_refl _) _).alloc (by simp) _).alloc (by simp; omega) _).alloc (by simp; omega) _
  rw [hW0]
  clear hW0 s1
  refine wpIn_rangeFunc_ownH rfl h1 (gf := 140) (lb := #[.pointer (some ⟨w.heap.size + 1 + 1 + 1, 0, none⟩)]) rfl trivial (enters_of Try.func140 (by kernel_rfl) rfl)
    (corners_stops Fence.wide 5 trivial rfl (by omega) (w.heap.size + 1 + 1 + 1) w.heap.size b off len cap (px L) (py L) (by omega) hblt W0 (by omega) (by omega) bC.cell (fun k hk => ⟨keep_cell hB0 (HP.out k hk).1, keep_cell hB0 (HP.out k hk).2⟩))
    KeepC.trans (fun W l o o' hl h _ _ => keepC_put (by omega) (by omega)) (Below.refl _ _) (fun _ => rfl)
    (fun pre W => (∀ x ∈ pre, onB L (px_, py_) x = false) ∧ Pb W w.heap.size px_ py_ ∧ Boxed W (w.heap.size + 1) 3 (.int .i64 0) ∧ Boxed W (w.heap.size + 1 + 1) 3 (.int .i64 (sumW L (px_, py_) pre)) ∧ Below w.heap.size w W ∧ w.heap.size + 4 ≤ W.heap.size)
    (fun c pre W => (c = .ret ∧ ∃ pre' x, pre = pre' ++ [x] ∧ onB L (px_, py_) x = true) ∧ Boxed W (w.heap.size + 1) 3 (.int .i64 0) ∧ Below w.heap.size w W)
    (OwnFrom.and (ownFrom_pure _ _) (OwnFrom.and (pb_own _ _ _ _) (OwnFrom.and (Own.from (boxed_own _ _ _) _) (OwnFrom.and (Own.from (boxed_own _ _ (fun pre => .int .i64 (sumW L (px_, py_) pre))) _) (OwnFrom.and (ownFrom_below (Nat.le_refl _) (by omega)) (ownFrom_size _ _))))))
    (fun c => OwnFrom.and (fun s X Y row hs hg hr => hs) (OwnFrom.and (Own.from (boxed_own _ _ _) _) (ownFrom_below (Nat.le_refl _) (by omega))))
    ⟨by simp, bP, bR, bS, hB0, by omega⟩
    (fun x a' W => ∃ Bx, w.heap.size + 3 < Bx ∧ Box6 W Bx (cnrV (px L) (py L) ((x + len - 1) % len) x ((x + 1) % len)) ∧ a' = { tmps := #[.slice (some ⟨b, off, none⟩) len cap, pt px_ py_, undef, .pointer (some ⟨w.heap.size, 0, none⟩), .pointer (some ⟨w.heap.size + 1, 0, none⟩), .pointer (some ⟨w.heap.size + 1 + 1, 0, none⟩), undef, .pointer (some ⟨Bx, 0, none⟩), undef, .slice (some ⟨b, off, none⟩) len cap, .func (.func 140) #[] #[.pointer (some ⟨w.heap.size + 1 + 1 + 1, 0, none⟩)], .int .i64 x, cnrV (px L) (py L) ((x + len - 1) % len) x ((x + 1) % len),
      undef, undef, undef, undef, undef, undef, undef, undef, undef, undef, undef, undef, undef, undef, undef, undef, undef, undef, undef, undef, undef, undef, undef, undef, undef, undef, undef, undef, undef, undef, undef, undef, undef, undef, undef, undef, undef, undef, undef, undef, undef, undef, undef, undef, undef, undef, undef, undef, undef, undef, undef, undef, undef, undef, undef, undef, undef], defers := [] })
    (fun x a' _ X Y row hs hg hr => by obtain ⟨Bx, h1, h2, h3⟩ := hs; exact ⟨Bx, h1, h2.own hg hr, h3⟩)
    ?assign ?body ?done ?stop
  case assign =>
    rintro l pre x W K ⟨hno, bP1, bR1, bS1, hB1, hs1⟩ hK
    gi_wp2
    exact hK _ _ ((KeepsOthers.alloc _ _).from _) (KeepC.below ((Below.refl _ W).alloc (Nat.le_refl _) _) (by omega) (by omega)) ⟨hno, bP1.alloc _, bR1.alloc _, bS1.alloc _, hB1.alloc (by omega) _, by simp; omega⟩ ⟨W.heap.size, by omega, Box6.new W _, rfl⟩
  case body =>
    rintro l pre x a' W hl _ ⟨hno, bP1, bR1, bS1, hB1, hs1⟩ ⟨Bx, hBx, bX, rfl⟩ hlt
    clear hsz
    have x2 := bX.cell (o := 2) rfl
    have x3 := bX.cell (o := 3) rfl
    have x4 := bX.cell (o := 4) rfl
    have x5 := bX.cell (o := 5) rfl
    have p0 := bP1.c0
    have p1 := bP1.c1
    have CC := fun w => cross_any (px L x) (py L x) (px L ((x + 1) % len)) (py L ((x + 1) % len)) px_ py_ w (HM.out _).1 (HM.out _).2 (HM.out _).1 (HM.out _).2 HS.out.1 HS.out.2
    have ON := fun w => onSegment_any px_ py_ (px L x) (py L x) (px L ((x + 1) % len)) (py L ((x + 1) % len)) w (HM.out _).1 (HM.out _).2 (HM.out _).1 (HM.out _).2 HS.out.1 HS.out.2
    obtain ⟨on, hon⟩ : ∃ c, onSeg px_ py_ (px L x) (py L x) (px L ((x + 1) % len)) (py L ((x + 1) % len)) = c := ⟨_, rfl⟩
    rw [hon] at ON
    have HON : Hid (onB L (px_, py_) x = on) := Lib.hid (by unfold onB; rw [HL.out]; exact hon)
    obtain ⟨sd, hsd⟩ : ∃ c, cross (px L x) (py L x) (px L ((x + 1) % len)) (py L ((x + 1) % len)) px_ py_ = c := ⟨_, rfl⟩
    rw [hsd] at CC
    have HT : Hid (sumW L (px_, py_) (pre ++ [x]) = sumW L (px_, py_) pre + cwI (px L x) (py L x) (px L ((x + 1) % len)) (py L ((x + 1) % len)) px_ py_ sd) := Lib.hid (by
      rw [sumW_snoc, HL.out, ← hsd]
      rfl)
    clear hon hsd
    have sb := HSB.out pre
    have Hno := Lib.hid hno
    clear hno
    generalize px L ((x + len - 1) % len) = xp, py L ((x + len - 1) % len) = yp at x2 x3 x4 x5 ⊢
    generalize px L x = x0, py L x = y0, px L ((x + 1) % len) = x1, py L ((x + 1) % len) = y1 at x2 x3 x4 x5 CC ON HT ⊢
    obtain ⟨s, hs⟩ : ∃ s, sumW L (px_, py_) pre = s := ⟨_, rfl⟩
    rw [hs] at sb bS1 HT
    clear hs
    have sb1 : -1000 ≤ s := by omega
    have sb2 : s ≤ 1000 := by omega
    clear sb
    gi_wp2_with fail
    refine ⟨trivial, ?_⟩
    refine (CallsIn.inRound l (callsIn_wide.2 (CC _))).mono ?_
    rintro e w1 ⟨rfl, hb⟩
    change Below W.heap.size W w1 at hb
    replace x2 := keep_cell hb x2
    replace x3 := keep_cell hb x3
    replace x4 := keep_cell hb x4
    replace x5 := keep_cell hb x5
    replace bP1 := bP1.keep hb
    replace bR1 := below_box hb bR1
    replace bS1 := below_box hb bS1
    have hkf := keepsFrom_below W0.heap.size hb
    have hkc : KeepC w.heap.size (w.heap.size + 1 + 1 + 1) W w1 := KeepC.below hb (by omega) (by omega)
    replace hB1 := hB1.trans (hb.mono hB1.size)
    replace hs1 := Nat.le_trans hs1 hb.size
    clear hb p0 p1 CC
    have p0 := bP1.c0
    have p1 := bP1.c1
    gi_wp2_with fail
    refine ⟨trivial, ?_⟩
    refine (CallsIn.inRound l (callsIn_wide.2 (ON _))).mono ?_
    rintro e w2 ⟨rfl, hb⟩
    change Below w1.heap.size w1 w2 at hb
    replace x2 := keep_cell hb x2
    replace x3 := keep_cell hb x3
    replace x4 := keep_cell hb x4
    replace x5 := keep_cell hb x5
    replace bP1 := bP1.keep hb
    replace bR1 := below_box hb bR1
    replace bS1 := below_box hb bS1
    replace hkf := hkf.trans (keepsFrom_below W0.heap.size hb)
    replace hkc := hkc.trans (KeepC.below (n := w.heap.size) (B := w.heap.size + 1 + 1 + 1) hb (by omega) (by omega))
    replace hB1 := hB1.trans (hb.mono hB1.size)
    replace hs1 := Nat.le_trans hs1 hb.size
    clear hb p0 p1 ON
    have p0 := bP1.c0
    have p1 := bP1.c1
    have cR := bR1.cell
    have fR := bR1.frozen
    have cS := bS1.cell
    have fS := bS1.frozen
    cases on
    case true =>
      gi_wp2
      exact ⟨hkf.trans ((KeepsOthers.setCell _ _ _).from _), ⟨rfl, pre, x, rfl, HON.out⟩, bR1.set _, hB1.setCell (by simp) _⟩
    have HN2 : Hid (∀ y ∈ pre ++ [x], onB L (px_, py_) y = false) := Lib.hid (fun y hy => (List.mem_append.1 hy).elim (Hno.out y) (fun e => by rw [List.mem_singleton.1 e]; exact HON.out))
    by_cases g1 : y0 ≤ py_
    · by_cases g2 : py_ < y1
      · have g3 : ¬ y1 ≤ py_ := by omega
        by_cases g4 : 0 < sd
        · gi_wp2
          have nS : ∀ v : Value, Boxed (w2.setCell ⟨w.heap.size + 1 + 1, 0, none⟩ v) (w.heap.size + 1) 3 (.int .i64 0) := fun v => (Below.heap_setCell _ _ _ _ (show w.heap.size + 1 ≠ w.heap.size + 1 + 1 by omega)).trans bR1
          refine ⟨hkf.trans ((KeepsOthers.setCell _ _ _).from _), hkc.trans (keepC_set (by show ¬ w.heap.size + 1 + 1 < w.heap.size; omega) (by show w.heap.size + 1 + 1 ≠ w.heap.size + 1 + 1 + 1; omega)), HN2.out, bP1.other _ (by omega), nS _, ?_, hB1.setCell (by show w.heap.size ≤ w.heap.size + 1 + 1; omega) _, by simpa using hs1⟩
          rw [HT.out, show cwI x0 y0 x1 y1 px_ py_ sd = 1 by unfold cwI; rw [if_pos (by omega)]]
          exact bS1.set _
        · gi_wp2
          refine ⟨hkf, hkc, HN2.out, bP1, bR1, ?_, hB1, hs1⟩
          rw [HT.out, show cwI x0 y0 x1 y1 px_ py_ sd = 0 by unfold cwI; rw [if_neg (by omega), if_neg (by omega)], Int.add_zero]
          exact bS1
      · have g3 : y1 ≤ py_ := by omega
        have g4 : ¬ py_ < y0 := by omega
        gi_wp2
        refine ⟨hkf, hkc, HN2.out, bP1, bR1, ?_, hB1, hs1⟩
        rw [HT.out, show cwI x0 y0 x1 y1 px_ py_ sd = 0 by unfold cwI; rw [if_neg (by omega), if_neg (by omega)], Int.add_zero]
        exact bS1
    · by_cases g2 : y1 ≤ py_
      · have g3 : py_ < y0 := by omega
        by_cases g4 : sd < 0
        · gi_wp2
          have nS : ∀ v : Value, Boxed (w2.setCell ⟨w.heap.size + 1 + 1, 0, none⟩ v) (w.heap.size + 1) 3 (.int .i64 0) := fun v => (Below.heap_setCell _ _ _ _ (show w.heap.size + 1 ≠ w.heap.size + 1 + 1 by omega)).trans bR1
          refine ⟨hkf.trans ((KeepsOthers.setCell _ _ _).from _), hkc.trans (keepC_set (by show ¬ w.heap.size + 1 + 1 < w.heap.size; omega) (by show w.heap.size + 1 + 1 ≠ w.heap.size + 1 + 1 + 1; omega)), HN2.out, bP1.other _ (by omega), nS _, ?_, hB1.setCell (by show w.heap.size ≤ w.heap.size + 1 + 1; omega) _, by simpa using hs1⟩
          rw [HT.out, show cwI x0 y0 x1 y1 px_ py_ sd = -1 by unfold cwI; rw [if_neg (by omega), if_pos (by omega)]]
          exact bS1.set _
        · gi_wp2
          refine ⟨hkf, hkc, HN2.out, bP1, bR1, ?_, hB1, hs1⟩
          rw [HT.out, show cwI x0 y0 x1 y1 px_ py_ sd = 0 by unfold cwI; rw [if_neg (by omega), if_neg (by omega)], Int.add_zero]
          exact bS1
      · gi_wp2
        refine ⟨hkf, hkc, HN2.out, bP1, bR1, ?_, hB1, hs1⟩
        rw [HT.out, show cwI x0 y0 x1 y1 px_ py_ sd = 0 by unfold cwI; rw [if_neg (by omega), if_neg (by omega)], Int.add_zero]
        exact bS1
  case done =>
    rintro D ks W hD rfl ⟨hno, bP1, bR1, bS1, hB1, hs1⟩ hK
    have HF : Hid (plV L (px_, py_) = if sumW L (px_, py_) (List.range len) = 0 then -1 else 1) := Lib.hid (by
      unfold plV
      rw [all_any (fun j hj => hno j (List.mem_range.2 (by rw [← HL.out]; exact hj))), HL.out]
      rfl)
    clear hno
    obtain ⟨s, hs⟩ : ∃ s, sumW L (px_, py_) (List.range len) = s := ⟨_, rfl⟩
    rw [hs] at HF bS1
    clear hs
    have cR := bR1.cell
    have fR := bR1.frozen
    have cS := bS1.cell
    by_cases hz : s = 0
    · subst hz
      gi_wp2
      have hK' := (KeepsOthers.setCell W ⟨w.heap.size + 1, 0, none⟩ (.int .i64 (-1))).same D _ hK rfl
      refine ⟨by simp, .inl ⟨_, _, rfl, run_takeDeferred hK', ?_⟩⟩
      have hc5 := cell_kept (bR1.set (.int .i64 (-1))).cell (grownBy_putObj' _ D (.deferred none)) (fun r e => by cases e; exact ⟨_, hK', rfl⟩)
      refine ⟨.int .i64 (-1), by simp [results, Try.f103, go_sem, hc5], ?_, (hB1.setCell (p := ⟨w.heap.size + 1, 0, none⟩) (by simp) _).trans (belowK_b (w := w) (Nat.le_refl _) _ D _ _ (by omega) hK' rfl rfl)⟩
      first
        | rw [HF.out, if_pos rfl]
        | rw [HF.out, if_pos trivial]
    · gi_wp2
      have hK' := (KeepsOthers.setCell W ⟨w.heap.size + 1, 0, none⟩ (.int .i64 1)).same D _ hK rfl
      refine ⟨by simp, .inl ⟨_, _, rfl, run_takeDeferred hK', ?_⟩⟩
      have hc5 := cell_kept (bR1.set (.int .i64 1)).cell (grownBy_putObj' _ D (.deferred none)) (fun r e => by cases e; exact ⟨_, hK', rfl⟩)
      refine ⟨.int .i64 1, by simp [results, Try.f103, go_sem, hc5], ?_, (hB1.setCell (p := ⟨w.heap.size + 1, 0, none⟩) (by simp) _).trans (belowK_b (w := w) (Nat.le_refl _) _ D _ _ (by omega) hK' rfl rfl)⟩
      rw [HF.out, if_neg hz]
  case stop =>
    rintro D c pre W hD ⟨k, hk, hpre⟩ ⟨⟨rfl, pre', x, h2, h4⟩, h5, hB1⟩ hK
    have hx : x < L.length := by
      have : x ∈ List.range k := by rw [← hpre, h2]; simp
      have := List.mem_range.1 this
      rw [HL.out]
      omega
    gi_wp2
    refine ⟨by simp, .inl ⟨_, _, rfl, run_takeDeferred hK, ?_⟩⟩
    have hc5 := cell_kept h5.cell (grownBy_putObj' _ D (.deferred none)) (fun r e => by cases e; exact ⟨_, hK, rfl⟩)
    refine ⟨.int .i64 0, ?_, ?_, hB1.trans (belowK_b (w := w) (Nat.le_refl _) _ D _ _ (by omega) hK rfl rfl)⟩
    · simp [results, Try.f103, go_sem, hc5]
    · unfold plV
      rw [some_any hx h4]
      rfl

end Go.Proofs.Ytpknllbglppjcaa
