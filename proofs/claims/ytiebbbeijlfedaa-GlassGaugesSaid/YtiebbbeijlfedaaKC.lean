/- Walks: bends. -/
import Derived.Test.YtiebbbeijlfedaaKE
import Derived.Test.YtiebbbeijlfedaaA6
import Derived.RangeFuncBox
namespace Go.Proofs.Ytiebbbeijlfedaa
open Go Go.RowKit Go.Proofs Go.Shelf

/-- Which way a corner bends. -/
def bendS (xs ys : Nat → Int) (n x : Nat) : Int := if 0 < cross (xs ((x + n - 1) % n)) (ys ((x + n - 1) % n)) (xs x) (ys x) (xs ((x + 1) % n)) (ys ((x + 1) % n)) then 1 else -1

def bendL (xs ys : Nat → Int) (n : Nat) (pre : List Nat) : List Value := pre.map fun x => .int .i64 (bendS xs ys n x)

theorem KeepC.of_below_box {n B : Nat} {W W' : World} {t : TypeId} {v : Value} (h : Below n W W') (hn : n ≤ B) (h1 : Boxed W B t v) (h2 : Boxed W' B t v) : KeepC n B W W' := by
  refine ⟨h.size, fun k hk => ?_⟩
  rcases hk with hk | rfl
  · exact h.block k hk
  · exact (show W'.heap[k]? = _ from h2).trans (show W.heap[k]? = _ from h1).symm

theorem bendL_snoc (xs ys : Nat → Int) (n : Nat) (pre : List Nat) (x : Nat) : bendL xs ys n (pre ++ [x]) = bendL xs ys n pre ++ [.int .i64 (bendS xs ys n x)] := by simp [bendL]

attribute [local go_sem] Oper.semAt_some

set_option maxRecDepth 100000 in
set_option maxHeartbeats 4000000 in
theorem bends_any (b off len cap : Nat) (xs ys : Nat → Int) (hlen : len ≤ 1000000) (hsm : ∀ k, Small (xs k) ∧ Small (ys k)) (w : World)
    (hc : ∀ k, k < len → w.cell? ⟨b, off + k * 2, none⟩ = some (.int .i64 (xs k)) ∧ w.cell? ⟨b, off + k * 2 + 1, none⟩ = some (.int .i64 (ys k))) (hb : b < w.heap.size) :
    Calls Try.prog 107 #[.slice (some ⟨b, off, none⟩) len cap] w fun e w' => ∃ v, e = .returned v ∧ w'.ownsRow w.heap.size 3 1 v len (bendL xs ys len (List.range len)) ∧ Below w.heap.size w w' := by
  obtain ⟨i0, hi, hz0, hz1, hz2⟩ := info_parts info3
  refine (callsIn_wide (n := 6)).1 ?_
  have h1 : 1 ≤ 6 := by omega
  refine callsIn_of_wp_marks Try.func107 rfl trivial ?_ rfl
  simp only [Try.ntmps107, List.size_toArray, List.length_cons, List.length_nil, Nat.reduceAdd, Nat.reduceSub, Array.replicate_succ, Array.replicate_zero, List.push_toArray, List.append_toArray, List.nil_append, List.cons_append]
  gi_wp2_with (refine ⟨trivial, ?_⟩; gi_at_call 103; refine (corners_in Fence.wide 5 trivial rfl _ _ _ _).mono ?_; rintro e w' ⟨rfl, rfl⟩)
  obtain ⟨W0, hW0⟩ : ∃ W0, (w.alloc (.cells #[.slice none 0 0] 26)).alloc (.cells #[.slice (some ⟨b, off, none⟩) len cap] 34) = W0 := ⟨_, rfl⟩
  have hsz : W0.heap.size = w.heap.size + 2 := by rw [← hW0]; simp
  have bS : Boxed W0 w.heap.size 26 (.slice none 0 0) := by rw [← hW0]; exact (Boxed.new w 26 _).alloc _
  have bC : Boxed W0 (w.heap.size + 1) 34 (.slice (some ⟨b, off, none⟩) len cap) := by
    rw [← hW0]; have := Boxed.new (w.alloc (.cells #[.slice none 0 0] 26)) 34 (.slice (some ⟨b, off, none⟩) len cap); rwa [World.size_alloc] at this
  have hB0 : Below w.heap.size w W0 := by rw [← hW0]; exact ((Below.refl _ w).alloc (Nat.le_refl _) _).alloc (by simp) _
  rw [hW0]
  clear hW0
  refine wpIn_rangeFunc_ownH rfl h1 (gf := 113) (lb := #[.pointer (some ⟨w.heap.size + 1, 0, none⟩)]) rfl trivial (enters_of Try.func113 (by kernel_rfl) rfl)
    (corners_stops Fence.wide 5 trivial rfl (by omega) (w.heap.size + 1) w.heap.size b off len cap xs ys hlen hb W0 (by omega) (by omega) bC.cell (fun k hk => ⟨keep_cell hB0 (hc k hk).1, keep_cell hB0 (hc k hk).2⟩))
    KeepC.trans (fun W l o o' hl h _ _ => keepC_put (by omega) (by omega)) (Below.refl _ _) (fun _ => rfl)
    (fun pre W => (∃ v, Boxed W w.heap.size 26 v ∧ W.ownsRow w.heap.size 3 1 v pre.length (bendL xs ys len pre) ∧ True) ∧ Boxed W (w.heap.size + 1) 34 (.slice (some ⟨b, off, none⟩) len cap) ∧ Below w.heap.size w W ∧ w.heap.size + 2 ≤ W.heap.size)
    (fun _ _ _ => False)
    (OwnFrom.and (Own.from (holdsRow_own w.heap.size w.heap.size 26 3 1 List.length (bendL xs ys len) (fun _ _ => True)) _) (OwnFrom.and (Own.from (boxed_own _ _ _) _) (OwnFrom.and (ownFrom_below (Nat.le_refl _) (by omega)) (ownFrom_size _ _))))
    (fun _ _ _ _ _ hs _ _ => hs)
    ⟨⟨_, bS, World.ownsRow_nil _ _ _ _, trivial⟩, bC, hB0, by omega⟩
    (fun x a' W => ∃ Bx, w.heap.size + 1 < Bx ∧ Box6 W Bx (cnrV xs ys ((x + len - 1) % len) x ((x + 1) % len)) ∧ a' = { tmps := #[.slice (some ⟨b, off, none⟩) len cap, undef, .slice none 0 0, .pointer (some ⟨w.heap.size, 0, none⟩), undef, .pointer (some ⟨Bx, 0, none⟩), .slice (some ⟨b, off, none⟩) len cap, .func (.func 113) #[] #[.pointer (some ⟨w.heap.size + 1, 0, none⟩)], .int .i64 x, cnrV xs ys ((x + len - 1) % len) x ((x + 1) % len), undef, undef, undef, undef, undef, undef, undef, undef, undef, undef, undef, undef, undef, undef, undef], defers := [] })
    (fun x a' _ X Y row hs hg hr => by obtain ⟨Bx, h1, h2, h3⟩ := hs; exact ⟨Bx, h1, h2.own hg hr, h3⟩)
    ?assign ?body ?done ?stop
  case assign =>
    rintro l pre x W K ⟨⟨v, bS1, hr1, -⟩, bC1, hB1, hs1⟩ hK
    gi_wp2
    exact hK _ _ ((KeepsOthers.alloc _ _).from _) (KeepC.below ((Below.refl _ W).alloc (Nat.le_refl _) _) (by omega) (by omega)) ⟨⟨v, bS1.alloc _, hr1.alloc _, trivial⟩, bC1.alloc _, hB1.alloc (by omega) _, by simp; omega⟩ ⟨W.heap.size, by omega, Box6.new W _, rfl⟩
  case body =>
    rintro l pre x a' W hl _ ⟨⟨v, bS1, hr1, -⟩, bC1, hB1, hs1⟩ ⟨Bx, hBx, bX, rfl⟩ hlt
    have x0 := bX.cell (o := 0) rfl
    have x1 := bX.cell (o := 1) rfl
    have x2 := bX.cell (o := 2) rfl
    have x3 := bX.cell (o := 3) rfl
    have x4 := bX.cell (o := 4) rfl
    have x5 := bX.cell (o := 5) rfl
    have C := fun w => cross_any (xs ((x + len - 1) % len)) (ys ((x + len - 1) % len)) (xs x) (ys x) (xs ((x + 1) % len)) (ys ((x + 1) % len)) w (hsm _).1 (hsm _).2 (hsm _).1 (hsm _).2 (hsm _).1 (hsm _).2
    obtain ⟨cv, hcv⟩ : ∃ cv, cross (xs ((x + len - 1) % len)) (ys ((x + len - 1) % len)) (xs x) (ys x) (xs ((x + 1) % len)) (ys ((x + 1) % len)) = cv := ⟨_, rfl⟩
    rw [hcv] at C
    have KD : Hid (bendS xs ys len x = if 0 < cv then 1 else -1) := Lib.hid (by rw [← hcv]; rfl)
    clear hcv
    gi_wp2_with fail
    refine ⟨trivial, ?_⟩
    refine (CallsIn.inRound l (callsIn_wide.2 (C _))).mono ?_
    rintro e w' ⟨rfl, hbw⟩
    change Below W.heap.size W w' at hbw
    have bS2 := below_box hbw bS1
    have bC2 := below_box hbw bC1
    have hB2 := hB1.trans (hbw.mono hB1.size)
    have hkf := keepsFrom_below W0.heap.size hbw
    have hkc : KeepC w.heap.size (w.heap.size + 1) W w' := KeepC.below hbw (by omega) (by omega)
    have hs2 := Nat.le_trans hs1 hbw.size
    have hr2 := own_keep hr1 hbw
    have cS := bS2.cell
    have fS := bS2.frozen
    clear x0 x1 x2 x3 x4 x5 C
    by_cases hpos : 0 < cv
    · rw [if_pos hpos] at KD
      gi_wp2_with (gi_at_builtin; refine wpListIn_append_own _ rfl _ _ 26 rfl w.heap.size 3 i0 (.int .i64 0) 1 8 Try.underlying26 hi hz0 hz1 hz2 rfl (by decide) _ _ _ rfl (hr2.alloc _) ⟨w'.heap.size, 0, none⟩ 1 1 [.int .i64 (1)] rfl rfl (cell_one_new _ _ _) (by simp [Value.oneCell']) (by unfold maxLen; omega) (by omega) (by simp; omega) ?_; intro v' w3 hown' hg3 hnil3
                   obtain ⟨bx3, -, -, -, -⟩ := Boxed.appended bS2 (by decide) hr2 (by omega) (Nat.le_refl _) hown' hg3
                   obtain ⟨g', cap', hv'⟩ := ownsRow_succ hown'
                   subst hv'
                   have cS3 := bx3.cell
                   have fS3 := bx3.frozen)
      replace hg3 : (w'.alloc (.cells #[.int .i64 (1)] 3)).grownBy w3 v.ownBlock := hg3
      obtain ⟨-, k2, k3, k4, k5⟩ := Boxed.appended bS2 (by decide) hr2 (by omega) (Nat.le_refl _) hown' hg3
      have bC3 := ((bC2.alloc (.cells #[.int .i64 (1)] 3)).kept hg3 (bC2.not_row (by decide) hr2)).kept (grownBy_setCell' w3 w.heap.size (.slice (some ⟨g', 0, none⟩) (pre.length + 1) cap')) (by simp; done)
      refine ⟨hkf.trans (k4.from _), hkc.trans (KeepC.of_below_box k5 (by omega) bC2 bC3), ⟨⟨_, k2, ?_, trivial⟩, bC3, hB2.trans k5, Nat.le_trans hs2 k4.size⟩⟩
      rw [bendL_snoc, KD.out]
      simpa using k3
    · rw [if_neg hpos] at KD
      gi_wp2_with (gi_at_builtin; refine wpListIn_append_own _ rfl _ _ 26 rfl w.heap.size 3 i0 (.int .i64 0) 1 8 Try.underlying26 hi hz0 hz1 hz2 rfl (by decide) _ _ _ rfl (hr2.alloc _) ⟨w'.heap.size, 0, none⟩ 1 1 [.int .i64 (-1)] rfl rfl (cell_one_new _ _ _) (by simp [Value.oneCell']) (by unfold maxLen; omega) (by omega) (by simp; omega) ?_; intro v' w3 hown' hg3 hnil3
                   obtain ⟨bx3, -, -, -, -⟩ := Boxed.appended bS2 (by decide) hr2 (by omega) (Nat.le_refl _) hown' hg3
                   obtain ⟨g', cap', hv'⟩ := ownsRow_succ hown'
                   subst hv'
                   have cS3 := bx3.cell
                   have fS3 := bx3.frozen)
      replace hg3 : (w'.alloc (.cells #[.int .i64 (-1)] 3)).grownBy w3 v.ownBlock := hg3
      obtain ⟨-, k2, k3, k4, k5⟩ := Boxed.appended bS2 (by decide) hr2 (by omega) (Nat.le_refl _) hown' hg3
      have bC3 := ((bC2.alloc (.cells #[.int .i64 (-1)] 3)).kept hg3 (bC2.not_row (by decide) hr2)).kept (grownBy_setCell' w3 w.heap.size (.slice (some ⟨g', 0, none⟩) (pre.length + 1) cap')) (by simp; done)
      refine ⟨hkf.trans (k4.from _), hkc.trans (KeepC.of_below_box k5 (by omega) bC2 bC3), ⟨⟨_, k2, ?_, trivial⟩, bC3, hB2.trans k5, Nat.le_trans hs2 k4.size⟩⟩
      rw [bendL_snoc, KD.out]
      simpa using k3
  case done =>
    rintro D ks W hD rfl ⟨⟨v, bS1, hr1, -⟩, bC1, hB1, hs1⟩ hK
    have cS := bS1.cell
    gi_wp2
    refine ⟨by simp, .inl ⟨_, _, rfl, run_takeDeferred hK, ?_⟩⟩
    exact ⟨_, results_tmp rfl _ _ _, v, rfl, by simpa using ownsRow_putObj hr1 _ hK rfl, hB1.trans (belowK_b (w := w) (Nat.le_refl _) W D _ _ (by omega) hK rfl rfl)⟩
  case stop =>
    rintro D c pre W _ _ h _
    exact h.elim

end Go.Proofs.Ytiebbbeijlfedaa
