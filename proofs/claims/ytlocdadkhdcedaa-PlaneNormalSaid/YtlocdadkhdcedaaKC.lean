/- The abstract machine, part KC. -/
import Derived.Test.YtlocdadkhdcedaaKE
import Derived.RangeFuncBox
import Derived.Test.YtlocdadkhdcedaaGA
import Derived.Laws.OwnMore
/- Walks: bends. -/
namespace Go.Proofs.Ytlocdadkhdcedaa
open Go Go.RowKit Go.Proofs Go.Shelf

theorem info3 : (Try.prog.info? 3).map (fun i => (i.zero, i.size, i.bytes)) = some (some (.int .i64 0), 1, 8) := by kernel_rfl

/-- Which way a corner bends. -/
def bendS (xs ys : Nat → Int) (n x : Nat) : Int := if 0 < cross (xs ((x + n - 1) % n)) (ys ((x + n - 1) % n)) (xs x) (ys x) (xs ((x + 1) % n)) (ys ((x + 1) % n)) then 1 else -1

def bendL (xs ys : Nat → Int) (n : Nat) (pre : List Nat) : List Value := pre.map fun x => .int .i64 (bendS xs ys n x)

theorem grown_below {w w' : World} (h : Below w.heap.size w w') : w.grownBy w' none := ⟨h.os, h.tape, h.output, h.size, fun k hk _ => h.block k hk⟩

theorem own_keep {w w' : World} {B e size n : Nat} {v : Value} {xs : List Value} (h : w.ownsRow B e size v n xs) (hb : Below w.heap.size w w') : w'.ownsRow B e size v n xs := by
  refine h.kept (grown_below hb) ?_
  rcases h.2 with ⟨rfl, _⟩ | ⟨g, cap, cur, rfl, _⟩
  · exact .inl rfl
  · exact .inr (by simp [Value.ownBlock])

theorem KeepC.of_below_box {n B : Nat} {W W' : World} {t : TypeId} {v : Value} (h : Below n W W') (hn : n ≤ B) (h1 : Boxed W B t v) (h2 : Boxed W' B t v) : KeepC n B W W' := by
  refine ⟨h.size, fun k hk => ?_⟩
  rcases hk with hk | rfl
  · exact h.block k hk
  · exact (show W'.heap[k]? = _ from h2).trans (show W.heap[k]? = _ from h1).symm

theorem bendL_snoc (xs ys : Nat → Int) (n : Nat) (pre : List Nat) (x : Nat) : bendL xs ys n (pre ++ [x]) = bendL xs ys n pre ++ [.int .i64 (bendS xs ys n x)] := by simp [bendL]

attribute [local go_sem] Oper.semAt_some

set_option maxRecDepth 100000 in
set_option maxHeartbeats 4000000 in
theorem bends_any (b off len cap : Nat) (xs ys : Nat → Int) (hlen : len ≤ 1000000) (hsm : ∀ k, Small (xs k) ∧ Small (ys k)) (w : World)
    (hc : ∀ k, k < len → w.cell? ⟨b, off + k * 2, none⟩ = some (.int .i64 (xs k)) ∧ w.cell? ⟨b, off + k * 2 + 1, none⟩ = some (.int .i64 (ys k))) (hb : b < w.heap.size) :
    Calls Try.prog 97 #[.slice (some ⟨b, off, none⟩) len cap] w fun e w' => ∃ v, e = .returned v ∧ w'.ownsRow w.heap.size 3 1 v len (bendL xs ys len (List.range len)) ∧ Below w.heap.size w w' := by
  obtain ⟨i0, hi, hz0, hz1, hz2⟩ := info_parts info3
  refine (callsIn_wide (n := 6)).1 ?_
  have h1 : 1 ≤ 6 := by omega
  refine callsIn_of_wp_marks Try.func97 rfl trivial ?_ rfl
  simp only [Try.ntmps97, List.size_toArray, List.length_cons, List.length_nil, Nat.reduceAdd, Nat.reduceSub, Array.replicate_succ, Array.replicate_zero, List.push_toArray, List.append_toArray, List.nil_append, List.cons_append]
  gi_wp2_with (refine ⟨trivial, ?_⟩; gi_at_call 98; refine (corners_in Fence.wide 5 trivial rfl _ _ _ _).mono ?_; rintro e w' ⟨rfl, rfl⟩)
  obtain ⟨W0, hW0⟩ : ∃ W0, (w.alloc (.cells #[.slice none 0 0] 38)).alloc (.cells #[.slice (some ⟨b, off, none⟩) len cap] 32) = W0 := ⟨_, rfl⟩
  have hsz : W0.heap.size = w.heap.size + 2 := by rw [← hW0]; simp
  have bS : Boxed W0 w.heap.size 38 (.slice none 0 0) := by rw [← hW0]; exact (Boxed.new w 38 _).alloc _
  have bC : Boxed W0 (w.heap.size + 1) 32 (.slice (some ⟨b, off, none⟩) len cap) := by
    rw [← hW0]; have := Boxed.new (w.alloc (.cells #[.slice none 0 0] 38)) 32 (.slice (some ⟨b, off, none⟩) len cap); rwa [World.size_alloc] at this
  have hB0 : Below w.heap.size w W0 := by rw [← hW0]; exact ((Below.refl _ w).alloc (Nat.le_refl _) _).alloc (by simp) _
  rw [hW0]
  clear hW0
  refine wpIn_rangeFunc_ownH rfl h1 (gf := 140) (lb := #[.pointer (some ⟨w.heap.size + 1, 0, none⟩)]) rfl trivial (enters_of Try.func140 (by kernel_rfl) rfl)
    (corners_stops Fence.wide 5 trivial rfl (by omega) (w.heap.size + 1) w.heap.size b off len cap xs ys hlen hb W0 (by omega) (by omega) bC.cell (fun k hk => ⟨keep_cell hB0 (hc k hk).1, keep_cell hB0 (hc k hk).2⟩))
    KeepC.trans (fun W l o o' hl h _ _ => keepC_put (by omega) (by omega)) (Below.refl _ _) (fun _ => rfl)
    (fun pre W => (∃ v, Boxed W w.heap.size 38 v ∧ W.ownsRow w.heap.size 3 1 v pre.length (bendL xs ys len pre) ∧ True) ∧ Boxed W (w.heap.size + 1) 32 (.slice (some ⟨b, off, none⟩) len cap) ∧ Below w.heap.size w W ∧ w.heap.size + 2 ≤ W.heap.size)
    (fun _ _ _ => False)
    (OwnFrom.and (Own.from (holdsRow_own w.heap.size w.heap.size 38 3 1 List.length (bendL xs ys len) (fun _ _ => True)) _) (OwnFrom.and (Own.from (boxed_own _ _ _) _) (OwnFrom.and (ownFrom_below (Nat.le_refl _) (by omega)) (ownFrom_size _ _))))
    (fun _ _ _ _ _ hs _ _ => hs)
    ⟨⟨_, bS, World.ownsRow_nil _ _ _ _, trivial⟩, bC, hB0, by omega⟩
    (fun x a' W => ∃ Bx, w.heap.size + 1 < Bx ∧ Box6 W Bx (cnrV xs ys ((x + len - 1) % len) x ((x + 1) % len)) ∧ a' = { tmps := #[.slice (some ⟨b, off, none⟩) len cap, undef, .slice none 0 0, .pointer (some ⟨w.heap.size, 0, none⟩), undef, .pointer (some ⟨Bx, 0, none⟩), .slice (some ⟨b, off, none⟩) len cap, .func (.func 140) #[] #[.pointer (some ⟨w.heap.size + 1, 0, none⟩)], .int .i64 x, cnrV xs ys ((x + len - 1) % len) x ((x + 1) % len), undef, undef, undef, undef, undef, undef, undef, undef, undef, undef, undef, undef, undef, undef, undef], defers := [] })
    (fun x a' _ X Y row hs hg hr => by obtain ⟨Bx, h1, h2, h3⟩ := hs; exact ⟨Bx, h1, h2.own hg hr, h3⟩)
    ?assign ?body ?done ?stop
  case assign =>
    rintro l pre x W K ⟨⟨v, bS1, hr1, -⟩, bC1, hB1, hs1⟩ hK
    gi_wp2
    exact hK _ _ ((KeepsOthers.alloc _ _).from _) (KeepC.below ((Below.refl _ W).alloc (Nat.le_refl _) _) (by omega) (by omega)) ⟨⟨v, bS1.alloc _, hr1.alloc _, trivial⟩, bC1.alloc _, hB1.alloc (by omega) _, by simp; omega⟩ ⟨W.heap.size, by omega, Box6.new W _, rfl⟩
  case body =>
    rintro l pre x a' W hl _ ⟨⟨v, bS1, hr1, -⟩, bC1, hB1, hs1⟩ ⟨Bx, hBx, bX, rfl⟩ hlt
    have x0 := bX.cell (o := 0) rfl
    have x1 := bX.cell (o := 1) rfl
    have x2 := bX.cell (o := 2) rfl
    have x3 := bX.cell (o := 3) rfl
    have x4 := bX.cell (o := 4) rfl
    have x5 := bX.cell (o := 5) rfl
    have C := fun w => cross_any (xs ((x + len - 1) % len)) (ys ((x + len - 1) % len)) (xs x) (ys x) (xs ((x + 1) % len)) (ys ((x + 1) % len)) w (hsm _).1 (hsm _).2 (hsm _).1 (hsm _).2 (hsm _).1 (hsm _).2
    obtain ⟨cv, hcv⟩ : ∃ cv, cross (xs ((x + len - 1) % len)) (ys ((x + len - 1) % len)) (xs x) (ys x) (xs ((x + 1) % len)) (ys ((x + 1) % len)) = cv := ⟨_, rfl⟩
    rw [hcv] at C
    have KD : Hid (bendS xs ys len x = if 0 < cv then 1 else -1) := Lib.hid (by rw [← hcv]; rfl)
    clear hcv
    gi_wp2_with fail
    refine ⟨trivial, ?_⟩
    refine (CallsIn.inRound l (callsIn_wide.2 (C _))).mono ?_
    rintro e w' ⟨rfl, hbw⟩
    change Below W.heap.size W w' at hbw
    have bS2 := below_box hbw bS1
    have bC2 := below_box hbw bC1
    have hB2 := hB1.trans (hbw.mono hB1.size)
    have hkf := keepsFrom_below W0.heap.size hbw
    have hkc : KeepC w.heap.size (w.heap.size + 1) W w' := KeepC.below hbw (by omega) (by omega)
    have hs2 := Nat.le_trans hs1 hbw.size
    have hr2 := own_keep hr1 hbw
    have cS := bS2.cell
    have fS := bS2.frozen
    clear x0 x1 x2 x3 x4 x5 C
    by_cases hpos : 0 < cv
    · rw [if_pos hpos] at KD
      gi_wp2_with (gi_at_builtin; refine wpListIn_append_own _ rfl _ _ 38 rfl w.heap.size 3 i0 (.int .i64 0) 1 8 Try.underlying38 hi hz0 hz1 hz2 rfl (by decide) _ _ _ rfl (hr2.alloc _) ⟨w'.heap.size, 0, none⟩ 1 1 [.int .i64 (1)] rfl rfl (cell_one_new _ _ _) (by simp [Value.oneCell']) (by unfold maxLen; omega) (by omega) (by simp; omega) ?_; intro v' w3 hown' hg3 hnil3
                   obtain ⟨bx3, -, -, -, -⟩ := Boxed.appended bS2 (by decide) hr2 (by omega) (Nat.le_refl _) hown' hg3
                   obtain ⟨g', cap', hv'⟩ := ownsRow_succ hown'
                   subst hv'
                   have cS3 := bx3.cell
                   have fS3 := bx3.frozen)
      replace hg3 : (w'.alloc (.cells #[.int .i64 (1)] 3)).grownBy w3 v.ownBlock := hg3
      obtain ⟨-, k2, k3, k4, k5⟩ := Boxed.appended bS2 (by decide) hr2 (by omega) (Nat.le_refl _) hown' hg3
      have bC3 := ((bC2.alloc (.cells #[.int .i64 (1)] 3)).kept hg3 (bC2.not_row (by decide) hr2)).kept (grownBy_setCell' w3 w.heap.size (.slice (some ⟨g', 0, none⟩) (pre.length + 1) cap')) (by simp; done)
      refine ⟨hkf.trans (k4.from _), hkc.trans (KeepC.of_below_box k5 (by omega) bC2 bC3), ⟨⟨_, k2, ?_, trivial⟩, bC3, hB2.trans k5, Nat.le_trans hs2 k4.size⟩⟩
      rw [bendL_snoc, KD.out]
      simpa using k3
    · rw [if_neg hpos] at KD
      gi_wp2_with (gi_at_builtin; refine wpListIn_append_own _ rfl _ _ 38 rfl w.heap.size 3 i0 (.int .i64 0) 1 8 Try.underlying38 hi hz0 hz1 hz2 rfl (by decide) _ _ _ rfl (hr2.alloc _) ⟨w'.heap.size, 0, none⟩ 1 1 [.int .i64 (-1)] rfl rfl (cell_one_new _ _ _) (by simp [Value.oneCell']) (by unfold maxLen; omega) (by omega) (by simp; omega) ?_; intro v' w3 hown' hg3 hnil3
                   obtain ⟨bx3, -, -, -, -⟩ := Boxed.appended bS2 (by decide) hr2 (by omega) (Nat.le_refl _) hown' hg3
                   obtain ⟨g', cap', hv'⟩ := ownsRow_succ hown'
                   subst hv'
                   have cS3 := bx3.cell
                   have fS3 := bx3.frozen)
      replace hg3 : (w'.alloc (.cells #[.int .i64 (-1)] 3)).grownBy w3 v.ownBlock := hg3
      obtain ⟨-, k2, k3, k4, k5⟩ := Boxed.appended bS2 (by decide) hr2 (by omega) (Nat.le_refl _) hown' hg3
      have bC3 := ((bC2.alloc (.cells #[.int .i64 (-1)] 3)).kept hg3 (bC2.not_row (by decide) hr2)).kept (grownBy_setCell' w3 w.heap.size (.slice (some ⟨g', 0, none⟩) (pre.length + 1) cap')) (by simp; done)
      refine ⟨hkf.trans (k4.from _), hkc.trans (KeepC.of_below_box k5 (by omega) bC2 bC3), ⟨⟨_, k2, ?_, trivial⟩, bC3, hB2.trans k5, Nat.le_trans hs2 k4.size⟩⟩
      rw [bendL_snoc, KD.out]
      simpa using k3
  case done =>
    rintro D ks W hD rfl ⟨⟨v, bS1, hr1, -⟩, bC1, hB1, hs1⟩ hK
    have cS := bS1.cell
    gi_wp2
    refine ⟨by simp, .inl ⟨_, _, rfl, run_takeDeferred hK, ?_⟩⟩
    exact ⟨_, results_tmp rfl _ _ _, v, rfl, by simpa using ownsRow_putObj hr1 _ hK rfl, hB1.trans (belowK_b (w := w) (Nat.le_refl _) W D _ _ (by omega) hK rfl rfl)⟩
  case stop =>
    rintro D c pre W _ _ h _
    exact h.elim

end Go.Proofs.Ytlocdadkhdcedaa

/- Walks: laid. -/
namespace Go.Proofs.Ytlocdadkhdcedaa
open Go Go.RowKit Go.Proofs

/-- The corner on which a setting lays a corner. -/
def layI (s : Int) (b : Bool) (n i : Int) : Int := if b then (if Plain.ed s true n i + 1 < n then Plain.ed s true n i + 1 else 0) else Plain.ed s false n i

theorem layI_range {s n i : Int} {b : Bool} (h1 : 0 ≤ s) (h2 : s < n) (h3 : 0 ≤ i) (h4 : i < n) : 0 ≤ layI s b n i ∧ layI s b n i < n := by
  have a1 := Plain.ed_range (b := true) h1 h2 h3 h4
  have a2 := Plain.ed_range (b := false) h1 h2 h3 h4
  unfold layI
  cases b <;> simp <;> (try split) <;> omega

set_option maxHeartbeats 1000000 in
theorem laid_any (s n i : Int) (b : Bool) (w : World) (h0 : 3 ≤ n) (hn : n ≤ 24) (h1 : 0 ≤ s) (h2 : s < n) (h3 : 0 ≤ i) (h4 : i < n) :
    Calls Try.prog 143 #[st s b, .int .i64 n, .int .i64 i] w fun e w' => e = .returned (.int .i64 (layI s b n i)) ∧ Below w.heap.size w w' := by
  have C := fun w => edge_any s n i b w h0 hn h1 h2 h3 h4
  have R := Plain.ed_range (b := b) h1 h2 h3 h4
  cases b
  · obtain ⟨e, he⟩ : ∃ e, Plain.ed s false n i = e := ⟨_, rfl⟩
    rw [he] at C R
    have E : layI s false n i = e := by unfold layI; simp [he]
    rw [E]
    clear he E
    go_enter Try.func143, Try.ntmps143
    go_wp2_with fail
    have n1 := st_new w s false
    refine (C _).mono ?_
    rintro _ w1 ⟨rfl, hb⟩
    have kb := keep_below ((Below.refl _ _).alloc (Nat.le_refl _) (stObj s false)) hb
    clear hb n1 C
    go_wp2
    go_ret
    exact ⟨rfl, kb⟩
  · obtain ⟨e, he⟩ : ∃ e, Plain.ed s true n i = e := ⟨_, rfl⟩
    rw [he] at C R
    have E : (e + 1) % n = layI s true n i := by
      unfold layI
      simp only [if_true, he]
      split
      · rw [Plain.mod_lo] <;> omega
      · rw [show e + 1 = n by omega]; simp
    obtain ⟨r, hr⟩ : ∃ r, layI s true n i = r := ⟨_, rfl⟩
    rw [hr] at E ⊢
    have E2 : (e + 1).tmod n = r := by rw [← E, Int.tmod_eq_emod_of_nonneg (by omega)]
    have hn0 : ¬ n = 0 := by omega
    clear he hr
    go_enter Try.func143, Try.ntmps143
    go_wp2_with fail
    refine (C _).mono ?_
    rintro _ w1 ⟨rfl, hb⟩
    have kb := keep_below ((Below.refl _ _).alloc (Nat.le_refl _) (stObj s true)) hb
    clear hb C
    go_wp2
    go_ret
    exact ⟨rfl, kb⟩

end Go.Proofs.Ytlocdadkhdcedaa

/- Walks: congruent. -/
namespace Go.Proofs.Ytlocdadkhdcedaa
open Go Go.RowKit Go.Proofs

def layN (n s : Nat) (b : Bool) (i : Nat) : Nat := (layI s b n i).toNat

theorem layN_int {n s i : Nat} {b : Bool} (hs : s < n) (hi : i < n) : (layN n s b i : Int) = layI s b n i := by
  have := layI_range (s := s) (n := n) (i := i) (b := b) (by omega) (by omega) (by omega) (by omega)
  unfold layN
  omega

theorem layN_lt {n s i : Nat} {b : Bool} (hs : s < n) (hi : i < n) : layN n s b i < n := by
  have := layI_range (s := s) (n := n) (i := i) (b := b) (by omega) (by omega) (by omega) (by omega)
  unfold layN
  omega

/-- Do the corners i and k lie as they must? -/
def congSq (xp yp xq yq : Nat → Int) (n s : Nat) (b : Bool) (i k : Nat) : Prop := square (xp i) (yp i) (xp k) (yp k) = square (xq (layN n s b i)) (yq (layN n s b i)) (xq (layN n s b k)) (yq (layN n s b k))
def congBd (xp yp xq yq : Nat → Int) (n s : Nat) (b : Bool) (i : Nat) : Prop := bendS xp yp n i = bendS xq yq n (layN n s b i)
instance (xp yp xq yq : Nat → Int) (n s : Nat) (b : Bool) (i k : Nat) : Decidable (congSq xp yp xq yq n s b i k) := by unfold congSq; infer_instance
instance (xp yp xq yq : Nat → Int) (n s : Nat) (b : Bool) (i : Nat) : Decidable (congBd xp yp xq yq n s b i) := by unfold congBd; infer_instance
def congS (xp yp xq yq : Nat → Int) (n s : Nat) (b : Bool) : Bool := decide (∀ i, i < n → congBd xp yp xq yq n s b i ∧ ∀ k, k < i → congSq xp yp xq yq n s b i k)

theorem own_slice {W : World} {base : Nat} {e : TypeId} {size : Nat} {v : Value} {n : Nat} {xs : List Value} (h : W.ownsRow base e size v n xs) (hn : 0 < n) : ∃ g cap, v = .slice (some ⟨g, 0, none⟩) n cap := by
  obtain ⟨m, rfl⟩ : ∃ m, n = m + 1 := ⟨n - 1, by omega⟩
  exact ownsRow_succ h

theorem own_bend {W : World} {base g n cap : Nat} {xs ys : Nat → Int} (h : W.ownsRow base 3 1 (.slice (some ⟨g, 0, none⟩) n cap) n (bendL xs ys n (List.range n))) : ∀ j, j < n → W.cell? ⟨g, j, none⟩ = some (.int .i64 (bendS xs ys n j)) := by
  intro j hj
  rw [h.cellAt j (by omega)]
  unfold bendL
  rw [List.getElem?_map, List.getElem?_range hj]
  rfl

set_option maxRecDepth 100000 in
set_option maxHeartbeats 8000000 in
theorem congruent_any (bp op cp bq oq cq n : Nat) (xp yp xq yq : Nat → Int) (h3 : 3 ≤ n) (h24 : n ≤ 24) (smp : ∀ k, Small (xp k) ∧ Small (yp k)) (smq : ∀ k, Small (xq k) ∧ Small (yq k)) (s : Nat) (hs : s < n) (bb : Bool) (w : World)
    (hcp : ∀ k, k < n → w.cell? ⟨bp, op + k * 2, none⟩ = some (.int .i64 (xp k)) ∧ w.cell? ⟨bp, op + k * 2 + 1, none⟩ = some (.int .i64 (yp k)))
    (hcq : ∀ k, k < n → w.cell? ⟨bq, oq + k * 2, none⟩ = some (.int .i64 (xq k)) ∧ w.cell? ⟨bq, oq + k * 2 + 1, none⟩ = some (.int .i64 (yq k))) :
    Calls Try.prog 110 #[.slice (some ⟨bp, op, none⟩) n cp, .slice (some ⟨bq, oq, none⟩) n cq, st s bb] w fun e w' => e = .returned (.bool (congS xp yp xq yq n s bb)) ∧ Below w.heap.size w w' := by
  have HP := Lib.hid hcp
  have HQ := Lib.hid hcq
  have lp := lt_of_cell (hcp 0 (by omega)).1
  have lq := lt_of_cell (hcq 0 (by omega)).1
  clear hcp hcq
  have n0 := st_new w s bb
  obtain ⟨W0, hW0⟩ : ∃ W0, w.alloc (stObj s bb) = W0 := ⟨_, rfl⟩
  have B0 : Below w.heap.size w W0 := by rw [← hW0]; exact (Below.refl _ _).alloc (Nat.le_refl _) _
  rw [hW0] at n0
  have S0 := n0.1
  have S1 := n0.2
  clear n0
  have hl0 : 0 < n := by omega
  go_enter Try.func110, Try.ntmps110
  go_wp2_with fail
  clear hW0
  refine (bends_any bp op n cp xp yp (by omega) smp W0 (fun k hk => ⟨keep_cell2 B0 (HP.out k hk).1, keep_cell2 B0 (HP.out k hk).2⟩) (Nat.lt_of_lt_of_le lp B0.size)).mono ?_
  rintro e w1 ⟨v1, rfl, o1, hb⟩
  have B1 := keep_below B0 hb
  replace S0 := keep_cell hb S0
  replace S1 := keep_cell hb S1
  clear hb B0
  obtain ⟨g1, c1, rfl⟩ := own_slice o1 hl0
  have BP := own_bend o1
  clear o1
  go_wp2_with fail
  refine (bends_any bq oq n cq xq yq (by omega) smq w1 (fun k hk => ⟨keep_cell2 B1 (HQ.out k hk).1, keep_cell2 B1 (HQ.out k hk).2⟩) (Nat.lt_of_lt_of_le lq B1.size)).mono ?_
  rintro e w2 ⟨v2, rfl, o2, hb⟩
  have B2 := keep_below B1 hb
  replace S0 := keep_cell hb S0
  replace S1 := keep_cell hb S1
  have BP2 := Lib.hid (fun j hj => keep_cell2 hb (BP j hj))
  clear hb B1 BP
  obtain ⟨g2, c2, rfl⟩ := own_slice o2 hl0
  have BQ2 := Lib.hid (own_bend o2)
  clear o2
  have HP2 := Lib.hid (fun k hk => And.intro (keep_cell2 B2 (HP.out k hk).1) (keep_cell2 B2 (HP.out k hk).2))
  have HQ2 := Lib.hid (fun k hk => And.intro (keep_cell2 B2 (HQ.out k hk).1) (keep_cell2 B2 (HQ.out k hk).2))
  clear HP HQ lp lq
  go_wp2_with fail
  go_loopw [21] (fun i wr => ∃ k : Nat, k ≤ n ∧ i = .int .i64 k ∧ Below w2.heap.size w2 wr ∧ ∀ i, i < k → congBd xp yp xq yq n s bb i ∧ ∀ k, k < i → congSq xp yp xq yq n s bb i k) (fun i _ => n - (intOf i).toNat)
  case atStart => exact ⟨0, Nat.zero_le _, rfl, Below.refl _ _, by simp⟩
  case round =>
    obtain ⟨i, hi, rfl, hbel, hall⟩ := hrel
    have HA := Lib.hid hall
    clear hall
    by_cases hlt : i < n
    · have j1 : (i : Int) < (n : Int) := by omega
      have hli := layN_lt (b := bb) hs hlt
      have LI := fun w => laid_any s n i bb w (by omega) (by omega) (by omega) (by omega) (by omega) (by omega)
      rw [← layN_int (b := bb) hs hlt] at LI
      have s0 := keep_cell2 hbel S0
      have s1 := keep_cell2 hbel S1
      go_wp2_with fail
      refine (LI _).mono ?_
      rintro e w3 ⟨rfl, hb⟩
      have hbel3 := keep_below hbel hb
      clear hb s0 s1 hbel
      obtain ⟨li, hli2⟩ : ∃ li, layN n s bb i = li := ⟨_, rfl⟩
      rw [hli2] at hli
      have j2 : (li : Int) < (n : Int) := by omega
      have p0 := keep_cell2 hbel3 (BP2.out i hlt)
      have q0 := keep_cell2 hbel3 (BQ2.out li hli)
      have HB : Hid (congBd xp yp xq yq n s bb i ↔ bendS xp yp n i = bendS xq yq n li) := Lib.hid (by rw [← hli2]; exact Iff.rfl)
      obtain ⟨x, hx⟩ : ∃ x, bendS xp yp n i = x := ⟨_, rfl⟩
      obtain ⟨y, hy⟩ : ∃ y, bendS xq yq n li = y := ⟨_, rfl⟩
      rw [hx] at p0
      rw [hy] at q0
      have HX := Lib.hid hx
      have HY := Lib.hid hy
      have HL := Lib.hid hli2
      clear hx hy hli2
      rw [HL.out]
      clear LI
      go_wp2_with fail
      have G0 := grow_cell p0
      have G1 := grow_cell q0
      refine wp_region_grow (by kernel_rfl) (by kernel_rfl) ?_
      repeat (go_big_quiet_step (fail))
      refine wpQuiet_nil ?_
      rintro w4 ⟨z, hz⟩
      have hb : Below w3.heap.size w3 w4 := by rw [hz]; exact z.b
      clear hz z G0 G1 p0 q0
      have hbel4 := keep_below hbel3 hb
      clear hb hbel3
      by_cases hxy : x = y
      · have HBi := Lib.hid (HB.out.2 (by rw [HX.out, HY.out]; exact hxy))
        clear HB HX HY
        go_wp2_with fail
        go_loopw [38] (fun k wi => ∃ k' : Nat, k' ≤ i ∧ k = .int .i64 k' ∧ Below w2.heap.size w2 wi ∧ ∀ k, k < k' → congSq xp yp xq yq n s bb i k) (fun k _ => i - (intOf k).toNat)
        case atStart => exact ⟨0, Nat.zero_le _, rfl, hbel4, by simp⟩
        case round =>
          obtain ⟨k, hk, rfl, hbel5, hin⟩ := hrel
          have HI := Lib.hid hin
          clear hin hbel4
          by_cases hkl : k < i
          · have j3 : (k : Int) < (i : Int) := by omega
            have hkn : k < n := by omega
            have j3n : (k : Int) < (n : Int) := by omega
            have hlk := layN_lt (b := bb) hs hkn
            have LK := fun w => laid_any s n k bb w (by omega) (by omega) (by omega) (by omega) (by omega) (by omega)
            rw [← layN_int (b := bb) hs hkn] at LK
            obtain ⟨lk, hlk2⟩ : ∃ lk, layN n s bb k = lk := ⟨_, rfl⟩
            rw [hlk2] at hlk LK
            have j4 : (lk : Int) < (n : Int) := by omega
            have HSq : Hid (congSq xp yp xq yq n s bb i k ↔ square (xp i) (yp i) (xp k) (yp k) = square (xq li) (yq li) (xq lk) (yq lk)) := Lib.hid (by rw [← hlk2, ← HL.out]; exact Iff.rfl)
            clear hlk2
            have a0 := keep_cell2 hbel5 (HP2.out i hlt).1
            have a1 := keep_cell2 hbel5 (HP2.out i hlt).2
            have b0 := keep_cell2 hbel5 (HP2.out k hkn).1
            have b1 := keep_cell2 hbel5 (HP2.out k hkn).2
            have d0 := keep_cell2 hbel5 (HQ2.out li hli).1
            have d1 := keep_cell2 hbel5 (HQ2.out li hli).2
            have e0 := keep_cell2 hbel5 (HQ2.out lk hlk).1
            have e1 := keep_cell2 hbel5 (HQ2.out lk hlk).2
            have s0 := keep_cell2 hbel5 S0
            have s1 := keep_cell2 hbel5 S1
            have M1 := fun w => square_any (xp i) (yp i) (xp k) (yp k) w (smp _).1 (smp _).2 (smp _).1 (smp _).2
            have M2 := fun w => square_any (xq li) (yq li) (xq lk) (yq lk) w (smq _).1 (smq _).2 (smq _).1 (smq _).2
            obtain ⟨u1, hu1⟩ : ∃ u, square (xp i) (yp i) (xp k) (yp k) = u := ⟨_, rfl⟩
            obtain ⟨u2, hu2⟩ : ∃ u, square (xq li) (yq li) (xq lk) (yq lk) = u := ⟨_, rfl⟩
            rw [hu1] at M1
            rw [hu2] at M2
            have HSq2 : Hid (congSq xp yp xq yq n s bb i k ↔ u1 = u2) := Lib.hid (by rw [← hu1, ← hu2]; exact HSq.out)
            clear hu1 hu2 HSq
            generalize xp i = x1, yp i = y1, xp k = x2, yp k = y2, xq li = x3, yq li = y3, xq lk = x4, yq lk = y4 at a0 a1 b0 b1 d0 d1 e0 e1 M1 M2
            go_wp2_with fail
            have G0 := grow_cell a0
            have G1 := grow_cell a1
            have G2 := grow_cell b0
            have G3 := grow_cell b1
            have G4 := grow_cell d0
            have G5 := grow_cell d1
            have G6 := grow_cell e0
            have G7 := grow_cell e1
            have G8 := grow_cell s0
            have G9 := grow_cell s1
            refine wp_region_grow (by kernel_rfl) (by kernel_rfl) ?_
            repeat (go_big_quiet_step ((first | (go_at_call 76; with_reducible exact calls_grow (M1 _)) | (go_at_call 76; with_reducible exact calls_grow (M2 _)) | (go_at_call 143; with_reducible exact calls_grow (LK _)))))
            refine wpQuiet_nil ?_
            rintro w5 ⟨z, hz⟩
            have hb : Below wr.heap.size wr w5 := by rw [hz]; exact z.b
            clear hz z G0 G1 G2 G3 G4 G5 G6 G7 G8 G9 a0 a1 b0 b1 d0 d1 e0 e1 s0 s1 M1 M2 LK
            have hbel6 := keep_below hbel5 hb
            clear hb
            by_cases hu : u1 = u2
            · have HK := Lib.hid (HSq2.out.2 hu)
              go_wp2
              refine ⟨⟨k + 1, by omega, by simp, hbel6, fun j hj => ?_⟩, by simp [intOf]; omega⟩
              rcases Nat.lt_or_ge j k with h | h
              · exact HI.out j h
              · obtain rfl : j = k := by omega
                exact HK.out
            · go_wp2
              go_ret
              refine ⟨?_, keep_below B2 hbel6⟩
              have : congS xp yp xq yq n s bb = false := decide_eq_false (fun hh => hu (HSq2.out.1 ((hh i hlt).2 k hkl)))
              rw [this]
              rfl
          · obtain rfl : k = i := by omega
            go_wp2
            refine ⟨⟨k + 1, by omega, by simp, hbel5, fun j hj => ?_⟩, by simp [intOf]; omega⟩
            rcases Nat.lt_or_ge j k with h | h
            · exact HA.out j h
            · obtain rfl : j = k := by omega
              exact ⟨HBi.out, HI.out⟩
      · go_wp2
        go_ret
        refine ⟨?_, keep_below B2 hbel4⟩
        have : congS xp yp xq yq n s bb = false := decide_eq_false (fun hh => hxy (by rw [← HX.out, ← HY.out]; exact HB.out.1 (hh i hlt).1))
        rw [this]
        rfl
    · obtain rfl : i = n := by omega
      go_wp2
      go_ret
      refine ⟨?_, keep_below B2 hbel⟩
      rw [show congS xp yp xq yq i s bb = true from decide_eq_true (fun j hj => HA.out j hj)]
      rfl

end Go.Proofs.Ytlocdadkhdcedaa
