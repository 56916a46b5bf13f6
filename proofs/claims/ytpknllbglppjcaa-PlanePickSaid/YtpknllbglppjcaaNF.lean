/- The abstract machine, part NF. -/
import Derived.Test.YtpknllbglppjcaaGS
import Derived.Test.YtpknllbglppjcaaGR
import Derived.Test.YtpknllbglppjcaaXA
import Derived.Test.YtpknllbglppjcaaQB
import Derived.Test.YtpknllbglppjcaaGQ
import Derived.Test.YtpknllbglppjcaaQA
/- Walks: the reference's Grid. -/
namespace Go.Proofs.Ytpknllbglppjcaa
open Go Go.RowKit Go.Proofs Go.Abs Go.Plain

/-- Points of the grid on an edge, but for one end. -/
def onK (xs ys : Nat → Int) (n k : Nat) : Int := (Int.gcd (xs ((k + 1) % n) - xs k) (ys ((k + 1) % n) - ys k) : Nat)
def onP (xs ys : Nat → Int) (n : Nat) (pre : List Nat) : Int := (pre.map (onK xs ys n)).sum
def onL (L : Pl) : Int := onP (px L) (py L) L.length (List.range L.length)
def inK (s o : Int) : Int := (s - o + 2).tdiv 2

/-- What Grid answers. -/
def grV (L : Pl) : Value := if vOut L then .tuple #[.int .i64 (onL L), .int .i64 (inK (sumL L) (onL L)), .int .i64 0] else .tuple #[.int .i64 0, .int .i64 0, .int .i64 1]

def Near (x : Int) : Prop := 0 ≤ x ∧ x ≤ 4096

theorem vPts_near {L : Pl} (h : vPts L = true) : ∀ k, Near (px L k) ∧ Near (py L k) := by
  intro k
  by_cases hk : k < L.length
  · unfold vPts allValid at h
    rw [List.all_eq_true] at h
    have := h k (List.mem_range.2 hk)
    unfold valid at this
    simp only [Bool.and_eq_true, decide_eq_true_eq] at this
    unfold Near
    omega
  · have : L.getD k (0, 0) = (0, 0) := by simp [List.getD_eq_getElem?_getD, List.getElem?_eq_none (Nat.le_of_not_lt hk)]
    unfold px py Near
    rw [this]
    simp

theorem gcd_bound {d e : Int} {A : Nat} (hd : d.natAbs ≤ A) (he : e.natAbs ≤ A) : Int.gcd d e ≤ A := by
  unfold Int.gcd
  rcases Nat.eq_zero_or_pos d.natAbs with h | h
  · rw [h, Nat.gcd_zero_left]; exact he
  · exact Nat.le_trans (Nat.gcd_le_left _ h) hd

theorem onK_bound {xs ys : Nat → Int} (h : ∀ k, Near (xs k) ∧ Near (ys k)) (n k : Nat) : 0 ≤ onK xs ys n k ∧ onK xs ys n k ≤ 4096 := by
  unfold onK
  have h1 := h k
  have h2 := h ((k + 1) % n)
  unfold Near at h1 h2
  have := gcd_bound (d := xs ((k + 1) % n) - xs k) (e := ys ((k + 1) % n) - ys k) (A := 4096) (by omega) (by omega)
  omega

theorem onP_snoc (xs ys : Nat → Int) (n : Nat) (pre : List Nat) (x : Nat) : onP xs ys n (pre ++ [x]) = onP xs ys n pre + onK xs ys n x := by simp [onP]

theorem onP_bound {xs ys : Nat → Int} (h : ∀ k, Near (xs k) ∧ Near (ys k)) (n : Nat) : ∀ pre : List Nat, 0 ≤ onP xs ys n pre ∧ onP xs ys n pre ≤ 4096 * (pre.length : Int)
  | [] => by simp [onP]
  | x :: pre => by
    have ih := onP_bound h n pre
    have hb := onK_bound h n x
    have e : onP xs ys n (x :: pre) = onK xs ys n x + onP xs ys n pre := by simp [onP]
    rw [e]
    simp only [List.length_cons]
    omega

theorem in_wrap {s o : Int} (hs : -(134217728 * 24) ≤ s ∧ s ≤ 134217728 * 24) (ho : 0 ≤ o ∧ o ≤ 98304) : wrap64 ((wrap64 (wrap64 (s - o) + 2)).tdiv 2) = inK s o := by
  unfold inK
  rw [w64 (s - o) (by omega), w64 (s - o + 2) (by omega)]
  have : (s - o + 2).tdiv 2 = if 0 ≤ s - o + 2 then (s - o + 2) / 2 else -((-(s - o + 2)) / 2) := tdiv_eq_if _ _
  rw [w64 _ (by rw [this]; split <;> omega)]

end Go.Proofs.Ytpknllbglppjcaa

/- Walks: Grid. -/
namespace Go.Proofs.Ytpknllbglppjcaa
open Go Go.RowKit Go.Proofs Go.Abs Go.Plain Go.Shelf

theorem on_stepI {xs ys : Nat → Int} (h : ∀ k, Near (xs k) ∧ Near (ys k)) (n x : Nat) (pre : List Nat) (hp : pre.length < 1000000) : IntKind.i64.wrap (onP xs ys n pre + onK xs ys n x) = onP xs ys n (pre ++ [x]) := by
  have h1 := onP_bound h n pre
  have h2 := onK_bound h n x
  rw [onP_snoc, wi64 _ (by omega)]

attribute [local go_sem] Oper.semAt_some

set_option maxRecDepth 100000 in
set_option maxHeartbeats 8000000 in
theorem grid_any (b off cap : Nat) (L : Pl) (hv : vOut L = true) (w : World) (hp : PtsAt w b off L) :
    Calls Try.prog 36 #[.slice (some ⟨b, off, none⟩) L.length cap] w fun e w' => e = .returned (grV L) ∧ Below w.heap.size w w' := by
  have HV : Hid (grV L = .tuple #[.int .i64 (onL L), .int .i64 (inK (sumL L) (onL L)), .int .i64 0]) := Lib.hid (by unfold grV; rw [hv]; rfl)
  obtain ⟨h3, h24, hvp⟩ := vOut_n hv
  have hsm := vPts_small hvp
  have HN := Lib.hid (vPts_near hvp)
  have hblt := hp.lt (by omega)
  have hbA : Below w.heap.size w (w.alloc (.cells #[.int .i64 0] 3)) := (Below.refl _ w).alloc (Nat.le_refl _) _
  have C1 := validOutline_any b off cap L (by omega) _ (hp.keep hbA)
  rw [hv] at C1
  have HW : Hid (wrap64 ((wrap64 (wrap64 (sumL L - onL L) + 2)).tdiv 2) = inK (sumL L) (onL L)) := Lib.hid (in_wrap (by
    have := sumD_bound hsm L.length (List.range L.length)
    rw [List.length_range] at this
    show _ ≤ sumD _ _ _ _ ∧ sumD _ _ _ _ ≤ _
    omega) (by
    have := onP_bound HN.out L.length (List.range L.length)
    rw [List.length_range] at this
    unfold onL
    omega))
  obtain ⟨len, hlen⟩ : ∃ n, L.length = n := ⟨_, rfl⟩
  have HP := Lib.hid (fun k (hk : k < len) => hp k (by omega))
  rw [hlen] at C1 ⊢
  have hON : onL L = onP (px L) (py L) len (List.range len) := by unfold onL; rw [hlen]
  have hSN : sumL L = sumD (px L) (py L) len (List.range len) := by unfold sumL; rw [hlen]
  have DB := fun w' (hb : Below w.heap.size w w') => doubled_in Fence.wide 5 trivial trivial trivial rfl (by omega) b off len cap (px L) (py L) (by omega) hsm w' (fun k hk => ⟨keep_cell hb (HP.out k hk).1, keep_cell hb (HP.out k hk).2⟩) (Nat.lt_of_lt_of_le hblt hb.size)
  clear hp hv
  refine (callsIn_wide (n := 6)).1 ?_
  have h1 : 1 ≤ 6 := by omega
  refine callsIn_of_wp_marks Try.func36 rfl trivial ?_ rfl
  simp only [Try.ntmps36, List.size_toArray, List.length_cons, List.length_nil, Nat.reduceAdd, Nat.reduceSub, Array.replicate_succ, Array.replicate_zero, List.push_toArray, List.append_toArray, List.nil_append, List.cons_append]
  gi_wp2_with (first
    | (refine ⟨trivial, ?_⟩; gi_at_call 29; refine (callsIn_wide.2 C1).mono ?_; rintro e w1 ⟨rfl, hb1⟩)
    | (refine ⟨trivial, ?_⟩; gi_at_call 98; refine (corners_in Fence.wide 5 trivial rfl _ _ _ _).mono ?_; rintro e w' ⟨rfl, rfl⟩))
  have hs1 : w.heap.size + 1 ≤ w1.heap.size := by have := hb1.size; simpa using this
  obtain ⟨W0, hW0⟩ : ∃ W0, w1.alloc (.cells #[.slice (some ⟨b, off, none⟩) len cap] 32) = W0 := ⟨_, rfl⟩
  have hsz : W0.heap.size = w1.heap.size + 1 := by rw [← hW0]; simp
  have bS : Boxed W0 w.heap.size 3 (.int .i64 0) := by rw [← hW0]; exact (below_box hb1 (Boxed.new w 3 _)).alloc _
  have bC : Boxed W0 w1.heap.size 32 (.slice (some ⟨b, off, none⟩) len cap) := by rw [← hW0]; exact Boxed.new w1 32 _
  have hB0 : Below w.heap.size w W0 := by rw [← hW0]; exact (keep_below hbA hb1).alloc (by omega) _
  rw [hW0]
  clear hW0 hbA C1
  refine wpIn_rangeFunc_ownH rfl h1 (gf := 140) (lb := #[.pointer (some ⟨w1.heap.size, 0, none⟩)]) rfl trivial (enters_of Try.func140 (by kernel_rfl) rfl)
    (corners_stops Fence.wide 5 trivial rfl (by omega) w1.heap.size w.heap.size b off len cap (px L) (py L) (by omega) hblt W0 (by omega) (by omega) bC.cell (fun k hk => ⟨keep_cell hB0 (HP.out k hk).1, keep_cell hB0 (HP.out k hk).2⟩))
    KeepC.trans (fun W l o o' hl h _ _ => keepC_put (by omega) (by omega)) (Below.refl _ _) (fun _ => rfl)
    (fun pre W => Boxed W w.heap.size 3 (.int .i64 (onP (px L) (py L) len pre)) ∧ Below w.heap.size w W ∧ w1.heap.size + 1 ≤ W.heap.size)
    (fun _ _ _ => False)
    (OwnFrom.and (Own.from (boxed_own _ _ _) _) (OwnFrom.and (ownFrom_below (Nat.le_refl _) (by omega)) (ownFrom_size _ _)))
    (fun _ _ _ _ _ hs _ _ => hs)
    ⟨bS, hB0, by omega⟩
    (fun x a' W => ∃ Bx, w1.heap.size < Bx ∧ Box6 W Bx (cnrV (px L) (py L) ((x + len - 1) % len) x ((x + 1) % len)) ∧ a' = { tmps := #[.slice (some ⟨b, off, none⟩) len cap, undef, .pointer (some ⟨w.heap.size, 0, none⟩), .int .i64 0, .int .i64 0, undef, .pointer (some ⟨Bx, 0, none⟩), .slice (some ⟨b, off, none⟩) len cap, .bool true, .bool false, .slice (some ⟨b, off, none⟩) len cap, .func (.func 140) #[] #[.pointer (some ⟨w1.heap.size, 0, none⟩)], .int .i64 x, cnrV (px L) (py L) ((x + len - 1) % len) x ((x + 1) % len), undef, undef, undef, undef, undef, undef, undef, undef, undef, undef, undef, undef, undef, undef, undef, undef, undef, undef, undef, undef, undef, undef, undef, undef], defers := [] })
    (fun x a' _ X Y row hs hg hr => by obtain ⟨Bx, h1, h2, h3⟩ := hs; exact ⟨Bx, h1, h2.own hg hr, h3⟩)
    ?assign ?body ?done ?stop
  case assign =>
    rintro l pre x W K ⟨bS1, hB1, hs1⟩ hK
    gi_wp2
    exact hK _ _ ((KeepsOthers.alloc _ _).from _) (KeepC.below ((Below.refl _ W).alloc (Nat.le_refl _) _) (by omega) (by omega)) ⟨bS1.alloc _, hB1.alloc (by omega) _, by simp; omega⟩ ⟨W.heap.size, by omega, Box6.new W _, rfl⟩
  case body =>
    rintro l pre x a' W hl _ ⟨bS1, hB1, hs2⟩ ⟨Bx, hBx, bX, rfl⟩ hlt
    have x2 := bX.cell (o := 2) rfl
    have x3 := bX.cell (o := 3) rfl
    have x4 := bX.cell (o := 4) rfl
    have x5 := bX.cell (o := 5) rfl
    have cS := bS1.cell
    have E := on_stepI HN.out len x pre (by omega)
    have EK : onK (px L) (py L) len x = (Int.gcd (px L ((x + 1) % len) - px L x) (py L ((x + 1) % len) - py L x) : Nat) := rfl
    have N0 := HN.out x
    have N1 := HN.out ((x + 1) % len)
    generalize px L ((x + len - 1) % len) = xp, py L ((x + len - 1) % len) = yp at x2 x3 x4 x5 ⊢
    generalize px L x = x0, py L x = y0, px L ((x + 1) % len) = x1, py L ((x + 1) % len) = y1 at x2 x3 x4 x5 EK N0 N1 ⊢
    unfold Near at N0 N1
    obtain ⟨⟨n1, n2⟩, n3, n4⟩ := N0
    obtain ⟨⟨n5, n6⟩, n7, n8⟩ := N1
    obtain ⟨dx, hdx⟩ : ∃ d, x1 - x0 = d := ⟨_, rfl⟩
    obtain ⟨dy, hdy⟩ : ∃ d, y1 - y0 = d := ⟨_, rfl⟩
    have U1 : IntKind.i64.wrap (x1 - x0) = dx := (wi64 _ (by omega)).trans hdx
    have U2 : IntKind.i64.wrap (y1 - y0) = dy := (wi64 _ (by omega)).trans hdy
    have GC := fun W => gcd_any dx dy W (by unfold Small; omega) (by unfold Small; omega)
    rw [hdx, hdy] at EK
    obtain ⟨gd, hgd⟩ : ∃ g : Int, (Int.gcd dx dy : Int) = g := ⟨_, rfl⟩
    rw [hgd] at GC EK
    rw [EK] at E
    obtain ⟨o0, ho0⟩ : ∃ o, onP (px L) (py L) len pre = o := ⟨_, rfl⟩
    obtain ⟨o1, ho1⟩ : ∃ o, onP (px L) (py L) len (pre ++ [x]) = o := ⟨_, rfl⟩
    rw [ho0] at E cS
    rw [ho1] at E
    have HO1 := Lib.hid ho1
    have U3 : IntKind.i64.wrap (o0 + gd) = o1 := E
    have HB := Lib.hid bS1
    clear E EK hgd ho0 ho1 hdx hdy bS1
    gi_wp2_with fail
    refine wpIn_region_grown (m := 17) [(14, .int .i64 o0), (15, .pointer (some ⟨Bx, 4, none⟩)), (16, .pointer (some ⟨Bx, 4, none⟩)), (17, .int .i64 x1), (18, .pointer (some ⟨Bx, 2, none⟩)), (19, .pointer (some ⟨Bx, 2, none⟩)), (20, .int .i64 x0), (21, .int .i64 dx),
      (22, .pointer (some ⟨Bx, 4, none⟩)), (23, .pointer (some ⟨Bx, 5, none⟩)), (24, .int .i64 y1), (25, .pointer (some ⟨Bx, 2, none⟩)), (26, .pointer (some ⟨Bx, 3, none⟩)), (27, .int .i64 y0), (28, .int .i64 dy), (29, .int .i64 gd), (30, .int .i64 o1)] (by kernel_rfl) (fun _ => trivial) (by omega) (by kernel_rfl) rfl (by kernel_rfl) ?_ ?_
    · intro W' hW'
      have d2 := keep_cell hW' x2
      have d3 := keep_cell hW' x3
      have d4 := keep_cell hW' x4
      have d5 := keep_cell hW' x5
      have dS := keep_cell hW' cS
      clear x2 x3 x4 x5 cS
      simp only [putsL, List.setIfInBounds_toArray, List.set_cons_zero, List.set_cons_succ, List.take_succ_cons, List.take_zero]
      refine ⟨fun d hd => .inl ?_, ⟨fun d hd => .inl ?_, ⟨fun d hd => .inl ?_, ⟨fun d hd => .inl ?_, ⟨fun d hd => .inl ?_, ⟨fun d hd => .inl ?_, ⟨fun d hd => .inl ?_, ⟨fun d hd => .inl ?_, ⟨fun d hd => .inl ?_, ⟨fun d hd => .inl ?_, ⟨fun d hd => .inl ?_, ⟨fun d hd => .inl ?_, ⟨fun d hd => .inl ?_, ⟨fun d hd => .inl ?_, ⟨fun d hd => .inl ?_, ⟨fun d hd => .inr ⟨99, #[.int .i64 dx, .int .i64 dy], ?_, ?_⟩, ⟨fun d hd => .inl ?_, trivial⟩⟩⟩⟩⟩⟩⟩⟩⟩⟩⟩⟩⟩⟩⟩⟩⟩
      all_goals cases hd
      all_goals first
        | (go_simp; done)
        | (exact CallsIn.inRound l (callsIn_wide.2 ((GC W').mono fun e w'' h => ⟨h.1, h.2⟩)))
        | trace_state
    · intro W' hW'
      have bS1 := below_box hW' HB.out
      have cS' := bS1.cell
      have fS' := bS1.frozen
      have hkf := keepsFrom_below W0.heap.size hW'
      have hkc : KeepC w.heap.size w1.heap.size W W' := KeepC.below hW' (by omega) (by omega)
      have hB2 := hB1.trans (hW'.mono hB1.size)
      have hs3 := Nat.le_trans hs2 hW'.size
      clear x2 x3 x4 x5 cS U1 U2 U3 GC
      simp only [putsL, List.setIfInBounds_toArray, List.set_cons_zero, List.set_cons_succ, List.length_cons, List.length_nil, Nat.reduceAdd, Nat.reduceSub, ledList, List.replicate, List.cons_append, List.nil_append]
      refine wpAnyIn_ready (rs := [17]) (by kernel_rfl) (by simp) (AllReadyIn.cons rfl (fun K hK => ?_) AllReadyIn.nil)
      simp only [List.getElem_toArray, List.getElem_cons_succ, List.getElem_cons_zero]
      rw [if_pos (show Region.wanted _ _ = true from rfl)]
      gi_wp2_with fail
      refine wpAnyIn_done (by kernel_rfl) ?_ _
      gi_wp2
      refine ⟨hkf.trans ((KeepsOthers.setCell _ _ _).from _), hkc.trans (keepC_set (by simp) (by show w.heap.size ≠ w1.heap.size; omega)), ?_, hB2.setCell (by simp) _, by simpa using hs3⟩
      rw [HO1.out]
      exact bS1.set _
  case done =>
    rintro D ks W hD rfl ⟨bS1, hB1, hs2⟩ hK
    have cS := bS1.cell
    have fS := bS1.frozen
    have so := onP_bound HN.out len (List.range len)
    have ss := sumD_bound hsm len (List.range len)
    rw [List.length_range] at so ss
    have HV' : Hid (grV L = .tuple #[.int .i64 (onP (px L) (py L) len (List.range len)), .int .i64 (inK (sumD (px L) (py L) len (List.range len)) (onP (px L) (py L) len (List.range len))), .int .i64 0]) := Lib.hid (by rw [HV.out, hON, hSN])
    obtain ⟨s, hs⟩ : ∃ s, sumD (px L) (py L) len (List.range len) = s := ⟨_, rfl⟩
    obtain ⟨o, ho⟩ : ∃ o, onP (px L) (py L) len (List.range len) = o := ⟨_, rfl⟩
    rw [hs] at DB HV' ss
    rw [ho] at HV' bS1 cS so
    have U1 : IntKind.i64.wrap (s - o) = s - o := wi64 _ (by omega)
    have U2 : IntKind.i64.wrap (s - o + 2) = s - o + 2 := wi64 _ (by omega)
    have U4 : (s - o + 2).tdiv 2 = if 0 ≤ s - o + 2 then (s - o + 2) / 2 else -((-(s - o + 2)) / 2) := tdiv_eq_if _ _
    obtain ⟨i0, hi0⟩ : ∃ i, (s - o + 2).tdiv 2 = i := ⟨_, rfl⟩
    have HI : Hid (inK s o = i0) := Lib.hid hi0
    have U3 : IntKind.i64.wrap i0 = i0 := by
      rw [hi0] at U4
      refine wi64 _ ?_
      split at U4 <;> omega
    clear U4 HV HW hON hSN hs ho hsm hvp
    gi_wp2_with fail
    clear ss so cS fS
    refine wpIn_region_kept (m := 8) (fun X => Below w.heap.size w X ∧ Boxed X w.heap.size 3 (.int .i64 o) ∧ X.heap[D]? = some (.deferred (some []))) [(31, .int .i64 o), (32, .slice (some ⟨b, off, none⟩) len cap), (33, .int .i64 s), (34, .int .i64 o), (35, .int .i64 (s - o)), (36, .int .i64 (s - o + 2)), (37, .int .i64 i0)]
      (by kernel_rfl) (fun _ => trivial) (by omega) (by kernel_rfl) ⟨hB1.drew, bS1, hK⟩ rfl (by kernel_rfl) ?_ ?_
    · rintro X ⟨x1, x2, x3⟩
      have c := x2.cell
      have f := x2.frozen
      have hI := And.intro x1 (And.intro x2 x3)
      simp only [putsL, List.setIfInBounds_toArray, List.set_cons_zero, List.set_cons_succ, List.take_succ_cons, List.take_zero]
      refine ⟨.val rfl ?_ hI, .val rfl ?_ hI, .call rfl 93 #[.slice (some ⟨b, off, none⟩) len cap] ?_ ?_, .val rfl ?_ hI, .val rfl ?_ hI, .val rfl ?_ hI, .val rfl ?_ hI, (.put (W2 := X.setCell ⟨w.heap.size, 0, none⟩ (.int .i64 o)) rfl ?_ ?_), trivial⟩
      all_goals first
        | (go_simp; done)
        | skip
      · refine (DB X x1).mono ?_
        rintro e X' ⟨rfl, hb⟩
        exact ⟨rfl, x1.trans (hb.mono x1.size), below_box hb x2, (hb.block D (Array.getElem?_eq_some_iff.1 x3).1).trans x3⟩
      · exact ⟨x1.setCell (by simp) _, x2.set _, (KeepsOthers.setCell X ⟨w.heap.size, 0, none⟩ (.int .i64 o)).same D _ x3 rfl⟩
    · rintro X ⟨x1, x2, x3⟩
      clear U1 U2 U3
      simp only [putsL, List.setIfInBounds_toArray, List.set_cons_zero, List.set_cons_succ, List.length_cons, List.length_nil, Nat.reduceAdd, Nat.reduceSub, ledList, List.replicate, List.cons_append, List.nil_append]
      refine wpAnyIn_ready (rs := [8]) (by kernel_rfl) (by simp) (AllReadyIn.cons rfl (fun K hK => ?_) AllReadyIn.nil)
      simp only [List.getElem_toArray, List.getElem_cons_succ, List.getElem_cons_zero]
      rw [if_pos (show Region.wanted _ _ = true from rfl)]
      gi_wp2_with fail
      refine wpAnyIn_ready (rs := [9]) (by kernel_rfl) (by simp) (AllReadyIn.cons rfl (fun K hK => ?_) AllReadyIn.nil)
      simp only [List.getElem_toArray, List.getElem_cons_succ, List.getElem_cons_zero]
      rw [if_pos (show Region.wanted _ _ = true from rfl)]
      gi_wp2_with fail
      refine wpAnyIn_done (by kernel_rfl) ?_ _
      gi_wp2
      refine ⟨by simp, .inl ⟨_, _, rfl, run_takeDeferred x3, ?_⟩⟩
      have hc5 := cell_kept x2.cell (grownBy_putObj' _ D (.deferred none)) (fun r e => by cases e; exact ⟨_, x3, rfl⟩)
      refine ⟨.tuple #[.int .i64 o, .int .i64 i0, .int .i64 0], ?_, ?_, x1.trans (belowK_b (w := w) (Nat.le_refl _) X D _ _ (by omega) x3 rfl rfl)⟩
      · simp [results, Try.f36, go_sem, hc5]
      · rw [HV'.out, HI.out]
  case stop =>
    rintro D c pre W _ _ h _
    exact h.elim

end Go.Proofs.Ytpknllbglppjcaa

/- Walks: Grid of any list. -/
namespace Go.Proofs.Ytpknllbglppjcaa
open Go Go.RowKit Go.Proofs Go.Abs Go.Plain Go.Shelf

set_option maxRecDepth 100000 in
set_option maxHeartbeats 2000000 in
theorem grid_bad (v : Value) {L : Pl} {w : World} (h : SlV w v L) (hv : vOut L = false) : Calls Try.prog 36 #[v] w fun e w' => e = .returned (grV L) ∧ Below w.heap.size w w' := by
  have HV : Hid (grV L = .tuple #[.int .i64 0, .int .i64 0, .int .i64 1]) := Lib.hid (by unfold grV; rw [hv]; rfl)
  have bel : Below w.heap.size w (w.alloc (.cells #[.int .i64 0] 3)) := (Below.refl _ w).alloc (Nat.le_refl _) _
  have C1 := vOut_sl (h.keep bel)
  rw [hv] at C1
  have bS := Boxed.new w 3 (.int .i64 0)
  clear h hv
  go_enter Try.func36, Try.ntmps36
  go_wp2_with fail
  refine C1.mono ?_
  rintro e w1 ⟨rfl, hb⟩
  have bS1 := below_box hb bS
  have bel1 := keep_below bel hb
  have cS := bS1.cell
  have fS := bS1.frozen
  clear hb C1 bS bel
  go_wp2
  have c2 := (bS1.set (.int .i64 0)).cell
  refine bodyPost_ret (v := .tuple #[.int .i64 0, .int .i64 0, .int .i64 1]) (by simp [results, Try.f36, go_sem, c2]) rfl ⟨by rw [HV.out], bel1.setCell (Nat.le_refl _) _⟩

theorem grid_sl {w : World} {v : Value} {L : Pl} (h : SlV w v L) : Calls Try.prog 36 #[v] w fun e w' => e = .returned (grV L) ∧ Below w.heap.size w w' := by
  cases hv : vOut L
  · exact grid_bad v h hv
  · obtain ⟨b, off, cap, rfl, hp⟩ := vOut_pts h hv
    exact grid_any b off cap L hv w hp

end Go.Proofs.Ytpknllbglppjcaa
