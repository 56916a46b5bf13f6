/- Walks: Gauges. -/
import Derived.Test.YtiebbbeijlfedaaT2
import Derived.Test.YtiebbbeijlfedaaC3
import Derived.Test.YtiebbbeijlfedaaQ6
namespace Go.Proofs.Ytiebbbeijlfedaa
open Go Go.RowKit Go.Proofs Go.Abs Go.Shelf

theorem info67 : (Try.prog.info? 67).map (fun i => (i.zero, i.size, i.bytes)) = some (some (gg 0 0 0 0 0), 5, 40) := by kernel_rfl

/-- An append to one's own row, whatever comes behind it. -/
theorem operIn_append_own {F : Fence} {n : Nat} {P : Program} (w : World) {o : Oper} {a : Act} {K : Act → World → Prop} {Q : Exit → Act → World → Prop}
    (s x : Operand) (t : TypeId) (hop : o.op = Op.call { callee := Callee.builtin Builtin.append, args := #[s, x], argTypes := #[t, t] })
    (base : Nat) (e : TypeId) (i : TypeInfo) (z : Value) (size bytes : Nat) (h1 : P.underlying t = some (.slice e)) (h2 : P.info? e = some i) (h3 : i.zero = some z) (h4 : i.size = size) (h5 : i.bytes = bytes) (h6 : z.cells.size = size) (h7 : 0 < size)
    (v : Value) (k : Nat) (xs : List Value) (hs : a.eval s = v) (hown : w.ownsRow base e size v k xs) (ad : Addr) (m c : Nat) (news : List Value) (hx : a.eval x = .slice (some ad) m c) (hn : news.length = m * size)
    (hc : ∀ j u, news[j]? = some u → w.cell? (ad.add j) = some u) (h1c : ∀ u ∈ news, u.oneCell' = true) (b1 : k + m ≤ maxLen) (b2 : (k + m) * bytes ≤ 140737488355328) (b3 : base ≤ w.heap.size)
    (hK : ∀ v' w', w'.ownsRow base e size v' (k + m) (xs ++ news) → w.grownBy w' v.ownBlock → (v' = .slice none 0 0 ↔ v = .slice none 0 0 ∧ m = 0) → K (a.put o.dst v') w') :
    o.wpIn F n P a w K Q := by
  obtain ⟨v', w', hrun, r1, r2, r3⟩ := run_append_own (P := P) w base t o.type e i z size bytes h1 h2 h3 h4 h5 h6 h7 v k xs hown ad m c news hn hc h1c b1 b2 b3
  unfold Oper.wpIn
  refine ⟨?_, ?_⟩
  · simp [Oper.about, hop, resolve, Target.leads, Sem.run_pure]
  · rw [Oper.semAt_plain F _ _ (by rw [hop]; intro c hc'; cases hc')]
    simp [execOp, hop, resolve, invoke, builtin, hs, hx, hrun, Result.andThen]
    exact hK v' w' r1 r2 r3

/-- A struct of one's own, of any type. -/
def BoxS (t : TypeId) (W : World) (B : Nat) (v : Value) : Prop := ∃ c, v = .agg c ∧ W.heap[B]? = some (.cells c t (0, 0))

theorem BoxS.cell {t : TypeId} {W : World} {B : Nat} {c : Array Value} (h : BoxS t W B (.agg c)) {o : Nat} {v : Value} (ho : c[o]? = some v) : W.cell? ⟨B, o, none⟩ = some v := by
  obtain ⟨c', e, h⟩ := h
  cases e
  unfold World.cell?
  simp [h, ho]

theorem BoxS.own {t : TypeId} {W X : World} {B B' : Nat} {v : Value} {row : Option Nat} (h : BoxS t W B v) (hg : W.grownBy X row) (hr : ∀ r, row = some r → B' ≤ r ∧ ∃ o : Obj, W.heap[r]? = some o ∧ o.isCells = false) : BoxS t X B v := by
  obtain ⟨c, e, hb⟩ := h
  refine ⟨c, e, ?_⟩
  rw [hg.block B (Array.getElem?_eq_some_iff.1 hb).1 (fun e' => by
    obtain ⟨_, o, ho, hc⟩ := hr B e'.symm
    rw [hb] at ho; cases ho; cases hc)]
  exact hb

theorem BoxS.new (t : TypeId) (W : World) (c : Array Value) : BoxS t (W.alloc (.cells c t)) W.heap.size (.agg c) := ⟨c, rfl, World.alloc_heap_new W _⟩

/-- The five numbers of a gauge of an outline. -/
def gau (L : List (Int × Int)) (x : Nat) : List Value := [.int .i64 (m1 L x), .int .i64 (m1 L x), .int .i64 (m2 L x), .int .i64 (m2 L x), .int .i64 (m3 L x)]
def gauL (L : List (Int × Int)) (pre : List Nat) : List Value := pre.flatMap (gau L)
theorem gauL_snoc (L : List (Int × Int)) (pre : List Nat) (x : Nat) : gauL L (pre ++ [x]) = gauL L pre ++ gau L x := by simp [gauL]

theorem five_cells (a b c d e : Int) : ∀ u ∈ [Value.int .i64 a, .int .i64 b, .int .i64 c, .int .i64 d, .int .i64 e], u.oneCell' = true := by
  intro u hu
  simp only [List.mem_cons, List.not_mem_nil, or_false] at hu
  rcases hu with rfl | rfl | rfl | rfl | rfl <;> rfl

theorem five_new (w : World) (a b c d e : Int) : ∀ j u, [Value.int .i64 a, .int .i64 b, .int .i64 c, .int .i64 d, .int .i64 e][j]? = some u → (w.alloc (.cells #[.int .i64 a, .int .i64 b, .int .i64 c, .int .i64 d, .int .i64 e] 67)).cell? ((⟨w.heap.size, 0, none⟩ : Addr).add j) = some u := by
  intro j u h
  have h1 := World.alloc_heap_new w (.cells #[.int .i64 a, .int .i64 b, .int .i64 c, .int .i64 d, .int .i64 e] 67)
  have e1 : (⟨w.heap.size, 0, none⟩ : Addr).add j = ⟨w.heap.size, j, none⟩ := by unfold Addr.add; split <;> simp_all
  rw [e1]
  unfold World.cell?
  rw [h1]
  simpa using h

attribute [local go_sem] Oper.semAt_some

theorem KeepN.appended {N : Nat} {X0 w3 : World} {tmp : Obj} {v v' c : Value} {k : Nat} {xs : List Value} (bO : Boxed X0 N 22 v) (bC : Boxed X0 (N + 1) 34 c) (hr : X0.ownsRow N 67 5 v k xs)
    (hg : (X0.alloc tmp).grownBy w3 v.ownBlock) : KeepN N (N + 1) X0 (w3.setCell ⟨N, 0, none⟩ v') := by
  have hN := (Array.getElem?_eq_some_iff.1 (show X0.heap[N]? = _ from bO)).1
  have same : ∀ j, j < X0.heap.size → j ≠ N → some j ≠ v.ownBlock → (w3.setCell ⟨N, 0, none⟩ v').heap[j]? = X0.heap[j]? := fun j hj hn hv => by
    rw [Below.heap_setCell _ _ _ j hn, hg.block j (by simp; omega) hv, alloc_heap_old _ _ hj]
  have notrow : ∀ (j : Nat) (cs : Array Value) (t : TypeId) (x : Nat × Nat), X0.heap[j]? = some (.cells cs t x) → t ≠ 67 → some j ≠ v.ownBlock := fun j cs t x hj ht e => by
    rcases hr.2 with ⟨rfl, -⟩ | ⟨g, cap, cur, rfl, -, h2, -⟩
    · cases e
    · simp only [Value.ownBlock, Option.some.injEq] at e
      subst e
      rw [hj] at h2
      cases h2
      exact ht rfl
  refine ⟨?_, fun j hj => ?_, fun j cs x hj => ?_⟩
  · have h1 := hg.size
    have h2 := (KeepsOthers.setCell w3 ⟨N, 0, none⟩ v').size
    simp at h1
    omega
  · rcases hj with hj | rfl
    · exact same j (by omega) (by omega) (fun e => by have := (hr.lt j e.symm).1; omega)
    · have hC : X0.heap[N + 1]? = some (.cells #[c] 34 (0, 0)) := bC
      exact same _ (Array.getElem?_eq_some_iff.1 hC).1 (by omega) (notrow _ _ _ _ hC (by decide))
  · rw [same j (Array.getElem?_eq_some_iff.1 hj).1 ?_ (notrow _ _ _ _ hj (by decide))]
    · exact hj
    · rintro rfl
      rw [show X0.heap[j]? = some (.cells #[v] 22 (0, 0)) from bO] at hj
      cases hj

set_option maxRecDepth 100000 in
set_option maxHeartbeats 8000000 in
theorem gauges_good (b off cap : Nat) (L : List (Int × Int)) (hv : vOut L = true) (w : World) (hp : PtsAt w b off L) :
    Calls Try.prog 15 #[.slice (some ⟨b, off, none⟩) L.length cap] w fun e w' => ∃ v, e = .returned (.tuple #[v, .int .i64 0]) ∧ w'.ownsRow w.heap.size 67 5 v L.length (gauL L (List.range L.length)) ∧ Below w.heap.size w w' := by
  obtain ⟨i0, hi, hz0, hz1, hz2⟩ := info_parts info67
  obtain ⟨h3, h24, -⟩ := vOut_n hv
  have hblt := hp.lt (by omega)
  have C1 := validOutline_any b off cap L (by omega) w hp
  rw [hv] at C1
  refine (callsIn_wide (n := 6)).1 ?_
  have h1 : 1 ≤ 6 := by omega
  refine callsIn_of_wp_marks Try.func15 rfl trivial ?_ rfl
  simp only [Try.ntmps15, List.size_toArray, List.length_cons, List.length_nil, Nat.reduceAdd, Nat.reduceSub, Array.replicate_succ, Array.replicate_zero, List.push_toArray, List.append_toArray, List.nil_append, List.cons_append]
  gi_wp2_with (first
    | (refine ⟨trivial, ?_⟩; gi_at_call 44; refine (callsIn_wide.2 C1).mono ?_; rintro e w1 ⟨rfl, hb1⟩)
    | (refine ⟨trivial, ?_⟩; gi_at_call 45; refine (measured_in 5 _ _ _ _).mono ?_; rintro e w' ⟨rfl, rfl⟩))
  obtain ⟨N, hN⟩ : ∃ N, w1.heap.size = N := ⟨_, rfl⟩
  have hwN : w.heap.size ≤ N := by rw [← hN]; exact hb1.size
  have hbN : b < N := Nat.lt_of_lt_of_le hblt hwN
  have hp1 := hp.keep hb1
  simp only [hN]
  obtain ⟨W0, hW0⟩ : ∃ W0, (w1.alloc (.cells #[.slice none 0 0] 22)).alloc (.cells #[.slice (some ⟨b, off, none⟩) L.length cap] 34) = W0 := ⟨_, rfl⟩
  have hsz : W0.heap.size = N + 2 := by rw [← hW0]; simp [hN]
  have bS : Boxed W0 N 22 (.slice none 0 0) := by rw [← hW0, ← hN]; exact (Boxed.new w1 22 _).alloc _
  have bC : Boxed W0 (N + 1) 34 (.slice (some ⟨b, off, none⟩) L.length cap) := by
    rw [← hW0, ← hN]; have := Boxed.new (w1.alloc (.cells #[.slice none 0 0] 22)) 34 (.slice (some ⟨b, off, none⟩) L.length cap); rwa [World.size_alloc] at this
  have hB0 : Below N w1 W0 := by rw [← hW0]; exact ((Below.refl _ w1).alloc (by omega) _).alloc (by simp; omega) _
  have hp0 : PtsAt W0 b off L := hp1.keep (by rw [hN]; exact hB0)
  rw [hW0]
  clear hW0 C1 hp hp1
  refine wpIn_rangeFunc_ownH rfl h1 (gf := 78) (lb := #[.pointer (some ⟨N + 1, 0, none⟩)]) rfl trivial (enters_of Try.func78 (by kernel_rfl) rfl)
    (measured_stops 5 (by omega) (N + 1) N b off cap L hv hbN W0 (by omega) bC.cell hp0)
    KeepN.trans (fun W l o o' hl h hc _ => KeepN.put (by omega) (by omega) h hc) (Below.refl _ _) (fun _ => rfl)
    (fun pre W => (∃ v, Boxed W N 22 v ∧ W.ownsRow N 67 5 v pre.length (gauL L pre) ∧ True) ∧ Boxed W (N + 1) 34 (.slice (some ⟨b, off, none⟩) L.length cap) ∧ Below N w1 W ∧ N + 2 ≤ W.heap.size)
    (fun _ _ _ => False)
    (OwnFrom.and (Own.from (holdsRow_own N N 22 67 5 List.length (gauL L) (fun _ _ => True)) _) (OwnFrom.and (Own.from (boxed_own _ _ _) _) (OwnFrom.and (ownFrom_below (by omega) (by omega)) (ownFrom_size _ _))))
    (fun _ _ _ _ _ hs _ _ => hs)
    ⟨⟨_, bS, World.ownsRow_nil _ _ _ _, trivial⟩, bC, hB0, by omega⟩
    (fun x a' W => ∃ Bx, N + 1 < Bx ∧ BoxS 79 W Bx (ms (m1 L x) (m2 L x) (m3 L x)) ∧ a' = { tmps := #[.slice (some ⟨b, off, none⟩) L.length cap, undef, .slice none 0 0, .int .i64 0, .pointer (some ⟨N, 0, none⟩), undef, .pointer (some ⟨Bx, 0, none⟩), .slice (some ⟨b, off, none⟩) L.length cap, .bool true, .bool false, .slice (some ⟨b, off, none⟩) L.length cap, .func (.func 78) #[] #[.pointer (some ⟨N + 1, 0, none⟩)], .int .i64 x, ms (m1 L x) (m2 L x) (m3 L x), undef, undef, undef, undef, undef, undef, undef, undef, undef, undef, undef, undef, undef], defers := [] })
    (fun x a' _ X Y row hs hg hr => by obtain ⟨Bx, h1, h2, h3⟩ := hs; exact ⟨Bx, h1, h2.own hg hr, h3⟩)
    ?assign ?body ?done ?stop
  case assign =>
    rintro l pre x W K ⟨⟨v, bS1, hr1, -⟩, bC1, hB1, hs1⟩ hK
    gi_wp2
    exact hK _ _ ((KeepsOthers.alloc _ _).from _) (KeepN.below ((Below.refl _ W).alloc (Nat.le_refl _) _) (by omega) (by omega)) ⟨⟨v, bS1.alloc _, hr1.alloc _, trivial⟩, bC1.alloc _, hB1.alloc (by omega) _, by simp; omega⟩ ⟨W.heap.size, by omega, BoxS.new 79 W _, rfl⟩
  case body =>
    rintro l pre x a' W hl _ ⟨⟨v, bS1, hr1, -⟩, bC1, hB1, hs1⟩ ⟨Bx, hBx, bX, rfl⟩ hlt
    have x0 := bX.cell (o := 0) rfl
    have x1 := bX.cell (o := 1) rfl
    have x2 := bX.cell (o := 2) rfl
    have cS := bS1.cell
    have GS : Hid (gauL L (pre ++ [x]) = gauL L pre ++ [.int .i64 (m1 L x), .int .i64 (m1 L x), .int .i64 (m2 L x), .int .i64 (m2 L x), .int .i64 (m3 L x)]) := Lib.hid (gauL_snoc L pre x)
    generalize m1 L x = a1, m2 L x = a2, m3 L x = a3 at x0 x1 x2 GS ⊢
    have C1 := fun w => one_any a1 w
    have C2 := fun w => one_any a2 w
    gi_wp2_with fail
    have H0 : ∀ W', Below W.heap.size W W' → Below N w1 W' ∧ N + 2 ≤ W'.heap.size ∧ Boxed W' N 22 v ∧ Boxed W' (N + 1) 34 (.slice (some ⟨b, off, none⟩) L.length cap) ∧ W'.ownsRow N 67 5 v pre.length (gauL L pre) ∧ KeepsFrom W0.heap.size W W' ∧ KeepN N (N + 1) W W' :=
      fun W' hW' => ⟨hB1.trans (hW'.mono (by omega)), Nat.le_trans hs1 hW'.size, below_box hW' bS1, below_box hW' bC1, own_keep hr1 hW', keepsFrom_below W0.heap.size hW', KeepN.below hW' (by omega) (by omega)⟩
    have HH := Lib.hid H0
    clear H0
    refine wpIn_region_grown2 (m := 10) 0 14 [(14, v), (15, .pointer (some ⟨Bx, 0, none⟩)), (16, .int .i64 a1), (17, spn a1 a1), (18, .pointer (some ⟨Bx, 1, none⟩)), (19, .int .i64 a2), (20, spn a2 a2), (21, .pointer (some ⟨Bx, 2, none⟩)), (22, .int .i64 a3), (23, gg a1 a1 a2 a2 a3)] (by kernel_rfl) (fun _ => trivial) (by omega) (by kernel_rfl) (by omega) rfl rfl (by kernel_rfl) ?_ ?_ ?_
    · intro W' hW'
      have d0 := keep_cell hW' x0
      have d1 := keep_cell hW' x1
      have d2 := keep_cell hW' x2
      have dS := keep_cell hW' cS
      clear x0 x1 x2 cS
      simp only [putsL, List.setIfInBounds_toArray, List.set_cons_zero, List.set_cons_succ, List.take_succ_cons, List.take_zero]
      refine ⟨fun d hd => .inl ?_, fun d hd => .inl ?_, fun d hd => .inl ?_, fun d hd => .inr ⟨46, #[.int .i64 a1], ?_, ?_⟩, fun d hd => .inl ?_, fun d hd => .inl ?_, fun d hd => .inr ⟨46, #[.int .i64 a2], ?_, ?_⟩, fun d hd => .inl ?_, fun d hd => .inl ?_, fun d hd => .inl ?_, trivial⟩
      all_goals cases hd
      all_goals first
        | (go_simp; done)
        | (exact CallsIn.inRound l (callsIn_wide.2 ((C1 W').mono fun e w'' h => ⟨h.1, h.2⟩)))
        | (exact CallsIn.inRound l (callsIn_wide.2 ((C2 W').mono fun e w'' h => ⟨h.1, h.2⟩)))
        | trace_state
    · intro W' hW'
      clear x0 x1 x2 cS C1 C2 bS1 bC1 hr1 hs1 hB1
      simp only [putsL, List.filter, bne_self_eq_false, Nat.reduceBNe, List.setIfInBounds_toArray, List.set_cons_zero, List.set_cons_succ, List.length_cons, List.length_nil, Nat.reduceAdd, Nat.reduceSub, ledBut, ledList, List.replicate, List.cons_append, List.nil_append]
      obtain ⟨hB2, hs2, bS2, bC2, hr2, hkf, hkc⟩ := HH.out W' hW'
      have cS2 := bS2.cell
      refine wpAnyIn_ready (rs := [0, 10]) (by kernel_rfl) (by simp) (AllReadyIn.cons rfl (fun K hK => ?_) (AllReadyIn.cons rfl (fun K hK => ?_) AllReadyIn.nil))
      · simp only [List.getElem_toArray, List.getElem_cons_zero]
        rw [if_pos (show Region.wanted _ _ = true from rfl)]
        gi_wp2_with fail
        refine wpAnyIn_ready (rs := [10]) (by kernel_rfl) (by simp) (AllReadyIn.cons rfl (fun K hK => ?_) AllReadyIn.nil)
        simp only [List.getElem_toArray, List.getElem_cons_succ, List.getElem_cons_zero]
        rw [if_pos (show Region.wanted _ _ = true from rfl)]
        gi_wp2_with fail
        refine wpAnyIn_ready (rs := [11]) (by kernel_rfl) (by simp) (AllReadyIn.cons rfl (fun K hK => ?_) AllReadyIn.nil)
        simp only [List.getElem_toArray, List.getElem_cons_succ, List.getElem_cons_zero]
        rw [if_pos (show Region.wanted _ _ = true from rfl)]
        refine operIn_append_own _ (.tmp 14) (.tmp 24) 22 rfl N 67 i0 (gg 0 0 0 0 0) 5 40 Try.underlying22 hi hz0 hz1 hz2 rfl (by decide) v pre.length (gauL L pre) rfl (hr2.alloc _) ⟨W'.heap.size, 0, none⟩ 1 1 [.int .i64 a1, .int .i64 a1, .int .i64 a2, .int .i64 a2, .int .i64 a3] rfl rfl (five_new _ _ _ _ _ _) (five_cells _ _ _ _ _) (by unfold maxLen; omega) (by omega) (by simp; omega) ?_
        intro v' w3 hown' hg3 hnil3
        obtain ⟨bx3, k2, k3, k4, k5⟩ := Boxed.appended bS2 (by decide) hr2 (by omega) (Nat.le_refl _) hown' hg3
        have k6 := KeepN.appended (v' := v') bS2 bC2 hr2 hg3
        have bC3 := ((bC2.alloc (.cells #[.int .i64 a1, .int .i64 a1, .int .i64 a2, .int .i64 a2, .int .i64 a3] 67)).kept hg3 (bC2.not_row (by decide) hr2)).kept (grownBy_setCell' w3 N v') (by simp; done)
        obtain ⟨g', cap', hv'⟩ := ownsRow_succ hown'
        subst hv'
        have cS3 := bx3.cell
        have fS3 := bx3.frozen
        refine hK _ _ ?_
        clear hK K
        refine wpAnyIn_ready (rs := [12]) (by kernel_rfl) (by simp) (AllReadyIn.cons rfl (fun K hK => ?_) AllReadyIn.nil)
        simp only [List.getElem_toArray, List.getElem_cons_succ, List.getElem_cons_zero]
        rw [if_pos (show Region.wanted _ _ = true from rfl)]
        gi_wp2_with fail
        refine wpAnyIn_done (by kernel_rfl) ?_ _
        gi_wp2
        refine ⟨hkf.trans (k4.from _), hkc.trans k6, ⟨⟨_, k2, ?_, trivial⟩, bC3, hB2.trans k5, Nat.le_trans hs2 k4.size⟩⟩
        rw [GS.out]
        simpa using k3
      · simp only [List.getElem_toArray, List.getElem_cons_succ, List.getElem_cons_zero]
        rw [if_pos (show Region.wanted _ _ = true from rfl)]
        gi_wp2_with fail
        have cSa := (bS2.alloc (.cells #[.int .i64 a1, .int .i64 a1, .int .i64 a2, .int .i64 a2, .int .i64 a3] 67)).cell
        refine wpAnyIn_ready (rs := [0]) (by kernel_rfl) (by simp) (AllReadyIn.cons rfl (fun K hK => ?_) AllReadyIn.nil)
        simp only [List.getElem_toArray, List.getElem_cons_zero]
        rw [if_pos (show Region.wanted _ _ = true from rfl)]
        gi_wp2_with fail
        refine wpAnyIn_ready (rs := [11]) (by kernel_rfl) (by simp) (AllReadyIn.cons rfl (fun K hK => ?_) AllReadyIn.nil)
        simp only [List.getElem_toArray, List.getElem_cons_succ, List.getElem_cons_zero]
        rw [if_pos (show Region.wanted _ _ = true from rfl)]
        refine operIn_append_own _ (.tmp 14) (.tmp 24) 22 rfl N 67 i0 (gg 0 0 0 0 0) 5 40 Try.underlying22 hi hz0 hz1 hz2 rfl (by decide) v pre.length (gauL L pre) rfl (hr2.alloc _) ⟨W'.heap.size, 0, none⟩ 1 1 [.int .i64 a1, .int .i64 a1, .int .i64 a2, .int .i64 a2, .int .i64 a3] rfl rfl (five_new _ _ _ _ _ _) (five_cells _ _ _ _ _) (by unfold maxLen; omega) (by omega) (by simp; omega) ?_
        intro v' w3 hown' hg3 hnil3
        obtain ⟨bx3, k2, k3, k4, k5⟩ := Boxed.appended bS2 (by decide) hr2 (by omega) (Nat.le_refl _) hown' hg3
        have k6 := KeepN.appended (v' := v') bS2 bC2 hr2 hg3
        have bC3 := ((bC2.alloc (.cells #[.int .i64 a1, .int .i64 a1, .int .i64 a2, .int .i64 a2, .int .i64 a3] 67)).kept hg3 (bC2.not_row (by decide) hr2)).kept (grownBy_setCell' w3 N v') (by simp; done)
        obtain ⟨g', cap', hv'⟩ := ownsRow_succ hown'
        subst hv'
        have cS3 := bx3.cell
        have fS3 := bx3.frozen
        refine hK _ _ ?_
        clear hK K
        refine wpAnyIn_ready (rs := [12]) (by kernel_rfl) (by simp) (AllReadyIn.cons rfl (fun K hK => ?_) AllReadyIn.nil)
        simp only [List.getElem_toArray, List.getElem_cons_succ, List.getElem_cons_zero]
        rw [if_pos (show Region.wanted _ _ = true from rfl)]
        gi_wp2_with fail
        refine wpAnyIn_done (by kernel_rfl) ?_ _
        gi_wp2
        refine ⟨hkf.trans (k4.from _), hkc.trans k6, ⟨⟨_, k2, ?_, trivial⟩, bC3, hB2.trans k5, Nat.le_trans hs2 k4.size⟩⟩
        rw [GS.out]
        simpa using k3
    · intro W' hW'
      clear x0 x1 x2 cS C1 C2 bS1 bC1 hr1 hs1 hB1
      simp only [putsL, List.setIfInBounds_toArray, List.set_cons_zero, List.set_cons_succ, List.length_cons, List.length_nil, Nat.reduceAdd, Nat.reduceSub, ledList, List.replicate, List.cons_append, List.nil_append]
      obtain ⟨hB2, hs2, bS2, bC2, hr2, hkf, hkc⟩ := HH.out W' hW'
      have cS2 := bS2.cell
      refine wpAnyIn_ready (rs := [10]) (by kernel_rfl) (by simp) (AllReadyIn.cons rfl (fun K hK => ?_) AllReadyIn.nil)
      simp only [List.getElem_toArray, List.getElem_cons_succ, List.getElem_cons_zero]
      rw [if_pos (show Region.wanted _ _ = true from rfl)]
      gi_wp2_with fail
      refine wpAnyIn_ready (rs := [11]) (by kernel_rfl) (by simp) (AllReadyIn.cons rfl (fun K hK => ?_) AllReadyIn.nil)
      simp only [List.getElem_toArray, List.getElem_cons_succ, List.getElem_cons_zero]
      rw [if_pos (show Region.wanted _ _ = true from rfl)]
      refine operIn_append_own _ (.tmp 14) (.tmp 24) 22 rfl N 67 i0 (gg 0 0 0 0 0) 5 40 Try.underlying22 hi hz0 hz1 hz2 rfl (by decide) v pre.length (gauL L pre) rfl (hr2.alloc _) ⟨W'.heap.size, 0, none⟩ 1 1 [.int .i64 a1, .int .i64 a1, .int .i64 a2, .int .i64 a2, .int .i64 a3] rfl rfl (five_new _ _ _ _ _ _) (five_cells _ _ _ _ _) (by unfold maxLen; omega) (by omega) (by simp; omega) ?_
      intro v' w3 hown' hg3 hnil3
      obtain ⟨bx3, k2, k3, k4, k5⟩ := Boxed.appended bS2 (by decide) hr2 (by omega) (Nat.le_refl _) hown' hg3
      have k6 := KeepN.appended (v' := v') bS2 bC2 hr2 hg3
      have bC3 := ((bC2.alloc (.cells #[.int .i64 a1, .int .i64 a1, .int .i64 a2, .int .i64 a2, .int .i64 a3] 67)).kept hg3 (bC2.not_row (by decide) hr2)).kept (grownBy_setCell' w3 N v') (by simp; done)
      obtain ⟨g', cap', hv'⟩ := ownsRow_succ hown'
      subst hv'
      have cS3 := bx3.cell
      have fS3 := bx3.frozen
      refine hK _ _ ?_
      clear hK K
      refine wpAnyIn_ready (rs := [12]) (by kernel_rfl) (by simp) (AllReadyIn.cons rfl (fun K hK => ?_) AllReadyIn.nil)
      simp only [List.getElem_toArray, List.getElem_cons_succ, List.getElem_cons_zero]
      rw [if_pos (show Region.wanted _ _ = true from rfl)]
      gi_wp2_with fail
      refine wpAnyIn_done (by kernel_rfl) ?_ _
      gi_wp2
      refine ⟨hkf.trans (k4.from _), hkc.trans k6, ⟨⟨_, k2, ?_, trivial⟩, bC3, hB2.trans k5, Nat.le_trans hs2 k4.size⟩⟩
      rw [GS.out]
      simpa using k3
  case done =>
    rintro D ks W hD rfl ⟨⟨v, bS1, hr1, -⟩, bC1, hB1, hs1⟩ hK
    have cS := bS1.cell
    gi_wp2
    refine ⟨by simp, .inl ⟨_, _, rfl, run_takeDeferred hK, ?_⟩⟩
    refine ⟨.tuple #[v, .int .i64 0], by simp [results, Try.f15, go_sem], v, rfl, own_base (by simpa using ownsRow_putObj hr1 _ hK rfl) hwN, ?_⟩
    exact keep_below hb1 (by rw [hN]; exact hB1.trans (belowK_b (w := w1) (by omega) W D _ _ (by omega) hK rfl rfl))
  case stop =>
    rintro D c pre W _ _ h _
    exact h.elim

end Go.Proofs.Ytiebbbeijlfedaa
