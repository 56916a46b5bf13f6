/- The iterator over the measures of an outline: its contract. -/
import Derived.Test.YtiebbbeijlfedaaT1
import Derived.Laws.OwnMore
namespace Go.Proofs.Ytiebbbeijlfedaa
open Go Go.RowKit Go.Proofs Go.Abs

attribute [local go_sem] Oper.semAt_some

/-- What a round must keep: what lay below n, the block B, and every row of numbers. -/
structure KeepN (n B : Nat) (W W' : World) : Prop where
  size : W.heap.size ≤ W'.heap.size
  same : ∀ k, k < n ∨ k = B → W'.heap[k]? = W.heap[k]?
  row : ∀ (k : Nat) (c : Array Value) (x : Nat × Nat), W.heap[k]? = some (.cells c 3 x) → W'.heap[k]? = some (.cells c 3 x)

theorem KeepN.refl (n B : Nat) (W : World) : KeepN n B W W := ⟨Nat.le_refl _, fun _ _ => rfl, fun _ _ _ h => h⟩
theorem KeepN.trans {n B : Nat} {X Y Z : World} (h : KeepN n B X Y) (k : KeepN n B Y Z) : KeepN n B X Z :=
  ⟨Nat.le_trans h.size k.size, fun i hi => (k.same i hi).trans (h.same i hi), fun i c x hc => k.row i c x (h.row i c x hc)⟩
theorem KeepN.cell {n B : Nat} {W W' : World} (h : KeepN n B W W') {b o : Nat} {v : Value} (hb : b < n ∨ b = B) (hc : W.cell? ⟨b, o, none⟩ = some v) : W'.cell? ⟨b, o, none⟩ = some v := by
  rw [World.cell?_of_block (h.same b hb)]; exact hc
theorem KeepN.below {n B : Nat} {W W' : World} (h : Below W.heap.size W W') (hn : n ≤ W.heap.size) (hB : B < W.heap.size) : KeepN n B W W' :=
  ⟨h.size, fun k hk => h.block k (by omega), fun k _ _ hc => (h.block k (Array.getElem?_eq_some_iff.1 hc).1).trans hc⟩
theorem KeepN.put {n B l : Nat} {W : World} {o o' : Obj} (h1 : n ≤ l) (h2 : B < l) (ho : W.heap[l]? = some o) (hc : o.isCells = false) : KeepN n B W (W.putObj l o') :=
  ⟨(grownBy_putObj' W l o').size, fun k hk => World.putObj_heap_other (by omega), fun k c x hk => by
    have : k ≠ l := fun e => by subst e; rw [hk] at ho; cases ho; cases hc
    exact (World.putObj_heap_other this).trans hk⟩

/-- The three measures of an edge. -/
abbrev ms (a b c : Int) : Value := .agg #[.int .i64 a, .int .i64 b, .int .i64 c]
def sqK (L : List (Int × Int)) (i j : Nat) : Int := square (px L i) (py L i) (px L j) (py L j)
def m1 (L : List (Int × Int)) (x : Nat) : Int := sqK L x ((x + 1) % L.length)
def m2 (L : List (Int × Int)) (x : Nat) : Int := sqK L x ((x + 2) % L.length)
def m3 (L : List (Int × Int)) (x : Nat) : Int := bendS (px L) (py L) L.length ((x + 1) % L.length)
abbrev msV (L : List (Int × Int)) (x : Nat) : Value := ms (m1 L x) (m2 L x) (m3 L x)

theorem square_ok {L : List (Int × Int)} (hv : vOut L = true) {i j : Nat} (hi : i < L.length) (hj : j < L.length) (w : World) :
    Calls Try.prog 80 #[pt (px L i) (py L i), pt (px L j) (py L j)] w fun e w' => e = .returned (.tuple #[.int .i64 (sqK L i j), .int .i64 0]) ∧ Below w.heap.size w w' := by
  have hp := (vOut_n hv).2.2
  unfold vPts allValid at hp
  rw [List.all_eq_true] at hp
  have h1 := hp i (List.mem_range.2 hi)
  have h2 := hp j (List.mem_range.2 hj)
  have := squareP_any (px L i) (py L i) (px L j) (py L j) w
  rw [h1, h2] at this
  exact this

theorem bendL_get {xs ys : Nat → Int} {n k : Nat} (h : k < n) : (bendL xs ys n (List.range n))[k]? = some (.int .i64 (bendS xs ys n k)) := by
  unfold bendL
  rw [List.getElem?_map, List.getElem?_range h]
  rfl

set_option maxRecDepth 100000 in
set_option maxHeartbeats 8000000 in
theorem measured1_in (n : Nat) (hn : 2 ≤ n) (l Bs n₁ b off cap : Nat) (L : List (Int × Int)) (hv : vOut L = true) (hb : b < n₁) (J Jx : List Nat → World → Prop)
    (hY : ∀ pre x W, J pre W → pre.length < L.length → YieldAt Fence.wide (n - 1) Try.prog l #[.int .i64 (x : Nat), ms (m1 L x) (m2 L x) (m3 L x)] W fun e W' =>
      (e = .returned (.bool true) ∧ J (pre ++ [x]) W' ∧ KeepN n₁ Bs W W') ∨ (e = .returned (.bool false) ∧ Jx (pre ++ [x]) W'))
    (W : World) (hn1 : n₁ ≤ W.heap.size) (hBs : W.cell? ⟨Bs, 0, none⟩ = some (.slice (some ⟨b, off, none⟩) L.length cap)) (hJ : ∀ s W W', J s W → W.grownBy W' none → J s W')
    (hp : PtsAt W b off L) (h0 : J [] W) :
    CallsIn Fence.wide n Try.prog 78 #[.func (.yield l) #[] #[], .pointer (some ⟨Bs, 0, none⟩)] W fun e W' => (∃ v, e = .returned v) ∧
      ((∃ ks, ks = List.range L.length ∧ J ks W') ∨ (∃ pre, (∃ k, k ≤ L.length ∧ pre = List.range k) ∧ Jx pre W')) := by
  have hBlt := lt_of_cell hBs
  have CB := bends_good (cap := cap) hp hv
  obtain ⟨h3, h24, -⟩ := vOut_n hv
  have SQ := fun (i j : Nat) (hi : i < L.length) (hj : j < L.length) (w : World) => square_ok hv hi hj w
  have HM1 := Lib.hid (show ∀ x, m1 L x = sqK L x ((x + 1) % L.length) from fun _ => rfl)
  have HM2 := Lib.hid (show ∀ x, m2 L x = sqK L x ((x + 2) % L.length) from fun _ => rfl)
  have HM3 := Lib.hid (show ∀ x, m3 L x = bendS (px L) (py L) L.length ((x + 1) % L.length) from fun _ => rfl)
  have HY := Lib.hid hY
  have HP := Lib.hid (show ∀ k, k < L.length → _ from hp)
  clear hY hp hv
  generalize m1 L = f1, m2 L = f2, m3 L = f3 at HM1 HM2 HM3 HY
  generalize hlen : L.length = len at *
  refine callsIn_of_wp Try.func78 rfl trivial ?_ rfl
  simp only [Try.ntmps78, List.size_toArray, List.length_cons, List.length_nil, Nat.reduceAdd, Nat.reduceSub, Array.replicate_succ, Array.replicate_zero, List.push_toArray, List.append_toArray, List.nil_append, List.cons_append]
  gi_wp2_with fail
  refine ⟨trivial, fun _ => by omega, ?_⟩
  refine (callsIn_wide.2 CB).mono ?_
  rintro e W1 ⟨r, rfl, o1, hb1⟩
  clear CB
  obtain ⟨g, cap', hr⟩ : ∃ g cap', r = .slice (some ⟨g, 0, none⟩) len cap' := by
    rcases o1.2 with ⟨-, h⟩ | ⟨g, cap', cur, h, -⟩
    · omega
    · exact ⟨g, cap', h⟩
  subst hr
  obtain ⟨cur, hg, hcur⟩ : ∃ cur, W1.heap[g]? = some (.cells cur 3 (0, 0)) ∧ ∀ k, k < len → cur[k]? = some (.int .i64 (bendS (px L) (py L) len k)) := by
    have hc := fun k (hk : k < len) => (o1.cellAt k (by omega)).trans (bendL_get hk)
    rcases o1.2 with ⟨h, -⟩ | ⟨g', cap2, cur, h, -, h2, -⟩
    · cases h
    · simp only [Value.slice.injEq, Option.some.injEq, Addr.mk.injEq] at h
      obtain ⟨⟨rfl, -⟩, -, -⟩ := h
      refine ⟨cur, h2, fun k hk => ?_⟩
      have := hc k hk
      simpa [World.cell?, h2] using this
  clear o1
  have HC := Lib.hid hcur
  have hJ1 : J [] W1 := hJ _ _ _ h0 (grown_below hb1)
  have hK1 : KeepN n₁ Bs W W1 := KeepN.below hb1 hn1 hBlt
  have hBs1 := keep_cell hb1 hBs
  clear hcur h0
  gi_wp2_with fail
  gi_loopw [22] (fun i wr => ∃ k : Nat, k ≤ len ∧ i = .int .i64 k ∧ J (List.range k) wr ∧ KeepN n₁ Bs W wr ∧ wr.heap[g]? = some (.cells cur 3 (0, 0))) (fun i _ => len - (intOf i).toNat)
  case atStart => exact ⟨0, Nat.zero_le _, rfl, hJ1, hK1, hg⟩
  case round =>
    clear hJ1 hK1 hg hb1 hBs1 W1
    obtain ⟨k, hk, rfl, hJs, hkp, hgr⟩ := hrel
    have hBs' := hkp.cell (.inr rfl) hBs
    by_cases hlt : k < len
    · have e0 := (HP.out k hlt).1
      have e1 := (HP.out k hlt).2
      replace e0 := hkp.cell (.inl hb) e0
      replace e1 := hkp.cell (.inl hb) e1
      have i1 : (k : Int) < (len : Int) := by omega
      obtain ⟨q, hq⟩ : ∃ q, (k + 1) % len = q := ⟨_, rfl⟩
      obtain ⟨r, hr⟩ : ∃ r, (k + 2) % len = r := ⟨_, rfl⟩
      have hql : q < len := by rw [← hq]; exact Nat.mod_lt _ (by omega)
      have hrl : r < len := by rw [← hr]; exact Nat.mod_lt _ (by omega)
      have q0 := hkp.cell (.inl hb) (HP.out q hql).1
      have q1 := hkp.cell (.inl hb) (HP.out q hql).2
      have r0 := hkp.cell (.inl hb) (HP.out r hrl).1
      have r1 := hkp.cell (.inl hb) (HP.out r hrl).2
      have iq : (q : Int) < (len : Int) := by omega
      have ir : (r : Int) < (len : Int) := by omega
      have F1 := HM1.out k
      have F2 := HM2.out k
      have F3 := HM3.out k
      rw [hq] at F1 F3
      rw [hr] at F2
      have S1 := fun w => SQ k q hlt hql w
      have S2 := fun w => SQ k r hlt hrl w
      rw [← F1] at S1
      rw [← F2] at S2
      have hcq := HC.out q hql
      rw [← F3] at hcq
      have U1 : IntKind.i64.wrap ((k : Int) + 1) = (k : Int) + 1 := wi64 _ (by omega)
      have U2 : IntKind.i64.wrap ((k : Int) + 2) = (k : Int) + 2 := wi64 _ (by omega)
      have T1 : ((k : Int) + 1).tmod len = (q : Int) := by rw [Int.tmod_eq_emod_of_nonneg (by omega), ← hq, Int.natCast_emod]; congr 1
      have T2 : ((k : Int) + 2).tmod len = (r : Int) := by rw [Int.tmod_eq_emod_of_nonneg (by omega), ← hr, Int.natCast_emod]; congr 1
      have l0 : ¬ len = 0 := by omega
      have HY1 := Lib.hid (fun W h => HY.out (List.range k) k W h (by simpa using hlt))
      generalize f1 k = a1 at S1 HY1
      generalize f2 k = a2 at S2 HY1
      generalize f3 k = a3 at hcq HY1
      generalize px L k = xk, py L k = yk at e0 e1 S1 S2
      generalize px L q = xq, py L q = yq at q0 q1 S1
      generalize px L r = xr, py L r = yr at r0 r1 S2
      clear SQ HY HM1 HM2 HM3 HP HC F1 F2 F3 hq hr
      gi_wp2_with fail
      have hBs2 := pt_old wr (ptObj xk yk) hBs'
      have q02 := pt_old wr (ptObj xk yk) q0
      have q12 := pt_old wr (ptObj xk yk) q1
      have r02 := pt_old wr (ptObj xk yk) r0
      have r12 := pt_old wr (ptObj xk yk) r1
      have B0 := pt_new wr xk yk
      have kb2 : KeepN n₁ Bs W (wr.alloc (ptObj xk yk)) := hkp.trans (KeepN.below ((Below.refl _ _).alloc (Nat.le_refl _) _) (Nat.le_trans hn1 hkp.size) (lt_of_cell hBs'))
      have g2 : (wr.alloc (ptObj xk yk)).heap[g]? = some (.cells cur 3 (0, 0)) := (KeepN.below (n := 0) (B := 0) ((Below.refl _ _).alloc (Nat.le_refl _) _) (by omega) (by have := lt_of_cell hBs'; omega)).row _ _ _ hgr
      have J2 : J (List.range k) (wr.alloc (ptObj xk yk)) := hJ _ _ _ hJs (grown_below ((Below.refl _ _).alloc (Nat.le_refl _) _))
      have hPB := lt_of_cell B0.1
      change Code.wpIn _ _ _ _ _ _ (wr.alloc (ptObj xk yk))
      obtain ⟨P, hP⟩ : ∃ P, wr.heap.size = P := ⟨_, rfl⟩
      rw [hP] at B0 hPB
      simp only [hP]
      generalize wr.alloc (ptObj xk yk) = X at *
      clear hP e0 e1 q0 q1 r0 r1 hBs' hkp hgr hJs
      refine wpIn_region_grown (m := 11) [(32, pt xk yk), (33, .slice (some ⟨b, off, none⟩) len cap), (34, .int .i64 q), (35, .pointer (some ⟨b, off + q * 2, none⟩)), (36, pt xq yq), (37, .tuple #[.int .i64 a1, .int .i64 0]), (31, .tuple #[.int .i64 a1, .int .i64 0]), (38, .int .i64 a1), (39, .int .i64 0), (9, .int .i64 a1), (10, .int .i64 0)] (by kernel_rfl) (fun _ => trivial) (by omega) (by kernel_rfl) rfl (by kernel_rfl) ?_ ?_
      · intro X' hX'
        have d0 := keep_cell hX' hBs2
        have d1 := keep_cell hX' q02
        have d2 := keep_cell hX' q12
        have d3 := keep_cell hX' B0.1
        have d4 := keep_cell hX' B0.2
        clear hBs2 q02 q12 r02 r12 B0
        simp only [putsL, List.setIfInBounds_toArray, List.set_cons_zero, List.set_cons_succ, List.take_succ_cons, List.take_zero]
        refine ⟨fun d hd => .inl ?_, fun d hd => .inl ?_, fun d hd => .inl ?_, fun d hd => .inl ?_, fun d hd => .inl ?_, fun d hd => .inr ⟨80, #[pt xk yk, pt xq yq], ?_, ?_⟩, fun d hd => .inl ?_, fun d hd => .inl ?_, fun d hd => .inl ?_, fun d hd => .inl ?_, fun d hd => .inl ?_, trivial⟩
        all_goals cases hd
        all_goals first
          | (go_simp; done)
          | (exact callsIn_wide.2 ((S1 X').mono fun e w'' h => ⟨h.1, h.2⟩))
          | trace_state
      · intro X2 hX2
        have kb3 := kb2.trans (KeepN.below hX2 (Nat.le_trans hn1 kb2.size) (lt_of_cell hBs2))
        have g3 := (hX2.block _ (Array.getElem?_eq_some_iff.1 g2).1).trans g2
        have J3 := hJ _ _ _ J2 (grown_below hX2)
        replace hBs2 := keep_cell hX2 hBs2
        replace r02 := keep_cell hX2 r02
        replace r12 := keep_cell hX2 r12
        replace B0 := And.intro (keep_cell hX2 B0.1) (keep_cell hX2 B0.2)
        clear kb2 g2 J2 q02 q12 hX2 hPB X
        simp only [putsL, List.setIfInBounds_toArray, List.set_cons_zero, List.set_cons_succ, List.length_cons, List.length_nil, Nat.reduceAdd, Nat.reduceSub, ledList, List.replicate, List.cons_append, List.nil_append]
        refine wpAnyIn_done (by kernel_rfl) ?_ _
        gi_wp2_with fail
        refine wpIn_region_grown (m := 14) [(41, pt xk yk), (42, .slice (some ⟨b, off, none⟩) len cap), (43, .int .i64 k), (44, .int .i64 ((k : Int) + 2)), (45, .int .i64 len), (46, .int .i64 r), (47, .pointer (some ⟨b, off + r * 2, none⟩)), (48, pt xr yr), (49, .tuple #[.int .i64 a2, .int .i64 0]), (40, .tuple #[.int .i64 a2, .int .i64 0]), (50, .int .i64 a2), (51, .int .i64 0), (11, .int .i64 a2), (12, .int .i64 0)] (by kernel_rfl) (fun _ => trivial) (by omega) (by kernel_rfl) rfl (by kernel_rfl) ?_ ?_
        · intro X' hX'
          have d0 := keep_cell hX' hBs2
          have d1 := keep_cell hX' r02
          have d2 := keep_cell hX' r12
          have d3 := keep_cell hX' B0.1
          have d4 := keep_cell hX' B0.2
          clear hBs2 r02 r12 B0
          simp only [putsL, List.setIfInBounds_toArray, List.set_cons_zero, List.set_cons_succ, List.take_succ_cons, List.take_zero]
          refine ⟨fun d hd => .inl ?_, fun d hd => .inl ?_, fun d hd => .inl ?_, fun d hd => .inl ?_, fun d hd => .inl ?_, fun d hd => .inl ?_, fun d hd => .inl ?_, fun d hd => .inl ?_, fun d hd => .inr ⟨80, #[pt xk yk, pt xr yr], ?_, ?_⟩, fun d hd => .inl ?_, fun d hd => .inl ?_, fun d hd => .inl ?_, fun d hd => .inl ?_, fun d hd => .inl ?_, trivial⟩
          all_goals cases hd
          all_goals first
            | (go_simp; done)
            | (exact callsIn_wide.2 ((S2 X').mono fun e w'' h => ⟨h.1, h.2⟩))
            | trace_state
        · intro X4 hX4
          have kb5 := kb3.trans (KeepN.below hX4 (Nat.le_trans hn1 kb3.size) (lt_of_cell hBs2))
          have g5 := (hX4.block _ (Array.getElem?_eq_some_iff.1 g3).1).trans g3
          have J5 := hJ _ _ _ J3 (grown_below hX4)
          clear kb3 g3 J3 hBs2 r02 r12 B0 hX4 X2
          simp only [putsL, List.setIfInBounds_toArray, List.set_cons_zero, List.set_cons_succ, List.length_cons, List.length_nil, Nat.reduceAdd, Nat.reduceSub, ledList, List.replicate, List.cons_append, List.nil_append]
          refine wpAnyIn_done (by kernel_rfl) ?_ _
          have c5 : X4.cell? ⟨g, q, none⟩ = some (.int .i64 a3) := by simp [World.cell?, g5, hcq]
          obtain ⟨fn, tmps, assign, body, hy, hR⟩ := HY1.out X4 J5
          gi_wp2_with fail
          refine ⟨fun _ => by omega, hR.mono ?_⟩
          rintro e W3 (⟨rfl, hJ3, hk3⟩ | ⟨rfl, hJx3⟩)
          · gi_wp2
            refine ⟨⟨k + 1, by omega, by simp, by rw [List.range_succ]; exact hJ3, kb5.trans hk3, hk3.row _ _ _ g5⟩, by simp [intOf]; omega⟩
          · gi_wp2
            refine bodyPost_ret (results_none rfl _ _ _) rfl ?_
            exact ⟨⟨_, rfl⟩, .inr ⟨_, ⟨k + 1, by omega, List.range_succ.symm⟩, hJx3⟩⟩
    · obtain rfl : k = len := by omega
      gi_wp2
      go_end0
      exact ⟨⟨_, rfl⟩, .inl ⟨_, rfl, hJs⟩⟩

abbrev msE (L : List (Int × Int)) (x : Nat) : Array Value := #[.int .i64 (x : Nat), ms (m1 L x) (m2 L x) (m3 L x)]

theorem measured_stops (n : Nat) (hn : 2 ≤ n) (Bs n₁ b off cap : Nat) (L : List (Int × Int)) (hv : vOut L = true) (hb : b < n₁) (w : World) (hn1 : n₁ ≤ w.heap.size)
    (hcB : w.cell? ⟨Bs, 0, none⟩ = some (.slice (some ⟨b, off, none⟩) L.length cap)) (hp : PtsAt w b off L) :
    SeqStopsK Fence.wide n Try.prog 78 #[.pointer (some ⟨Bs, 0, none⟩)] (msE L) (KeepN n₁ Bs) (fun ks => ks = List.range L.length) (fun pre => ∃ k, k ≤ L.length ∧ pre = List.range k) L.length w := fun l J Jx W hW hJ _ hY h0 =>
  measured1_in n hn l Bs n₁ b off cap L hv hb J Jx hY W (Nat.le_trans hn1 hW.size) (keep_cell hW hcB) (fun s A B hs hg => hJ s A B none hs hg (fun r e => by cases e)) (hp.keep hW) h0

set_option maxHeartbeats 1000000 in
theorem measured_in (n : Nat) (a : Option Addr) (len cap : Nat) (w : World) :
    CallsIn Fence.wide n Try.prog 45 #[.slice a len cap] w fun e w' => e = .returned (.func (.func 78) #[] #[.pointer (some ⟨w.heap.size, 0, none⟩)]) ∧ w' = w.alloc (.cells #[.slice a len cap] 34) := by
  refine callsIn_of_wp Try.func45 rfl trivial ?_ rfl
  simp only [Try.ntmps45, List.size_toArray, List.length_cons, List.length_nil, Nat.reduceAdd, Nat.reduceSub, Array.replicate_succ, Array.replicate_zero, List.push_toArray, List.append_toArray, List.nil_append, List.cons_append]
  gi_wp2
  go_ret
  exact ⟨rfl, rfl⟩

end Go.Proofs.Ytiebbbeijlfedaa
