/- The iterator over the corners of a closed polygon: its contract. -/
import Derived.Test.YtpknllbglppjcaaQC
import Derived.Test.YtpknllbglppjcaaQB
import Derived.RangeFuncNested
import Derived.RangeFuncBound
import Derived.RangeFuncCalls
import Derived.RangeFuncLeaves
import Derived.Shelf.Abstract
import Derived.Shelf.RegionOpen
import Derived.WalkKit
import Derived.OwnWalkIn
import Derived.TacticsInMore
import Derived.LoopNIn
import Derived.LoopIn
import Derived.Lib.Hide
namespace Go.Proofs.Ytpknllbglppjcaa
open Go Go.RowKit Go.Proofs Go.Abs

attribute [local go_sem] Oper.semAt_some

/-- What a round must keep: what lay below n, and the block B. -/
structure KeepC (n B : Nat) (W W' : World) : Prop where
  size : W.heap.size ≤ W'.heap.size
  same : ∀ k, k < n ∨ k = B → W'.heap[k]? = W.heap[k]?

theorem KeepC.refl (n B : Nat) (W : World) : KeepC n B W W := ⟨Nat.le_refl _, fun _ _ => rfl⟩
theorem KeepC.trans {n B : Nat} {X Y Z : World} (h : KeepC n B X Y) (k : KeepC n B Y Z) : KeepC n B X Z := ⟨Nat.le_trans h.size k.size, fun i hi => (k.same i hi).trans (h.same i hi)⟩
theorem KeepC.cell {n B : Nat} {W W' : World} (h : KeepC n B W W') {b o : Nat} {v : Value} (hb : b < n ∨ b = B) (hc : W.cell? ⟨b, o, none⟩ = some v) : W'.cell? ⟨b, o, none⟩ = some v := by
  rw [World.cell?_of_block (h.same b hb)]; exact hc
theorem KeepC.below {n B : Nat} {W W' : World} (h : Below W.heap.size W W') (hn : n ≤ W.heap.size) (hB : B < W.heap.size) : KeepC n B W W' := ⟨h.size, fun k hk => h.block k (by omega)⟩

/-- The six numbers of a corner: the one before, itself, the one behind. -/
abbrev cnrV (xs ys : Nat → Int) (p k q : Nat) : Value := .agg #[.int .i64 (xs p), .int .i64 (ys p), .int .i64 (xs k), .int .i64 (ys k), .int .i64 (xs q), .int .i64 (ys q)]

set_option maxRecDepth 100000 in
set_option maxHeartbeats 4000000 in
theorem corners1_in (F : Fence) (n : Nat) (h140 : F.fn 140) (hro : F.round = none) (hn : 1 ≤ n) (l Bs n₁ b off len cap : Nat) (xs ys : Nat → Int) (hlen : len ≤ 1000000) (hb : b < n₁) (J Jx : List Nat → World → Prop)
    (hY : ∀ pre x W, J pre W → pre.length < len → YieldAt F (n - 1) Try.prog l #[.int .i64 (x : Nat), cnrV xs ys ((x + len - 1) % len) x ((x + 1) % len)] W fun e W' =>
      (e = .returned (.bool true) ∧ J (pre ++ [x]) W' ∧ KeepC n₁ Bs W W') ∨ (e = .returned (.bool false) ∧ Jx (pre ++ [x]) W'))
    (W : World) (hn1 : n₁ ≤ W.heap.size) (hBs : W.cell? ⟨Bs, 0, none⟩ = some (.slice (some ⟨b, off, none⟩) len cap)) (hJ : ∀ s W W', J s W → W.grownBy W' none → J s W')
    (hc : ∀ k, k < len → W.cell? ⟨b, off + k * 2, none⟩ = some (.int .i64 (xs k)) ∧ W.cell? ⟨b, off + k * 2 + 1, none⟩ = some (.int .i64 (ys k))) (h0 : J [] W) :
    CallsIn F n Try.prog 140 #[.func (.yield l) #[] #[], .pointer (some ⟨Bs, 0, none⟩)] W fun e W' => (∃ v, e = .returned v) ∧
      ((∃ ks, ks = List.range len ∧ J ks W') ∨ (∃ pre, (∃ k, k ≤ len ∧ pre = List.range k) ∧ Jx pre W')) := by
  refine callsIn_of_wp Try.func140 rfl h140 ?_ hro
  simp only [Try.ntmps140, List.size_toArray, List.length_cons, List.length_nil, Nat.reduceAdd, Nat.reduceSub, Array.replicate_succ, Array.replicate_zero, List.push_toArray, List.append_toArray, List.nil_append, List.cons_append]
  gi_wp2
  gi_loopw [10] (fun i wr => ∃ k : Nat, k ≤ len ∧ i = .int .i64 k ∧ J (List.range k) wr ∧ KeepC n₁ Bs W wr) (fun i _ => len - (intOf i).toNat)
  case atStart => exact ⟨0, Nat.zero_le _, rfl, h0, KeepC.refl _ _ _⟩
  case round =>
    obtain ⟨k, hk, rfl, hJs, hkp⟩ := hrel
    have hBs' := hkp.cell (.inr rfl) hBs
    have hcx : ∀ k, k < len → wr.cell? ⟨b, off + k * 2, none⟩ = some (.int .i64 (xs k)) ∧ wr.cell? ⟨b, off + k * 2 + 1, none⟩ = some (.int .i64 (ys k)) := fun k h => ⟨hkp.cell (.inl hb) (hc k h).1, hkp.cell (.inl hb) (hc k h).2⟩
    clear hBs hc
    by_cases hlt : k < len
    · have e0 := (hcx k hlt).1
      have e1 := (hcx k hlt).2
      have i1 : (k : Int) < (len : Int) := by omega
      obtain ⟨p, hp⟩ : ∃ p, (k + len - 1) % len = p := ⟨_, rfl⟩
      obtain ⟨q, hq⟩ : ∃ q, (k + 1) % len = q := ⟨_, rfl⟩
      have hpl : p < len := by rw [← hp]; exact Nat.mod_lt _ (by omega)
      have hql : q < len := by rw [← hq]; exact Nat.mod_lt _ (by omega)
      have p0 := (hcx p hpl).1
      have p1 := (hcx p hpl).2
      have q0 := (hcx q hql).1
      have q1 := (hcx q hql).2
      have ip : (p : Int) < (len : Int) := by omega
      have iq : (q : Int) < (len : Int) := by omega
      have HP := Lib.hid hp
      have HQ := Lib.hid hq
      clear hp hq hcx
      gi_wp2_with fail
      have A0 := pt_old wr (ptObj (xs k) (ys k)) hBs'
      have A1 := pt_old wr (ptObj (xs k) (ys k)) p0
      have A2 := pt_old wr (ptObj (xs k) (ys k)) p1
      have A3 := pt_old wr (ptObj (xs k) (ys k)) q0
      have A4 := pt_old wr (ptObj (xs k) (ys k)) q1
      have B0 := pt_new wr (xs k) (ys k)
      have l0 : ¬ len = 0 := by omega
      have T1 : ((k : Int) + len - 1).tmod len = (p : Int) := by rw [Int.tmod_eq_emod_of_nonneg (by omega), ← HP.out, Int.natCast_emod]; congr 1; omega
      have T2 : ((k : Int) + 1).tmod len = (q : Int) := by rw [Int.tmod_eq_emod_of_nonneg (by omega), ← HQ.out, Int.natCast_emod]; congr 1
      have U1 : IntKind.i64.wrap ((k : Int) + len) = (k : Int) + len := wi64 _ (by omega)
      have U2 : IntKind.i64.wrap ((k : Int) + len - 1) = (k : Int) + len - 1 := wi64 _ (by omega)
      have U3 : IntKind.i64.wrap ((k : Int) + 1) = (k : Int) + 1 := wi64 _ (by omega)
      refine wpIn_region_led (m := 20) [(15, .func (.yield l) #[] #[]), (16, .int .i64 k), (17, .slice (some ⟨b, off, none⟩) len cap), (18, .int .i64 k), (19, .int .i64 len), (20, .int .i64 ((k : Int) + len)), (21, .int .i64 ((k : Int) + len - 1)), (22, .int .i64 len), (23, .int .i64 (p : Nat)), (24, .pointer (some ⟨b, off + p * 2, none⟩)), (25, pt (xs p) (ys p)), (26, pt (xs k) (ys k)), (27, .slice (some ⟨b, off, none⟩) len cap), (28, .int .i64 k), (29, .int .i64 ((k : Int) + 1)), (30, .int .i64 len), (31, .int .i64 (q : Nat)), (32, .pointer (some ⟨b, off + q * 2, none⟩)), (33, pt (xs q) (ys q)), (34, cnrV xs ys p k q)] (by kernel_rfl) hro (by kernel_rfl) rfl ?_ ?_
      · simp only [putsL, List.setIfInBounds_toArray, List.set_cons_zero, List.set_cons_succ, List.take_succ_cons, List.take_zero]
        refine ⟨fun d hd => ?_, ⟨fun d hd => ?_, ⟨fun d hd => ?_, ⟨fun d hd => ?_, ⟨fun d hd => ?_, ⟨fun d hd => ?_, ⟨fun d hd => ?_, ⟨fun d hd => ?_, ⟨fun d hd => ?_, ⟨fun d hd => ?_, ⟨fun d hd => ?_, ⟨fun d hd => ?_, ⟨fun d hd => ?_, ⟨fun d hd => ?_, ⟨fun d hd => ?_, ⟨fun d hd => ?_, ⟨fun d hd => ?_, ⟨fun d hd => ?_, ⟨fun d hd => ?_, ⟨fun d hd => ?_, trivial⟩⟩⟩⟩⟩⟩⟩⟩⟩⟩⟩⟩⟩⟩⟩⟩⟩⟩⟩⟩
        all_goals cases hd
        all_goals refine ⟨?_, by simp⟩
        all_goals go_simp
      · clear A0 A1 A2 A3 A4 B0 T1 T2 U1 U2 U3 l0
        simp only [putsL, List.setIfInBounds_toArray, List.set_cons_zero, List.set_cons_succ, List.length_cons, List.length_nil, Nat.reduceAdd, Nat.reduceSub, ledList, List.replicate, List.cons_append, List.nil_append]
        have hJ1 : J (List.range k) (wr.alloc (ptObj (xs k) (ys k))).drew := hJ _ _ _ (hJ _ _ _ hJs (World.grownBy_alloc wr _ none)) ⟨rfl, rfl, rfl, Nat.le_refl _, fun _ _ _ => rfl⟩
        obtain ⟨fn, tmps, assign, body, hy, hR⟩ := hY _ k _ hJ1 (by simpa using hlt)
        rw [HP.out, HQ.out] at hy
        refine wpAnyIn_ready (rs := [20]) (by kernel_rfl) (by simp) (AllReadyIn.cons rfl (fun K hK => ?_) AllReadyIn.nil)
        simp only [List.getElem_toArray, List.getElem_cons_succ, List.getElem_cons_zero]
        rw [if_pos (show Region.wanted _ _ = true from rfl)]
        gi_wp2
        refine hR.mono ?_
        rintro e W3 (⟨rfl, hJ3, hk3⟩ | ⟨rfl, hJx3⟩)
        · skip
          refine hK _ _ ?_
          clear hK K
          refine wpAnyIn_ready (rs := [21]) (by kernel_rfl) (by simp) (AllReadyIn.cons rfl (fun K hK => ?_) AllReadyIn.nil)
          simp only [List.getElem_toArray, List.getElem_cons_succ, List.getElem_cons_zero]
          rw [if_pos (show Region.wanted _ _ = true from rfl)]
          gi_wp2
          refine wpAnyIn_done (by kernel_rfl) ?_ _
          gi_wp2
          refine ⟨⟨k + 1, by omega, by simp, by rw [List.range_succ]; exact hJ3, (hkp.trans ?_).trans hk3⟩, by simp [intOf]; omega⟩
          exact KeepC.below (((Below.refl _ _).alloc (Nat.le_refl _) _).drew) (Nat.le_trans hn1 hkp.size) (lt_of_cell hBs')
        · skip
          refine hK _ _ ?_
          clear hK K
          refine wpAnyIn_ready (rs := [21]) (by kernel_rfl) (by simp) (AllReadyIn.cons rfl (fun K hK => ?_) AllReadyIn.nil)
          simp only [List.getElem_toArray, List.getElem_cons_succ, List.getElem_cons_zero]
          rw [if_pos (show Region.wanted _ _ = true from rfl)]
          gi_wp2
          refine wpAnyIn_done (by kernel_rfl) ?_ _
          gi_wp2
          refine bodyPost_ret (results_none rfl _ _ _) rfl ?_
          exact ⟨⟨_, rfl⟩, .inr ⟨_, ⟨k + 1, by omega, List.range_succ.symm⟩, hJx3⟩⟩
    · obtain rfl : k = len := by omega
      gi_wp2
      go_end0
      exact ⟨⟨_, rfl⟩, .inl ⟨_, rfl, hJs⟩⟩

abbrev cnrE (xs ys : Nat → Int) (len : Nat) (x : Nat) : Array Value := #[.int .i64 (x : Nat), cnrV xs ys ((x + len - 1) % len) x ((x + 1) % len)]

theorem corners_stops (F : Fence) (n : Nat) (h140 : F.fn 140) (hro : F.round = none) (hn : 1 ≤ n) (Bs n₁ b off len cap : Nat) (xs ys : Nat → Int) (hlen : len ≤ 1000000) (hb : b < n₁) (w : World) (_hBs : Bs < w.heap.size) (hn1 : n₁ ≤ w.heap.size)
    (hcB : w.cell? ⟨Bs, 0, none⟩ = some (.slice (some ⟨b, off, none⟩) len cap)) (hc : ∀ k, k < len → w.cell? ⟨b, off + k * 2, none⟩ = some (.int .i64 (xs k)) ∧ w.cell? ⟨b, off + k * 2 + 1, none⟩ = some (.int .i64 (ys k))) :
    SeqStopsK F n Try.prog 140 #[.pointer (some ⟨Bs, 0, none⟩)] (cnrE xs ys len) (KeepC n₁ Bs) (fun ks => ks = List.range len) (fun pre => ∃ k, k ≤ len ∧ pre = List.range k) len w := fun l J Jx W hW hJ _ hY h0 =>
  corners1_in F n h140 hro hn l Bs n₁ b off len cap xs ys hlen hb J Jx hY W (Nat.le_trans hn1 hW.size) (keep_cell hW hcB) (fun s A B hs hg => hJ s A B none hs hg (fun r e => by cases e))
    (fun k hk => ⟨keep_cell hW (hc k hk).1, keep_cell hW (hc k hk).2⟩) h0

set_option maxHeartbeats 1000000 in
theorem corners_in (F : Fence) (n : Nat) (h98 : F.fn 98) (hro : F.round = none) (a : Option Addr) (len cap : Nat) (w : World) :
    CallsIn F n Try.prog 98 #[.slice a len cap] w fun e w' => e = .returned (.func (.func 140) #[] #[.pointer (some ⟨w.heap.size, 0, none⟩)]) ∧ w' = w.alloc (.cells #[.slice a len cap] 32) := by
  refine callsIn_of_wp Try.func98 rfl h98 ?_ hro
  simp only [Try.ntmps98, List.size_toArray, List.length_cons, List.length_nil, Nat.reduceAdd, Nat.reduceSub, Array.replicate_succ, Array.replicate_zero, List.push_toArray, List.append_toArray, List.nil_append, List.cons_append]
  gi_wp2
  go_ret
  exact ⟨rfl, rfl⟩

end Go.Proofs.Ytpknllbglppjcaa
