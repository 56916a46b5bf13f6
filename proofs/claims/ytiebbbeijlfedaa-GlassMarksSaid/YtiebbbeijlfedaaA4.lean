/- Walks: tableOf. -/
import Derived.Test.YtiebbbeijlfedaaA2
import Derived.Test.YtiebbbeijlfedaaA3
import Derived.Laws.CopyOwn
import Derived.Deep.MidRow
import Derived.StillTailTactics
import Derived.RangeFuncBox
import Derived.Deep.Upon
import Derived.Deep.Cut
import Derived.Deep.CutBlock
namespace Go.Proofs.Ytiebbbeijlfedaa
open Go Go.RowKit Go.Proofs

abbrev filmO (id : Int) (v : Value) : Obj := .cells #[.int .i64 id, v] 28 (0, 0)
def rowK (k : Nat) : List Value := List.replicate k (.int .i64 (-1)) ++ List.replicate (16 - k) (.int .i64 0)
def cellT (L : List Int) (j : Nat) : Value := .int .i64 (if j < L.length then iz L j else -1)
def tab (L : List Int) : List Value := (List.range 16).map (cellT L)

theorem rowK_length {k : Nat} (h : k ≤ 16) : (rowK k).length = 16 := by simp [rowK]; omega

theorem rowK_set {k : Nat} (h : k < 16) : (rowK k).toArray.setIfInBounds k (.int .i64 (-1)) = (rowK (k + 1)).toArray := by
  rw [List.setIfInBounds_toArray]
  congr 1
  unfold rowK
  obtain ⟨m, hm⟩ : ∃ m, 16 - k = m + 1 := ⟨15 - k, by omega⟩
  have e : 16 - (k + 1) = m := by omega
  rw [e, hm, List.replicate_succ, List.set_append]
  simp [List.replicate_succ']

theorem setCell_heap {w : World} {b k : Nat} {c : Array Value} {t : TypeId} {fr : Nat × Nat} (v : Value) (h : w.heap[b]? = some (.cells c t fr)) :
    (w.setCell ⟨b, k, none⟩ v).heap[b]? = some (.cells (c.setIfInBounds k v) t fr) := by
  obtain ⟨hlt, hk⟩ := Array.getElem?_eq_some_iff.1 h
  show (w.heap.modify b _)[b]? = _
  rw [Array.getElem?_eq_getElem (by rw [Array.size_modify]; exact hlt), Array.getElem_modify_self, hk]
  rfl

theorem cell_of {w : World} {b k : Nat} {c : Array Value} {t : TypeId} {fr : Nat × Nat} {v : Value} (h : w.heap[b]? = some (.cells c t fr)) (hv : c[k]? = some v) : w.cell? ⟨b, k, none⟩ = some v := by
  unfold World.cell?
  simp [h, hv]

theorem frozen_of {w : World} {b k : Nat} {c : Array Value} {t : TypeId} (h : w.heap[b]? = some (.cells c t (0, 0))) : w.frozen? ⟨b, k, none⟩ = false := by
  unfold World.frozen?
  simp [h]

theorem tab_splice {L : List Int} (h : L.length ≤ 16) : splice (rowK 16) 0 ((List.range L.length).map fun j => Value.int .i64 (iz L j)) = tab L := by
  apply List.ext_getElem?
  intro j
  unfold splice tab rowK cellT
  simp only [List.take_zero, List.nil_append, List.length_map, List.length_range, Nat.zero_add, Nat.sub_self, List.replicate_zero, List.append_nil]
  rcases Nat.lt_or_ge j L.length with h1 | h1
  · rw [List.getElem?_append_left (by simpa using h1)]
    simp [List.getElem?_range (show j < 16 by omega), h1]
  · rw [List.getElem?_append_right (by simpa using h1)]
    rcases Nat.lt_or_ge j 16 with h2 | h2
    · rw [List.length_map, List.length_range, List.getElem?_drop, List.getElem?_replicate, if_pos (by omega), List.getElem?_map, List.getElem?_range h2, Option.map_some, if_neg (by omega)]
    · rw [List.getElem?_eq_none (by simp; omega), List.getElem?_eq_none (by simp; omega)]

theorem alloc_heap_old (w : World) (o : Obj) {k : Nat} (h : k < w.heap.size) : (w.alloc o).heap[k]? = w.heap[k]? := by
  show (w.heap.push o)[k]? = _
  rw [Array.getElem?_push, if_neg (by omega)]

theorem alloc_heap_new (w : World) (o : Obj) : (w.alloc o).heap[w.heap.size]? = some o := by
  show (w.heap.push o)[w.heap.size]? = some o
  simp

theorem slice94 (b : Nat) (w : World) : (Instr.sliceAt 94 (.pointer (some ⟨b, 0, none⟩)) none none none).run Try.prog w = .ok (.slice (some ⟨b, 0, none⟩) 16 16) w := by kernel_rfl

theorem range_of {w : World} {b : Nat} {cs : List Value} {t : TypeId} (h : w.heap[b]? = some (.cells cs.toArray t (0, 0))) : w.rangeAt b 0 cs := by
  intro j v hv
  rw [Nat.zero_add]
  exact cell_of h (by simpa using hv)

theorem there_of {w : World} {b : Nat} {cs : List Value} {t : TypeId} (h : w.heap[b]? = some (.cells cs.toArray t (0, 0))) : w.there b 0 cs.length := by
  intro j hj
  rw [Nat.zero_add]
  refine ⟨?_, frozen_of h⟩
  rw [cell_of h (v := cs[j]) (by simp [hj])]
  rfl

theorem tab_length (L : List Int) : (tab L).length = 16 := by simp [tab]

theorem tab_one (L : List Int) : (tab L).toArray.all (·.oneCell') = true := all_oneCell_toArray fun v hv => by
  unfold tab at hv
  rw [List.mem_map] at hv
  obtain ⟨j, -, rfl⟩ := hv
  rfl

theorem size_setCells (b : Nat) : ∀ (vs : List Value) (o : Nat) (w : World), (w.setCells b o vs).heap.size = w.heap.size
  | [], _, _ => rfl
  | v :: r, o, w => by rw [World.setCells, size_setCells b r]; simp

theorem tape_setCells (b : Nat) : ∀ (vs : List Value) (o : Nat) (w : World), (w.setCells b o vs).tape = w.tape
  | [], _, _ => rfl
  | v :: r, o, w => by rw [World.setCells, tape_setCells b r]; rfl

theorem results_cell {P : Program} {fn : Func} {a : Tmp} {t : TypeId} {w : World} {v : Value} {p : Addr} (h : fn.results = #[.cell a t]) (tmps : Array Value) (hp : tmps.getD a undef = .pointer (some p))
    (hl : (loadVar t p).run P w = .ok v w) : (results fn tmps).run P w = .ok v w := by
  have hp' : tmps[a]?.getD undef = .pointer (some p) := by simpa using hp
  simp only [results, h]
  simp [hp', asAddr, hl]

theorem new3 (w : World) (id : Int) (v : Value) : ∃ W0, (((w.alloc (Obj.cells #[Value.int IntKind.i64 id, v] 28)).alloc (Obj.cells #[Value.int IntKind.i64 0, Value.int IntKind.i64 0, Value.int IntKind.i64 0, Value.int IntKind.i64 0, Value.int IntKind.i64 0, Value.int IntKind.i64 0, Value.int IntKind.i64 0, Value.int IntKind.i64 0, Value.int IntKind.i64 0, Value.int IntKind.i64 0, Value.int IntKind.i64 0, Value.int IntKind.i64 0, Value.int IntKind.i64 0, Value.int IntKind.i64 0, Value.int IntKind.i64 0, Value.int IntKind.i64 0] 94)).alloc (Obj.cells #[Value.int IntKind.i64 0, Value.int IntKind.i64 0, Value.int IntKind.i64 0, Value.int IntKind.i64 0, Value.int IntKind.i64 0, Value.int IntKind.i64 0, Value.int IntKind.i64 0, Value.int IntKind.i64 0, Value.int IntKind.i64 0, Value.int IntKind.i64 0, Value.int IntKind.i64 0, Value.int IntKind.i64 0, Value.int IntKind.i64 0, Value.int IntKind.i64 0, Value.int IntKind.i64 0, Value.int IntKind.i64 0] 94)) = W0 ∧ Below w.heap.size w W0 ∧ W0.heap.size = w.heap.size + 3 ∧
    W0.heap[w.heap.size]? = some (.cells #[.int .i64 id, v] 28 (0, 0)) ∧ W0.heap[w.heap.size + 1]? = some (.cells (rowK 0).toArray 94 (0, 0)) ∧ W0.heap[w.heap.size + 1 + 1]? = some (.cells (rowK 0).toArray 94 (0, 0)) := by
  refine ⟨_, rfl, (((Below.refl _ _).alloc (Nat.le_refl _) _).alloc (by simp) _).alloc (by simp; omega) _, by simp, ?_, ?_, ?_⟩
  · rw [alloc_heap_old _ _ (by simp; omega), alloc_heap_old _ _ (by simp)]; exact alloc_heap_new _ _
  · rw [alloc_heap_old _ _ (by simp)]
    have := alloc_heap_new (w.alloc (Obj.cells #[Value.int IntKind.i64 id, v] 28)) (Obj.cells (rowK 0).toArray 94)
    rwa [World.size_alloc] at this
  · have := alloc_heap_new ((w.alloc (Obj.cells #[Value.int IntKind.i64 id, v] 28)).alloc (Obj.cells (rowK 0).toArray 94)) (Obj.cells (rowK 0).toArray 94)
    rwa [World.size_alloc, World.size_alloc] at this

set_option maxRecDepth 100000 in
set_option maxHeartbeats 1000000 in
theorem tableOf_any (id : Int) (v : Value) (L : List Int) (w : World) (h : SlI w v L) (hL : L.length ≤ 16) :
    Calls Try.prog 58 #[film id v] w fun e w' => e = .returned (.agg (tab L).toArray) ∧ Below w.heap.size w w' := by
  obtain ⟨ad, cap, rfl, hl, hc⟩ := h
  go_enter Try.func58, Try.ntmps58
  go_wp2_with fail
  obtain ⟨W0, hW0, hb0, hs0, hF, hR, hT⟩ := new3 w id (.slice ad L.length cap)
  rw [hW0]
  clear hW0
  go_loopw [5] (fun i wr => ∃ k : Nat, k ≤ 16 ∧ i = .int .i64 k ∧ Below w.heap.size w wr ∧ w.heap.size + 3 ≤ wr.heap.size ∧ wr.heap[w.heap.size]? = some (.cells #[.int .i64 id, .slice ad L.length cap] 28 (0, 0)) ∧ wr.heap[w.heap.size + 1]? = some (.cells (rowK 0).toArray 94 (0, 0)) ∧
    wr.heap[w.heap.size + 1 + 1]? = some (.cells (rowK k).toArray 94 (0, 0))) (fun i _ => 16 - (intOf i).toNat)
  case atStart => exact ⟨0, by omega, rfl, hb0, by omega, hF, hR, hT⟩
  case round =>
    clear hb0 hs0 hF hR hT W0
    obtain ⟨k, hk, rfl, hb, hs, hF, hR, hT⟩ := hrel
    by_cases hlt : k < 16
    · have j1 : (k : Int) < 16 := by omega
      have c0 : ∃ u, wr.cell? ⟨w.heap.size + 1 + 1, k, none⟩ = some u := by
        obtain ⟨u, hu⟩ : ∃ u, (rowK k).toArray[k]? = some u := by
          rw [← Option.isSome_iff_exists]; simp [rowK_length hk, hlt]
        exact ⟨u, cell_of hT hu⟩
      obtain ⟨u, c0⟩ := c0
      have f0 : wr.frozen? ⟨w.heap.size + 1 + 1, k, none⟩ = false := frozen_of hT
      have HT := Lib.hid hT
      have HR := Lib.hid hR
      have HF := Lib.hid hF
      clear hT hR hF
      go_wp2
      go_round
      case rel =>
        refine ⟨k + 1, by omega, rfl, hb.setCell (by show w.heap.size ≤ w.heap.size + 1 + 1; omega) _, by simpa using hs, ?_, ?_, ?_⟩
        · rw [Below.heap_setCell _ _ _ _ (by show w.heap.size ≠ w.heap.size + 1 + 1; omega)]; exact HF.out
        · rw [Below.heap_setCell _ _ _ _ (by show w.heap.size + 1 ≠ w.heap.size + 1 + 1; omega)]; exact HR.out
        · rw [← rowK_set hlt]; exact setCell_heap _ HT.out
      case measure => simp [intOf]; omega
    · have hk16 : k = 16 := by omega
      have j1 : ¬ (k : Int) < 16 := by omega
      rw [hk16] at hT
      clear hlt hk hk16
      have cF : wr.cell? ⟨w.heap.size, 1, none⟩ = some (.slice ad L.length cap) := cell_of hF rfl
      have HT := Lib.hid hT
      have HR := Lib.hid hR
      clear hT hR hF
      go_wp2_with fail
      have dF : ({ wr with drawn := wr.drawn + 1 } : World).cell? ⟨w.heap.size, 1, none⟩ = some (.slice ad L.length cap) := cF
      refine wp_region_still_tail 3 (by kernel_rfl) (by kernel_rfl) ?_
      simp only [List.take_succ_cons, List.take_zero, List.drop_succ_cons, List.drop_zero]
      have S9 := slice94 (w.heap.size + 1 + 1)
      still_step
      clear S9
      still_step
      still_step
      refine wpStill_nil ?_
      have hcs : ((List.range L.length).map fun j => Value.int .i64 (iz L j)).length = L.length := by simp
      have hsrc : 0 < L.length → ∃ ad', ad = some ad' ∧ ∀ j v, ((List.range L.length).map fun j => Value.int .i64 (iz L j))[j]? = some v → wr.cell? (ad'.add j) = some v := by
        intro h0
        obtain ⟨b, off, rfl, -⟩ := hc 0 h0
        refine ⟨_, rfl, fun j v hv => ?_⟩
        have hj : j < L.length := by
          have := (List.getElem?_eq_some_iff.1 hv).1
          rwa [hcs] at this
        obtain ⟨b', off', e, hcell⟩ := hc j hj
        cases e
        rw [List.getElem?_map, List.getElem?_range hj] at hv
        cases hv
        rw [Addr.add_mid]
        exact keep_cell hb hcell
      refine wpList_copy_splice rfl (.tmp 11) (.tmp 13) 26 26 rfl 3 (by kernel_rfl) (by kernel_rfl) _ _ _ _ _ _ rfl rfl (w.heap.size + 1 + 1) 0 (rowK 16) 94 HT.out ((List.range L.length).map fun j => Value.int .i64 (iz L j))
        (by rw [hcs]; simp only [Nat.min_def]; split <;> omega) ?_ (by rw [hcs, rowK_length (Nat.le_refl _)]; omega) ?_ (w.heap.size + 1 + 1) wr ⟨rfl, rfl, rfl, Nat.le_refl _, fun _ _ => rfl⟩ (Nat.le_refl _) ?_
      · intro h0
        rw [hcs] at h0
        obtain ⟨ad', e, h1⟩ := hsrc h0
        exact ⟨rfl, ad', e, h1⟩
      · intro v hv
        rw [List.mem_map] at hv
        obtain ⟨j, -, rfl⟩ := hv
        rfl
      · intro w2 HG2 hB2
        rw [hcs]
        generalize (goInt (L.length : Int)) = gi
        rw [tab_splice hL] at HG2
        have hR2 : w2.heap[w.heap.size + 1]? = some (.cells (rowK 0).toArray 94 (0, 0)) := by rw [hB2.block _ (by omega)]; exact HR.out
        have hb2 : Below w.heap.size w w2 := hb.trans (hB2.mono (by omega))
        have hs2 : w.heap.size + 3 ≤ w2.heap.size := Nat.le_trans hs hB2.size
        clear hB2 HT HR hsrc hcs hb hs cF dF
        have hrT := range_of HG2.out
        have hth : w2.there (w.heap.size + 1) 0 (tab L).toArray.size := by
          have := there_of hR2
          rwa [rowK_length (by omega), ← tab_length L] at this
        clear hR2 HG2
        go_upto_region 8 with (fail)
        go_step
        refine wpList_load_mid rfl 94 _ rfl (w.heap.size + 1 + 1) 0 rfl (tab L) _ hrT Try.underlying94 rfl (by kernel_rfl) ?_
        refine wpList_store_mid rfl 94 _ _ rfl (w.heap.size + 1) 0 (tab L).toArray rfl rfl hth (by kernel_rfl) (tab_one L) ?_
        have hR3 := World.rangeAt_setCells_same w2 (w.heap.size + 1) 0 (tab L) hth
        have hb3 : Below w.heap.size w (w2.setCells (w.heap.size + 1) 0 (tab L)) := hb2.trans ⟨World.os_setCells _ _ _ _, tape_setCells _ _ _ _, World.output_setCells _ _ _ _, Nat.le_of_eq (size_setCells _ _ _ _).symm, fun j hj => World.heap_setCells_other _ _ _ _ (by omega) (by omega)⟩
        change wpList _ _ _ _ _ (w2.setCells (w.heap.size + 1) 0 (tab L))
        obtain ⟨w3, hw3⟩ : ∃ w3, w2.setCells (w.heap.size + 1) 0 (tab L) = w3 := ⟨_, rfl⟩
        rw [hw3] at hR3 hb3 ⊢
        clear hw3 hth hrT hb2 hs2
        go_wp2
        refine bodyPost_ret (v := .agg (tab L).toArray) ?_ rfl ⟨rfl, hb3⟩
        have hl := run_loadVar_mid (P := Try.prog) w3 (w.heap.size + 1) 0 94 (tab L) _ hR3 Try.underlying94 rfl (by kernel_rfl)
        exact results_cell rfl _ rfl hl

end Go.Proofs.Ytiebbbeijlfedaa
