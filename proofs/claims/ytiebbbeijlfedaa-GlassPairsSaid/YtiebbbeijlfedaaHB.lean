/- The abstract machine, part HB. -/
import Derived.Test.YtiebbbeijlfedaaHA
import Derived.Test.YtiebbbeijlfedaaHP
import Derived.Shelf.SlSortCmp.QuietGrown
import Derived.Shelf.SlSortCmp.Whole1
import Derived.Shelf.SlSortCmp.NoneTotal
import Derived.Test.YtiebbbeijlfedaaHS
import Derived.Laws.MakeOwn
import Derived.RangeFuncBox
/- Walks: marks ordered by tone; the sort of the indices. -/
namespace Go.Proofs.Ytiebbbeijlfedaa
open Go Go.RowKit Go.Proofs Go.Sort Go.Lib

def or2 (x y : Int) : Int := if x = 0 then y else x

set_option maxHeartbeats 1000000 in
theorem or2_any (x y : Int) (w : World) (b : Nat) (cap : Nat) (h0 : w.cell? ⟨b, 0, none⟩ = some (.int .i64 x)) (h1 : w.cell? ⟨b, 1, none⟩ = some (.int .i64 y)) :
    Calls Try.prog 101 #[.slice (some ⟨b, 0, none⟩) 2 cap] w fun e w' => e = .returned (.int .i64 (or2 x y)) ∧ w' = w := by
  obtain ⟨r, hr⟩ : ∃ r, or2 x y = r := ⟨_, rfl⟩
  rw [hr]
  unfold or2 at hr
  have R := Lib.hid hr
  clear hr
  go_enter Try.func101, Try.ntmps101
  go_wp2_with fail
  go_loop [8] (fun i => i = .int .i64 0 ∨ (i = .int .i64 1 ∧ x = 0) ∨ (i = .int .i64 2 ∧ x = 0 ∧ y = 0)) (fun i => (2 - intOf i).toNat)
  case atStart => exact .inl rfl
  case round =>
    rcases hrel with rfl | ⟨rfl, hx⟩ | ⟨rfl, hx, hy⟩
    · by_cases hx : x = 0
      · go_wp2
        all_goals first
          | (exfalso; simp_all; done)
          | (go_round
             case rel => exact .inr (.inl ⟨rfl, hx⟩)
             case measure => simp [intOf])
      · go_wp2
        all_goals first
          | (exfalso; simp_all; done)
          | (go_ret; exact ⟨ret_int (by rw [← R.out, if_neg hx]), rfl⟩)
    · have HX := Lib.hid hx
      clear hx
      by_cases hy : y = 0
      · go_wp2
        all_goals first
          | (exfalso; simp_all; done)
          | (go_round
             case rel => exact .inr (.inr ⟨rfl, HX.out, hy⟩)
             case measure => simp [intOf])
      · go_wp2
        all_goals first
          | (exfalso; simp_all; done)
          | (go_ret; exact ⟨ret_int (by rw [← R.out, if_pos HX.out]), rfl⟩)
    · have HX := Lib.hid hx
      have HY := Lib.hid hy
      clear hx hy
      go_wp2
      go_ret
      exact ⟨ret_int (by rw [← R.out, if_pos HX.out, HY.out]), rfl⟩

/-- The order of marks by tone, and then by place, in a way. -/
def cfB (M : List M3) (y : Int) (i k : Nat) : Int := or2 (Lib.compareInt (mq M i).z (mq M k).z) (y * Lib.compareInt (mq M i).y (mq M k).y)

theorem cmp_bounds (a b : Int) : -1 ≤ Lib.compareInt a b ∧ Lib.compareInt a b ≤ 1 := by
  unfold Lib.compareInt
  repeat' split
  all_goals omega

set_option maxRecDepth 100000 in
set_option maxHeartbeats 2000000 in
theorem byTone1_any (M : List M3) (y : Int) (hy : y = 1 ∨ y = -1) (p q b off cap : Nat) (w : World) (i k : Nat) (hi : i < M.length) (hk : k < M.length) (_hl : M.length ≤ 1000)
    (hp : w.cell? ⟨p, 0, none⟩ = some (.slice (some ⟨b, off, none⟩) M.length cap)) (hq : w.cell? ⟨q, 0, none⟩ = some (.int .i64 y))
    (hc : ∀ k, k < M.length → w.cell? ⟨b, off + k * 3 + 1, none⟩ = some (.int .i64 (mq M k).y) ∧ w.cell? ⟨b, off + k * 3 + 2, none⟩ = some (.int .i64 (mq M k).z)) :
    Calls Try.prog 112 #[.int .i64 i, .int .i64 k, .pointer (some ⟨p, 0, none⟩), .pointer (some ⟨q, 0, none⟩)] w fun e w' => e = .returned (.int .i64 (cfB M y i k)) ∧ ∃ n os, w' = grow (w.drewN n) os := by
  obtain ⟨a1, a2⟩ := hc i hi
  obtain ⟨b1, b2⟩ := hc k hk
  clear hc
  have CB := cmp_bounds (mq M i).y (mq M k).y
  have C0 := fun w => compare_any (mq M i).z (mq M k).z w
  have C1 := fun w => compare_any (mq M i).y (mq M k).y w
  have hcf : cfB M y i k = or2 (Lib.compareInt (mq M i).z (mq M k).z) (y * Lib.compareInt (mq M i).y (mq M k).y) := rfl
  generalize cfB M y i k = r at hcf ⊢
  generalize Lib.compareInt (mq M i).z (mq M k).z = u0 at C0 hcf
  generalize Lib.compareInt (mq M i).y (mq M k).y = u1 at C1 hcf CB
  generalize (mq M i).z = z0 at a2 C0
  generalize (mq M k).z = z1 at b2 C0
  generalize (mq M i).y = y0 at a1 C1
  generalize (mq M k).y = y1 at b1 C1
  have hb : -1 ≤ y * u1 ∧ y * u1 ≤ 1 := by rcases hy with rfl | rfl <;> omega
  have EW : Hid (wrap64 (y * u1) = y * u1) := Lib.hid (by unfold wrap64; omega)
  clear hb
  have j1 : (i : Int) < (M.length : Int) := by omega
  have j2 : (k : Int) < (M.length : Int) := by omega
  generalize M.length = n at *
  have HR := Lib.hid hcf
  clear hcf hy CB hi hk _hl
  have d0 : ({ w with drawn := w.drawn + 1 } : World).cell? ⟨p, 0, none⟩ = _ := hp
  have d1 : ({ w with drawn := w.drawn + 1 } : World).cell? ⟨q, 0, none⟩ = _ := hq
  have d2 : ({ w with drawn := w.drawn + 1 } : World).cell? ⟨b, off + i * 3 + 1, none⟩ = _ := a1
  have d3 : ({ w with drawn := w.drawn + 1 } : World).cell? ⟨b, off + i * 3 + 2, none⟩ = _ := a2
  have d4 : ({ w with drawn := w.drawn + 1 } : World).cell? ⟨b, off + k * 3 + 1, none⟩ = _ := b1
  have d5 : ({ w with drawn := w.drawn + 1 } : World).cell? ⟨b, off + k * 3 + 2, none⟩ = _ := b2
  go_enter Try.func112, Try.ntmps112
  go_wp2_with fail
  go_still_tail 24, (by kernel_rfl)
  still_call (C0 _)
  repeat still_step
  still_call (C1 _)
  repeat still_step
  refine wpStill_nil ?_
  clear d0 d1 d2 d3 d4 d5 hp hq a1 a2 b1 b2
  change wpList _ _ _ _ _ w.drew
  go_wp2_with fail
  have o0 : ((w.alloc (.cells #[.int .i64 u0, .int .i64 (wrap64 (y * u1))] 3)).drew).cell? ⟨w.heap.size, 0, none⟩ = some (.int .i64 u0) := by go_simp
  have o1 : ((w.alloc (.cells #[.int .i64 u0, .int .i64 (wrap64 (y * u1))] 3)).drew).cell? ⟨w.heap.size, 1, none⟩ = some (.int .i64 (wrap64 (y * u1))) := by go_simp
  have O := or2_any u0 (wrap64 (y * u1)) _ w.heap.size 2 o0 o1
  refine O.mono ?_
  rintro e w2 ⟨rfl, rfl⟩
  clear o0 o1 O
  go_wp2
  go_ret
  exact ⟨ret_int (by rw [EW.out]; exact HR.out.symm), 1, #[.cells #[.int .i64 u0, .int .i64 (wrap64 (y * u1))] 3], rfl⟩

end Go.Proofs.Ytiebbbeijlfedaa

/- A block of numbers of one's own; the sort of the indices by tone. -/
namespace Go.Proofs.Ytiebbbeijlfedaa
open Go Go.RowKit Go.Proofs Go.Sort Go.Lib Go.Shelf

/-- The cells of numbers. -/
def nv (L : List Nat) : List Value := L.map fun (k : Nat) => Value.int .i64 (k : Int)

/-- A block of one's own that holds these numbers. -/
def NB (W : World) (g : Nat) (L : List Nat) : Prop := W.heap[g]? = some (.cells (nv L).toArray 3 (0, 0))

theorem nv_len (L : List Nat) : (nv L).length = L.length := by simp [nv]
theorem nv_get {L : List Nat} {j : Nat} (h : j < L.length) : (nv L)[j]? = some (.int .i64 ((L.getD j 0 : Nat) : Int)) := by
  unfold nv
  rw [List.getElem?_map, List.getElem?_eq_getElem h]
  simp [List.getD_eq_getElem?_getD, h]

theorem NB.lt {W : World} {g : Nat} {L : List Nat} (h : NB W g L) : g < W.heap.size := (Array.getElem?_eq_some_iff.1 h).1
theorem NB.cell {W : World} {g : Nat} {L : List Nat} (h : NB W g L) {j : Nat} (hj : j < L.length) : W.cell? ⟨g, j, none⟩ = some (.int .i64 ((L.getD j 0 : Nat) : Int)) :=
  cell_of h (by rw [List.getElem?_toArray]; exact nv_get hj)
theorem NB.frozen {W : World} {g : Nat} {L : List Nat} (h : NB W g L) (j : Nat) : W.frozen? ⟨g, j, none⟩ = false := by
  have h' : W.heap[g]? = some (.cells (nv L).toArray 3 (0, 0)) := h
  unfold World.frozen?
  simp [h']
theorem NB.of {W W' : World} {g : Nat} {L : List Nat} (h : NB W g L) (e : W'.heap[g]? = W.heap[g]?) : NB W' g L := e.trans h
theorem NB.keep {W W' : World} {g : Nat} {L : List Nat} (h : NB W g L) (hb : Below W.heap.size W W') : NB W' g L := h.of (hb.block g h.lt)
theorem NB.alloc {W : World} {g : Nat} {L : List Nat} (h : NB W g L) (o : Obj) : NB (W.alloc o) g L := h.of (alloc_heap_old W o h.lt)

theorem nv_set (L : List Nat) (j k : Nat) : (nv L).set j (.int .i64 (k : Int)) = nv (L.set j k) := by
  unfold nv
  rw [List.map_set]

theorem NB.set {W : World} {g : Nat} {L : List Nat} (h : NB W g L) (j k : Nat) : NB (W.setCell ⟨g, j, none⟩ (.int .i64 (k : Int))) g (L.set j k) := by
  have h' : W.heap[g]? = some (.cells (nv L).toArray 3 (0, 0)) := h
  unfold NB World.setCell
  rw [Array.getElem?_modify, if_pos rfl, h', ← nv_set]
  simp

theorem NB.own {W : World} {g base : Nat} {L : List Nat} (h : NB W g L) (hb : base ≤ g) (hl : L.length ≤ 1000000) : W.ownsRow base 3 1 (.slice (some ⟨g, 0, none⟩) L.length L.length) L.length (nv L) := by
  refine ⟨by rw [nv_len, Nat.mul_one], .inr ⟨g, L.length, (nv L).toArray, rfl, hb, h, Nat.le_refl _, by unfold maxLen; omega, by simp [nv_len], ?_⟩⟩
  rw [Nat.mul_one, ← nv_len L]
  simp

theorem make26 (s : Nat) (hs : s ≤ 1000000) (w : World) : (Instr.makeSlice 26 (.int .i64 (s : Nat)) (.int .i64 (s : Nat))).run Try.prog w = .ok (.slice (some ⟨w.heap.size, 0, none⟩) s s) (w.alloc (.cells (madeCells #[.int .i64 0] s) 3)) := by
  obtain ⟨i0, hi, hz0, hz1, hz2⟩ := info_parts info3
  have h := run_make (P := Try.prog) w 26 3 i0 (.int .i64 0) Try.underlying26 hi hz0 .i64 .i64 s s (by omega) (Int.le_refl _) (by rw [hz2]; omega) (by omega)
  rw [hz1, Int.toNat_natCast, Nat.mul_one] at h
  exact h

theorem NB.made (s : Nat) (w : World) : NB (w.alloc (.cells (madeCells #[.int .i64 0] s) 3)) w.heap.size (List.replicate s 0) := by
  have h := World.alloc_heap_new w (.cells (madeCells #[.int .i64 0] s) 3)
  unfold NB
  rw [h]
  congr 2
  apply Array.ext
  · simp [nv, madeCells]
  · intro i h1 h2
    simp [nv, madeCells, Nat.mod_one]

/-- What a sort of indices leaves: the row is a permutation, no later one before an earlier one; all else is as it was. -/
structure Sorted (M : List M3) (y : Int) (g : Nat) (w w' : World) (D : List Nat) : Prop where
  row : NB w' g D
  perm : D.Perm (List.range M.length)
  asc : D.Pairwise fun a b => ¬ cfB M y b a < 0
  os : w'.os = w.os
  tape : w'.tape = w.tape
  output : w'.output = w.output
  size : w.heap.size ≤ w'.heap.size
  block : ∀ k, k < w.heap.size → k ≠ g → w'.heap[k]? = w.heap[k]?

theorem or2_lt (x y : Int) : decide (or2 x y < 0) = (if x = 0 then decide (y < 0) else decide (x < 0)) := by
  unfold or2
  split <;> rfl

theorem cfB_lt (M : List M3) (y : Int) (hy : y = 1 ∨ y = -1) (i k : Nat) : cfB M y i k < 0 ↔ (mq M i).z < (mq M k).z ∨ ((mq M i).z = (mq M k).z ∧ (if y = 1 then (mq M i).y < (mq M k).y else (mq M k).y < (mq M i).y)) := by
  unfold cfB or2 Lib.compareInt
  rcases hy with rfl | rfl
  · repeat' split
    all_goals omega
  · repeat' split
    all_goals first
      | omega
      | (simp at *; omega)

theorem swoB {n : Nat} (M : List M3) (y : Int) (hy : y = 1 ∨ y = -1) : SWO (ltOf fun (i k : Fin n) => cfB M y i.1 k.1) where
  irrefl x := by
    unfold ltOf
    rw [decide_eq_false_iff_not, cfB_lt M y hy]
    rcases hy with rfl | rfl <;> simp
  trans a b c h1 h2 := by
    unfold ltOf at *
    rw [decide_eq_true_eq, cfB_lt M y hy] at *
    rcases hy with rfl | rfl
    · simp at *; omega
    · simp at *; omega
  ntrans a b c h1 h2 := by
    unfold ltOf at *
    rw [decide_eq_false_iff_not, cfB_lt M y hy] at *
    rcases hy with rfl | rfl
    · simp at *; omega
    · simp at *; omega

theorem heap_sortWorld {α : Type} [Inhabited α] (enc : α → Value) (w : World) (g m : Nat) (d : Array α) (os : Array Obj) {k : Nat} (hk : k < w.heap.size) (hn : k ≠ g) : (sortWorld enc w g 0 m d os).heap[k]? = w.heap[k]? := by
  unfold sortWorld
  rw [heap_grow_old _ _ (by simpa using hk)]
  unfold putRow mapBlock
  simp only [heap_ahead, Array.getElem?_modify]
  rw [if_neg (fun e => hn e.symm)]

theorem nb_sortWorld {n : Nat} [Inhabited (Fin n)] (w : World) (g m : Nat) (L : List Nat) (d : Array (Fin n)) (os : Array Obj) (h : NB w g L) (hl : L.length = d.size) : NB (sortWorld (fun x : Fin n => Value.int .i64 ((x.1 : Nat) : Int)) w g 0 m d os) g (d.toList.map fun x => x.1) := by
  have h' : w.heap[g]? = some (.cells (nv L).toArray 3 (0, 0)) := h
  unfold NB sortWorld
  rw [heap_grow_old _ _ (by simpa using h.lt)]
  unfold putRow mapBlock
  simp only [heap_ahead, Array.getElem?_modify, if_true, h', Option.map_some, onCells]
  congr 2
  apply Array.ext
  · simp [putCells, nv, hl]
  · intro i h1 h2
    have hi : i < d.size := by simpa [putCells, nv, hl] using h1
    unfold putCells nv
    simp [hi]

theorem extract_all {α : Type} (d : Array α) (n : Nat) (h : d.size = n) : d.extract 0 n = d := by
  subst h
  simp

set_option maxHeartbeats 1000000 in
theorem sorted_any (M : List M3) (y : Int) (hy : y = 1 ∨ y = -1) (a : Option Addr) (p q cap g c : Nat) (w : World) (hL : NB w g (List.range M.length)) (hl : M.length ≤ 1000) (hp0 : p ≠ g) (hq0 : q ≠ g) (hb0 : 0 < M.length → ∀ b off, a = some ⟨b, off, none⟩ → b ≠ g)
    (hp : w.cell? ⟨p, 0, none⟩ = some (.slice a M.length cap)) (hq : w.cell? ⟨q, 0, none⟩ = some (.int .i64 y))
    (hc : SlM w (.slice a M.length cap) M) :
    Calls Try.prog 111 #[.slice (some ⟨g, 0, none⟩) M.length c, .func (.func 112) #[] #[.pointer (some ⟨p, 0, none⟩), .pointer (some ⟨q, 0, none⟩)]] w fun e w' => e = .returned (.slice (some ⟨g, 0, none⟩) M.length c) ∧ ∃ D, Sorted M y g w w' D := by
  have main : Calls Try.prog 118 #[.slice (some ⟨g, 0, none⟩) M.length c, .func (.func 112) #[] #[.pointer (some ⟨p, 0, none⟩), .pointer (some ⟨q, 0, none⟩)]] w fun e w' => e = .returned (.tuple #[]) ∧ ∃ D, Sorted M y g w w' D := by
    by_cases h0 : M.length = 0
    · have hS := AnyF.slices_SortFunc_none (P := Try.prog) (ρ := Try.sortL_ren) { Try.sortL with } (some ⟨g, 0, none⟩) c (.func (.func 112) #[] #[.pointer (some ⟨p, 0, none⟩), .pointer (some ⟨q, 0, none⟩)]) w
      change Calls Try.prog 118 _ _ _ at hS
      rw [h0] at hL ⊢
      exact hS.mono fun e w' ⟨he, hw⟩ => ⟨he, [], by subst hw; exact ⟨hL, by rw [h0]; exact List.Perm.refl _, List.Pairwise.nil, rfl, rfl, rfl, Nat.le_refl _, fun _ _ _ => rfl⟩⟩
    · haveI : Inhabited (Fin M.length) := ⟨⟨0, by omega⟩⟩
      obtain ⟨enc, henc⟩ : ∃ enc : Fin M.length → Value, enc = fun x => Value.int .i64 ((x.1 : Nat) : Int) := ⟨_, rfl⟩
      have eg : ∀ args w, (callFunc 112 args).run Try.prog w = .ok (.enter 112 args) w := enters_of Try.func112 (by kernel_rfl) rfl
      have hsz : (Array.ofFn (fun i : Fin M.length => i)).size = M.length := by simp
      have hH : Holds enc w g 0 (Array.ofFn fun i : Fin M.length => i) := fun j hj => by
        rw [hsz] at hj
        refine ⟨?_, ?_⟩
        · rw [Nat.zero_add, hL.cell (by simpa using hj), henc]
          simp [hj]
        · rw [Nat.zero_add]; exact hL.frozen j
      have hcmp : CmpLays1 Try.prog 112 #[.pointer (some ⟨p, 0, none⟩), .pointer (some ⟨q, 0, none⟩)] enc (fun i k : Fin M.length => cfB M y i.1 k.1) g 0 (Array.ofFn fun i : Fin M.length => i).size w := by
        intro m os dk hs i k
        have same : ∀ a : Addr, a.block < w.heap.size → a.block ≠ g → (sortWorld enc w g 0 m dk os).cell? a = w.cell? a := fun a ha hn => by
          unfold World.cell?
          rw [heap_sortWorld enc w g m dk os ha hn]
        obtain ⟨a', cap', e1, -, hcell⟩ := hc
        simp only [Value.slice.injEq] at e1
        obtain ⟨rfl, -, rfl⟩ := e1
        obtain ⟨b, off, rfl, -⟩ := hcell 0 (by omega)
        have hc : ∀ k, k < M.length → w.cell? ⟨b, off + k * 3 + 1, none⟩ = some (.int .i64 (mq M k).y) ∧ w.cell? ⟨b, off + k * 3 + 2, none⟩ = some (.int .i64 (mq M k).z) := fun k hk => by
          obtain ⟨b', off', e2, -, c1, c2⟩ := hcell k hk
          cases e2
          exact ⟨c1, c2⟩
        have hb0 := hb0 (by omega) b off rfl
        have := byTone1_any M y hy p q b off cap (sortWorld enc w g 0 m dk os) i.1 k.1 i.2 k.2 hl
          ((same _ (World.block_lt_of_cell? w _ hp) hp0).trans hp) ((same _ (World.block_lt_of_cell? w _ hq) hq0).trans hq)
          (fun j hj => ⟨(same _ (World.block_lt_of_cell? w _ (hc j hj).1) hb0).trans (hc j hj).1, (same _ (World.block_lt_of_cell? w _ (hc j hj).2) hb0).trans (hc j hj).2⟩)
        rw [henc] at this ⊢
        exact this
      have hS := Any.slices_SortFunc Try.sortL enc (fun x => by rw [henc]; rfl) (fun i k : Fin M.length => cfB M y i.1 k.1) (swoB M y hy) 112 #[.pointer (some ⟨p, 0, none⟩), .pointer (some ⟨q, 0, none⟩)] g 0 c (Array.ofFn fun i : Fin M.length => i) w eg hcmp hH hL.lt (by rw [hsz]; omega)
      change Calls Try.prog 118 _ _ _ at hS
      rw [hsz] at hS
      refine hS.mono fun e w' ⟨he, d', m, os, hpm, hst, hw⟩ => ⟨he, d'.toList.map fun x => x.1, ?_⟩
      obtain ⟨hs1, -, hs2⟩ := hpm
      have hsd : d'.size = M.length := by rw [hs1, hsz]
      subst hw
      refine ⟨?_, ?_, ?_, rfl, rfl, rfl, by unfold sortWorld; simp, fun k hk hn => heap_sortWorld enc w g m d' os hk hn⟩
      · rw [henc]; exact nb_sortWorld w g m _ d' os hL (by simp [hsd])
      · rw [extract_all d' _ hsd, extract_all _ _ hsz] at hs2
        refine (hs2.map fun x => x.1).trans (List.Perm.of_eq ?_)
        apply List.ext_getElem
        · simp
        · intro i h1 h2; simp
      · rw [List.pairwise_map, List.pairwise_iff_getElem]
        intro i j hi hj hij
        have hi' : i < d'.size := by simpa using hi
        have hj' : j < d'.size := by simpa using hj
        have := hst i j (Nat.zero_le _) hij (by omega)
        unfold ltOf at this
        rw [decide_eq_false_iff_not, getElem!_pos d' j hj', getElem!_pos d' i hi'] at this
        simpa using this
  clear hL hp hq hc
  go_enter Try.func111, Try.ntmps111
  go_wp2_with (go_at_call 118; with_reducible refine main.mono ?_; rintro e w' ⟨rfl, D, hD⟩)
  go_ret
  exact ⟨rfl, D, hD⟩

end Go.Proofs.Ytiebbbeijlfedaa

/- Walks: byTone. -/
namespace Go.Proofs.Ytiebbbeijlfedaa
open Go Go.RowKit Go.Proofs Go.Sort Go.Lib

theorem boxed_set {W : World} {B g j : Nat} {t : TypeId} {v u : Value} (h : Boxed W B t v) (hn : B ≠ g) : Boxed (W.setCell ⟨g, j, none⟩ u) B t v := (Below.heap_setCell W _ u B hn).trans h

theorem boxed_keep {W W' : World} {B : Nat} {t : TypeId} {v : Value} (hb : RowKit.Below W.heap.size W W') (h : Boxed W B t v) : Boxed W' B t v := (hb.block B h.lt).trans h

theorem range_set (n k : Nat) (h : k < n) : (List.range k ++ List.replicate (n - k) 0).set k k = List.range (k + 1) ++ List.replicate (n - (k + 1)) 0 := by
  rw [List.set_append_right _ _ (by simp), List.length_range, Nat.sub_self, show n - k = (n - (k + 1)) + 1 by omega, List.replicate_succ, List.set_cons_zero, List.range_succ, List.append_assoc]
  rfl

/-- What byTone leaves. -/
structure ByTone (M : List M3) (y : Int) (w w' : World) (g : Nat) (D : List Nat) : Prop where
  row : NB w' g D
  perm : D.Perm (List.range M.length)
  asc : D.Pairwise fun a b => ¬ cfB M y b a < 0
  new : w.heap.size ≤ g
  below : Below w.heap.size w w'

set_option maxRecDepth 100000 in
set_option maxHeartbeats 2000000 in
theorem byTone_any (v : Value) (M : List M3) (y : Int) (hy : y = 1 ∨ y = -1) (w : World) (h : SlM w v M) (hl : M.length ≤ 1000) :
    Calls Try.prog 91 #[v, .int .i64 y] w fun e w' => ∃ g D, e = .returned (.slice (some ⟨g, 0, none⟩) M.length M.length) ∧ ByTone M y w w' g D := by
  have M0 := make26 M.length (by omega)
  obtain ⟨a, cap, hv, hl0, -⟩ := id h
  subst hv
  -- the boxes
  have z1 : ((w.alloc (.cells #[.slice a M.length cap] 23)).alloc (.cells #[.int .i64 y] 3)).heap.size = w.heap.size + 2 := by simp
  have b1 : Below w.heap.size w ((w.alloc (.cells #[.slice a M.length cap] 23)).alloc (.cells #[.int .i64 y] 3)) := ((Below.refl _ w).alloc (Nat.le_refl _) _).alloc (by simp) _
  have bP : Boxed ((w.alloc (.cells #[.slice a M.length cap] 23)).alloc (.cells #[.int .i64 y] 3)) w.heap.size 23 (.slice a M.length cap) := (Boxed.new w 23 (.slice a M.length cap)).alloc _
  have bQ : Boxed ((w.alloc (.cells #[.slice a M.length cap] 23)).alloc (.cells #[.int .i64 y] 3)) (w.heap.size + 1) 3 (.int .i64 y) := by
    have := Boxed.new (w.alloc (.cells #[.slice a M.length cap] 23)) 3 (.int .i64 y); rwa [World.size_alloc] at this
  have hS := h.keep b1
  obtain ⟨W1, hW1⟩ : ∃ W1, (w.alloc (.cells #[.slice a M.length cap] 23)).alloc (.cells #[.int .i64 y] 3) = W1 := ⟨_, rfl⟩
  have hW := Lib.hid hW1
  rw [hW1] at z1 b1 bP bQ hS
  clear hW1
  obtain ⟨N, hN⟩ : ∃ N, w.heap.size = N := ⟨_, rfl⟩
  rw [hN] at z1 bP bQ
  have HN := Lib.hid hN
  -- the row
  have R0 := NB.made M.length W1
  rw [z1] at R0
  have b2 := b1.alloc (by have := b1.size; omega) (.cells (madeCells #[.int .i64 0] M.length) 3)
  have bP2 := bP.alloc (.cells (madeCells #[.int .i64 0] M.length) 3)
  have bQ2 := bQ.alloc (.cells (madeCells #[.int .i64 0] M.length) 3)
  have hS2 := hS.keep ((Below.refl _ W1).alloc (Nat.le_refl _) (.cells (madeCells #[.int .i64 0] M.length) 3))
  have z2 : (W1.alloc (.cells (madeCells #[.int .i64 0] M.length) 3)).heap.size = N + 3 := by rw [World.size_alloc, z1]
  obtain ⟨W2, hW2⟩ : ∃ W2, W1.alloc (.cells (madeCells #[.int .i64 0] M.length) 3) = W2 := ⟨_, rfl⟩
  have M1 := M0 W1
  rw [z1] at M1
  rw [hW2] at M1 R0 b2 bP2 bQ2 hS2 z2
  clear hW2 M0 hS
  have cP := bP.cell
  have cQ := bQ.cell
  have cP2 := bP2.cell
  clear b1 bP bQ
  go_enter Try.func91, Try.ntmps91
  go_wp2_with fail
  rw [hW.out, M1]
  go_wp2_with fail
  have B2 : ∀ b off, a = some ⟨b, off, none⟩ → 0 < M.length → b < N := fun b off e h0 => by
    obtain ⟨a', cap', e1, -, hcell⟩ := h
    simp only [Value.slice.injEq] at e1
    obtain ⟨rfl, -, rfl⟩ := e1
    obtain ⟨b', off', e2, c0, -⟩ := hcell 0 h0
    rw [e] at e2
    cases e2
    rw [← HN.out]
    exact World.block_lt_of_cell? w _ c0
  have HB2 := Lib.hid B2
  rw [HN.out] at b2
  have HS := Lib.hid h
  have HQ := Lib.hid bQ2
  clear h B2 cP cQ cP2 bQ2 M1 hS2 z1
  obtain ⟨n, hn⟩ : ∃ n, M.length = n := ⟨_, rfl⟩
  have Hn := Lib.hid hn
  rw [hn] at R0 hl ⊢
  clear hn
  have HR : Hid (∀ k, k < n → (List.range k ++ List.replicate (n - k) 0).set k k = List.range (k + 1) ++ List.replicate (n - (k + 1)) 0) := Lib.hid fun k hk => range_set n k hk
  go_loopw [12] (fun i wr => ∃ k : Nat, k ≤ n ∧ i = .int .i64 k ∧ NB wr (N + 2) (List.range k ++ List.replicate (n - k) 0) ∧ Below N w wr ∧ Boxed wr N 23 (.slice a n cap) ∧ Boxed wr (N + 1) 3 (.int .i64 y)) (fun i _ => n - (intOf i).toNat)
  case atStart => exact ⟨0, Nat.zero_le _, rfl, by simpa using R0, b2, by rw [← Hn.out]; exact bP2, HQ.out⟩
  case round =>
    clear R0 b2 bP2
    obtain ⟨k, hk, rfl, hR, hbel, hP, hQ⟩ := hrel
    by_cases hlt : k < n
    · have j1 : (k : Int) < (n : Int) := by omega
      have c0 := hR.cell (j := k) (by simp; omega)
      have f0 := hR.frozen k
      have z0 := hR.lt
      go_wp2
      refine ⟨⟨k + 1, by omega, by simp, ?_, hbel.setCell (by simp) _, boxed_set hP (by omega), boxed_set hQ (by omega)⟩, by simp [intOf]; omega⟩
      have := hR.set k k
      rwa [HR.out k hlt] at this
    · obtain rfl : k = n := by omega
      rw [Nat.sub_self, List.replicate_zero, List.append_nil] at hR
      have hS3 : SlM wr (.slice a k cap) M := by
        have := HS.out.keep (w' := wr) (by rw [HN.out]; exact hbel)
        rwa [Hn.out] at this
      have C := sorted_any M y hy a N (N + 1) cap (N + 2) k wr (by rw [Hn.out]; exact hR) (by rw [Hn.out]; exact hl) (by omega) (by omega)
        (fun h0 b off e => by have := HB2.out b off e h0; omega) (by rw [Hn.out]; exact hP.cell) hQ.cell (by rw [Hn.out]; exact hS3)
      rw [Hn.out] at C
      go_wp2_with (go_at_call 111; with_reducible refine C.mono ?_; rintro e w4 ⟨rfl, D, hD⟩)
      go_ret
      refine ⟨N + 2, D, by rw [Hn.out]; rfl, hD.row, hD.perm, hD.asc, by rw [HN.out]; omega, ?_⟩
      rw [HN.out]
      have zN := hP.lt
      exact ⟨hD.os.trans hbel.os, hD.tape.trans hbel.tape, hD.output.trans hbel.output, Nat.le_trans hbel.size hD.size, fun k hk => (hD.block k (by omega) (by omega)).trans (hbel.block k hk)⟩

end Go.Proofs.Ytiebbbeijlfedaa
