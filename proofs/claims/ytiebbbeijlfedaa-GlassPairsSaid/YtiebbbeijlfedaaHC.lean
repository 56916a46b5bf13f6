/- The abstract machine, part HC. -/
import Derived.Test.YtiebbbeijlfedaaHB
import Derived.Shelf.SlicesE.DeleteFunc
import Derived.Shelf.SlicesE.Clone
import Derived.Lib.SliceRun
/- Walks: what is left of the indices: Clone, DeleteFunc with both tests. -/
namespace Go.Proofs.Ytiebbbeijlfedaa
open Go Go.RowKit Go.Proofs Go.Sort Go.Lib Go.Shelf Go.Pairs

/-- The array of those that are paired. -/
def ub (U : Nat → Bool) : Array Value := ((List.range 32).map fun k => Value.bool (U k)).toArray
def UB (W : World) (g : Nat) (U : Nat → Bool) : Prop := W.heap[g]? = some (.cells (ub U) 117 (0, 0))

theorem UB.lt {W : World} {g : Nat} {U : Nat → Bool} (h : UB W g U) : g < W.heap.size := (Array.getElem?_eq_some_iff.1 h).1
theorem UB.cell {W : World} {g : Nat} {U : Nat → Bool} (h : UB W g U) {j : Nat} (hj : j < 32) : W.cell? ⟨g, j, none⟩ = some (.bool (U j)) :=
  cell_of h (by unfold ub; simp [hj])
theorem UB.frozen {W : World} {g : Nat} {U : Nat → Bool} (h : UB W g U) (j : Nat) : W.frozen? ⟨g, j, none⟩ = false := by
  have h' : W.heap[g]? = some (.cells (ub U) 117 (0, 0)) := h
  unfold World.frozen?
  simp [h']
theorem UB.of {W W' : World} {g : Nat} {U : Nat → Bool} (h : UB W g U) (e : W'.heap[g]? = W.heap[g]?) : UB W' g U := e.trans h
theorem UB.keep {W W' : World} {g : Nat} {U : Nat → Bool} (h : UB W g U) (hb : Below W.heap.size W W') : UB W' g U := h.of (hb.block g h.lt)

theorem UB.put {W : World} {g : Nat} {U V : Nat → Bool} (h : UB W g U) {j : Nat} (hj : j < 32) {b : Bool} (hV : ∀ k, k < 32 → V k = if k = j then b else U k) : UB (W.setCell ⟨g, j, none⟩ (.bool b)) g V := by
  have h' : W.heap[g]? = some (.cells (ub U) 117 (0, 0)) := h
  unfold UB World.setCell
  rw [Array.getElem?_modify, if_pos rfl, h']
  simp only [Option.map_some, Option.isSome_none]
  congr 2
  simp only [Bool.false_eq_true, if_false]
  apply Array.ext_getElem?
  intro i
  rw [Array.getElem?_setIfInBounds]
  by_cases e : j = i
  · subst e
    rw [if_pos rfl, if_pos (by simpa [ub] using hj)]
    simp [ub, hj, hV j hj]
  · rw [if_neg e]
    by_cases hi : i < 32
    · have e' : ¬ i = j := fun x => e x.symm
      simp [ub, hi, hV i hi, e']
    · simp [ub, hi]

/-- The value is a slice that holds these numbers. -/
def CL (W : World) (B : Nat) (v : Value) (L : List Nat) : Prop := ∃ g cap, v = .slice (some ⟨g, 0, none⟩) L.length cap ∧ B ≤ g ∧ ∀ j, j < L.length → W.cell? ⟨g, j, none⟩ = some (.int .i64 ((L.getD j 0 : Nat) : Int))

theorem CL.keep {W W' : World} {B : Nat} {v : Value} {L : List Nat} (h : CL W B v L) (hb : Below W.heap.size W W') : CL W' B v L := by
  obtain ⟨g, cap, rfl, h1, h2⟩ := h
  exact ⟨g, cap, rfl, h1, fun j hj => keep_cell hb (h2 j hj)⟩

theorem del95_any (i p : Nat) (x : Nat) (W : World) (hp : W.cell? ⟨p, 0, none⟩ = some (.int .i64 ((i : Nat) : Int))) :
    FnGives Try.prog 95 #[.pointer (some ⟨p, 0, none⟩)] #[.int .i64 ((x : Nat) : Int)] (.bool (decide (x < i))) W := by
  show Calls Try.prog 95 #[.int .i64 ((x : Nat) : Int), .pointer (some ⟨p, 0, none⟩)] W _
  have e : decide (x < i) = decide ((x : Int) < (i : Int)) := by
    by_cases h : x < i
    · have : (x : Int) < (i : Int) := by omega
      simp [h]
    · have : ¬ (x : Int) < (i : Int) := by omega
      simp [h]
  rw [e]
  generalize (x : Int) = a
  generalize (i : Int) = b at hp ⊢
  go_enter Try.func95, Try.ntmps95
  go_wp2
  all_goals (go_ret; exact ⟨by simp_all, 0, rfl⟩)

theorem del96_any (U : Nat → Bool) (p : Nat) (x : Nat) (hx : x < 32) (W : World) (hp : UB W p U) :
    FnGives Try.prog 96 #[.pointer (some ⟨p, 0, none⟩)] #[.int .i64 ((x : Nat) : Int)] (.bool (U x)) W := by
  show Calls Try.prog 96 #[.int .i64 ((x : Nat) : Int), .pointer (some ⟨p, 0, none⟩)] W _
  have c := hp.cell hx
  have j1 : (x : Int) < 32 := by omega
  have j2 : ¬ (x : Int) < 0 := by omega
  generalize U x = u at c ⊢
  go_enter Try.func96, Try.ntmps96
  go_wp2
  all_goals (go_ret; exact ⟨rfl, 0, rfl⟩)

end Go.Proofs.Ytiebbbeijlfedaa

/- Walks: DeleteFunc of a row of one's own; what is left of both orders. -/
namespace Go.Proofs.Ytiebbbeijlfedaa
open Go Go.RowKit Go.Proofs Go.Sort Go.Lib Go.Shelf Go.Pairs

theorem below_putRow {α : Type} [Inhabited α] (enc : α → Value) (w : World) (g B q : Nat) (d : Array α) (hg : B ≤ g) : RowKit.Below B w (putRow enc (Sort.ahead w q) g 0 d) := by
  refine ⟨rfl, rfl, rfl, by simp, fun k hk => ?_⟩
  unfold putRow mapBlock
  simp only [heap_ahead, Array.getElem?_modify]
  rw [if_neg (by omega)]

theorem delete_any {α : Type} [Inhabited α] (e : α → Nat) (zr : α) (hz : e zr = 0) (f : Nat) (lb : Array Value) (eg : ∀ args w, (callFunc f args).run Try.prog w = .ok (.enter f args) w) (p : α → Bool) (q : Nat → Bool) (hq : ∀ x, p x = q (e x))
    (D : List α) (B : Nat) (v : Value) (w : World) (hv : w.ownsRow B 3 1 v D.length (nv (D.map e))) (hv0 : v ≠ .slice none 0 0) (hl : D.length ≤ 1000)
    (hp : PredAt Try.prog f lb (fun x => .int .i64 ((e x : Nat) : Int)) p w) (hpo : ∀ blk, B ≤ blk → PredOver Try.prog f lb (fun x => .int .i64 ((e x : Nat) : Int)) p blk 0 D.length w) :
    Calls Try.prog 93 #[v, .func (.func f) #[] lb] w fun x w' => ∃ v', x = .returned v' ∧ CL w' B v' ((D.map e).filter fun k => !q k) ∧ RowKit.Below B w w' := by
  obtain ⟨g, cap, cur, rfl, hB, hg, hnc, hcap, hcs, htk⟩ : ∃ g cap cur, v = .slice (some ⟨g, 0, none⟩) D.length cap ∧ B ≤ g ∧ w.heap[g]? = some (.cells cur 3 (0, 0)) ∧ D.length ≤ cap ∧ cap ≤ maxLen ∧ cur.size = cap * 1 ∧ cur.toList.take (D.length * 1) = nv (D.map e) := by
    rcases hv.2 with ⟨h, -⟩ | h
    · exact absurd h hv0
    · exact h
  have hH : Holds (fun x : α => Value.int .i64 ((e x : Nat) : Int)) w g 0 D.toArray := fun j hj => by
    have hj' : j < D.length := by simpa using hj
    rw [Nat.zero_add]
    refine ⟨?_, hv.frozenAt j⟩
    rw [hv.cellAt j (by omega), nv_get (by simpa using hj')]
    simp [hj']
  have hsz : D.toArray.size = D.length := by simp
  have hC := AnyE.slices_DeleteFunc Try.delL (fun x : α => Value.int .i64 ((e x : Nat) : Int)) (fun _ => rfl) p f lb eg zr (fun w => by rw [hz]; exact Try.zeroValue3 w) g 0 cap D.toArray w hp (by rw [hsz]; exact hpo g hB) hH (by rw [hsz]; omega) (by rw [hsz]; omega)
  change Calls Try.prog 93 _ _ _ at hC
  rw [hsz] at hC
  refine hC.mono fun x w' ⟨hx, n, hw⟩ => ?_
  have hfl : (D.filter fun x => !p x).length ≤ D.length := List.length_filter_le _ _
  have hmap : (D.map e).filter (fun k => !q k) = (D.filter fun x => !p x).map e := by
    rw [List.filter_map]
    congr 1
    exact List.filter_congr fun x _ => by simp [hq x]
  refine ⟨_, hx, ?_, ?_⟩
  · rw [hmap]
    refine ⟨g, cap, by simp, hB, fun j hj => ?_⟩
    have hj' : j < (D.filter fun x => !p x).length := by simpa using hj
    subst hw
    have := cell?_putRow (fun x : α => Value.int .i64 ((e x : Nat) : Int)) (Sort.ahead w n) g 0 D.toArray ((D.toArray.toList.filter fun x => !p x) ++ List.replicate (D.length - (D.toArray.toList.filter fun x => !p x).length) zr).toArray (holds_ahead _ w n g 0 _ hH) (by simp; omega) j (by simp; omega)
    rw [Nat.zero_add] at this
    rw [this]
    have ef : (D.toArray.toList.filter fun x => !p x) = D.filter fun x => !p x := by simp
    rw [ef]
    generalize (D.filter fun x => !p x) = F at hj' hfl ⊢
    rw [getElem!_pos _ j (by simp; omega), List.getElem_toArray, List.getElem_append_left hj']
    simp [List.getD_eq_getElem?_getD, hj']
  · subst hw
    exact below_putRow _ w g B n _ hB

theorem leftOf_any (i p B : Nat) (D : List Nat) (v : Value) (w : World) (hv : w.ownsRow B 3 1 v D.length (nv D)) (hv0 : v ≠ .slice none 0 0) (hl : D.length ≤ 1000) (hp : w.cell? ⟨p, 0, none⟩ = some (.int .i64 ((i : Nat) : Int))) (hpB : p < B) :
    Calls Try.prog 93 #[v, .func (.func 95) #[] #[.pointer (some ⟨p, 0, none⟩)]] w fun x w' => ∃ v', x = .returned v' ∧ CL w' B v' (D.filter fun k => decide (i ≤ k)) ∧ RowKit.Below B w w' := by
  have hlt : p < w.heap.size := World.block_lt_of_cell? w _ hp
  have eg : ∀ args w, (callFunc 95 args).run Try.prog w = .ok (.enter 95 args) w := enters_of Try.func95 (by kernel_rfl) rfl
  have h := delete_any (fun k : Nat => k) 0 rfl 95 #[.pointer (some ⟨p, 0, none⟩)] eg (fun x => decide (x < i)) (fun x => decide (x < i)) (fun _ => rfl) D B v w (by simpa using hv) hv0 hl
    (fun W x hb => del95_any i p x W ((hb.cell (p := ⟨p, 0, none⟩) hlt).trans hp))
    (fun blk hblk n os dk x _ => del95_any i p x _ (by
      unfold World.cell?
      rw [heap_sortWorld _ w blk n dk os hlt (by omega)]
      exact hp))
  have e : (D.map fun k => k).filter (fun k => !decide (k < i)) = D.filter fun k => decide (i ≤ k) := by
    rw [List.map_id' D]
    refine List.filter_congr fun k _ => ?_
    by_cases h : k < i
    · have : ¬ i ≤ k := by omega
      simp [h, this]
    · have : i ≤ k := by omega
      simp [h, this]
  rw [e] at h
  exact h

theorem restOf_any (U : Nat → Bool) (p B : Nat) (D : List Nat) (v : Value) (w : World) (hv : w.ownsRow B 3 1 v D.length (nv D)) (hv0 : v ≠ .slice none 0 0) (hl : D.length ≤ 1000) (hD : ∀ k ∈ D, k < 32) (hp : UB w p U) (hpB : p < B) :
    Calls Try.prog 93 #[v, .func (.func 96) #[] #[.pointer (some ⟨p, 0, none⟩)]] w fun x w' => ∃ v', x = .returned v' ∧ CL w' B v' (D.filter fun k => !U k) ∧ RowKit.Below B w w' := by
  have eg : ∀ args w, (callFunc 96 args).run Try.prog w = .ok (.enter 96 args) w := enters_of Try.func96 (by kernel_rfl) rfl
  have hm : (D.pmap (fun k hk => (⟨k, hk⟩ : Fin 32)) hD).map (fun x => x.1) = D := by
    rw [List.map_pmap]
    simp
  have hlen : (D.pmap (fun k hk => (⟨k, hk⟩ : Fin 32)) hD).length = D.length := by simp
  have h := delete_any (fun k : Fin 32 => k.1) 0 rfl 96 #[.pointer (some ⟨p, 0, none⟩)] eg (fun x => U x.1) U (fun _ => rfl) (D.pmap (fun k hk => (⟨k, hk⟩ : Fin 32)) hD) B v w (by rw [hm, hlen]; exact hv) hv0 (by rw [hlen]; exact hl)
    (fun W x hb => del96_any U p x.1 x.2 W (hp.of (hb.block p hp.lt)))
    (fun blk hblk n os dk x _ => del96_any U p x.1 x.2 _ (hp.of (heap_sortWorld _ w blk n dk os hp.lt (by omega))))
  rw [hm] at h
  exact h

end Go.Proofs.Ytiebbbeijlfedaa

/- Walks: whether two marks run on into one another. -/
namespace Go.Proofs.Ytiebbbeijlfedaa
open Go Go.RowKit Go.Proofs Go.Pairs

/-- Two marks run on into one another. -/
def runs1 (a b : M3) (s : Int) : Bool := (a.z == b.z) && wi (a.y + b.y - 16) (-s) s
def runsM (A B : List M3) (s : Int) (i k : Nat) : Bool := runs1 (mq A i) (mq B k) s

/-- Places within an edge. -/
def Pl (M : List M3) : Prop := ∀ k, k < M.length → 0 ≤ (mq M k).y ∧ (mq M k).y ≤ 16

set_option maxRecDepth 100000 in
set_option maxHeartbeats 2000000 in
theorem runOn_any (A B : List M3) (s : Int) (hs : 0 ≤ s ∧ s ≤ 16) (hA : Pl A) (hB : Pl B) (i k pa pb ps : Nat) (va vb : Value) (w : World) (hi : i < A.length) (hk : k < B.length)
    (ca : w.cell? ⟨pa, 0, none⟩ = some va) (cb : w.cell? ⟨pb, 0, none⟩ = some vb) (cs : w.cell? ⟨ps, 0, none⟩ = some (.int .i64 s)) (sA : SlM w va A) (sB : SlM w vb B) :
    Calls Try.prog 90 #[.int .i64 ((i : Nat) : Int), .int .i64 ((k : Nat) : Int), .pointer (some ⟨pa, 0, none⟩), .pointer (some ⟨pb, 0, none⟩), .pointer (some ⟨ps, 0, none⟩)] w fun e w' => e = .returned (.bool (runsM A B s i k)) ∧ Below w.heap.size w w' := by
  obtain ⟨a, capa, rfl, -, hca⟩ := sA
  obtain ⟨b, capb, rfl, -, hcb⟩ := sB
  obtain ⟨ba, oa, rfl, -, a1, a2⟩ := hca i hi
  obtain ⟨bb, ob, rfl, -, b1, b2⟩ := hcb k hk
  clear hca hcb
  have pA := hA i hi
  have pB := hB k hk
  clear hA hB
  unfold runsM runs1
  have j1 : (i : Int) < (A.length : Int) := by omega
  have j2 : (k : Int) < (B.length : Int) := by omega
  generalize (mq A i).y = y0 at a1 pA ⊢
  generalize (mq A i).z = z0 at a2 ⊢
  generalize (mq B k).y = y1 at b1 pB ⊢
  generalize (mq B k).z = z1 at b2 ⊢
  generalize A.length = n at *
  generalize B.length = m at *
  have e1 : IntKind.i64.wrap (y0 + y1) = y0 + y1 := wi64 _ (by omega)
  have e2 : IntKind.i64.wrap (y0 + y1 - 16) = y0 + y1 - 16 := wi64 _ (by omega)
  have e3 : IntKind.i64.wrap (-s) = -s := wi64 _ (by omega)
  have C := fun w => within_any (y0 + y1 - 16) (-s) s w
  generalize wi (y0 + y1 - 16) (-s) s = r at C ⊢
  have G0 := grow_cell ca
  have G1 := grow_cell cb
  have G2 := grow_cell cs
  have G3 := grow_cell a1
  have G4 := grow_cell a2
  have G5 := grow_cell b1
  have G6 := grow_cell b2
  clear ca cb cs a1 a2 b1 b2
  by_cases hz : z0 = z1
  · have jz : (z0 == z1) = true := by rw [hz]; simp
    rw [jz]
    clear hz
    go_enter Try.func90, Try.ntmps90
    go_wp2_with fail
    refine wp_region_grow (by kernel_rfl) (by kernel_rfl) ?_
    repeat (go_big_quiet_step ((go_at_call 36; with_reducible exact calls_grow_same (C _))))
    refine wpQuiet_nil ?_
    rintro w2 ⟨g, hg⟩
    have hb2 : Below w.heap.size w w2 := by rw [hg]; exact g.b
    clear hg g G0 G1 G2 G3 G4 G5 G6
    go_wp2
    go_ret
    exact ⟨rfl, hb2⟩
  · have jz : (z0 == z1) = false := by rw [beq_eq_false_iff_ne]; exact hz
    rw [jz]
    clear hz
    go_enter Try.func90, Try.ntmps90
    go_wp2_with fail
    refine wp_region_grow (by kernel_rfl) (by kernel_rfl) ?_
    repeat (go_big_quiet_step ((go_at_call 36; with_reducible exact calls_grow_same (C _))))
    refine wpQuiet_nil ?_
    rintro w2 ⟨g, hg⟩
    have hb2 : Below w.heap.size w w2 := by rw [hg]; exact g.b
    clear hg g G0 G1 G2 G3 G4 G5 G6
    go_wp2
    go_ret
    exact ⟨rfl, hb2⟩

end Go.Proofs.Ytiebbbeijlfedaa

/- Walks: EqualFunc of what is left. -/
namespace Go.Pairs
theorem eqF_intro {r : Nat → Nat → Bool} : ∀ {X Y : List Nat}, X.length = Y.length → (∀ j, j < X.length → r (X.getD j 0) (Y.getD j 0) = true) → eqF r X Y = true
  | [], [], _, _ => rfl
  | a :: l, b :: m, hl, h => by
    show (r a b && eqF r l m) = true
    rw [Bool.and_eq_true]
    exact ⟨h 0 (by simp), eqF_intro (by simpa using hl) fun j hj => h (j + 1) (by simpa using hj)⟩
  | [], _ :: _, hl, _ => by simp at hl
  | _ :: _, [], hl, _ => by simp at hl
theorem eqF_elim {r : Nat → Nat → Bool} : ∀ {X Y : List Nat}, eqF r X Y = true → ∀ j, j < X.length → r (X.getD j 0) (Y.getD j 0) = true
  | [], [], _, j, hj => absurd hj (Nat.not_lt_zero _)
  | a :: l, b :: m, h, j, hj => by
    have h' : (r a b && eqF r l m) = true := h
    rw [Bool.and_eq_true] at h'
    cases j with
    | zero => exact h'.1
    | succ j => exact eqF_elim h'.2 j (by simpa using hj)
  | [], _ :: _, h, _, _ => by cases h
  | _ :: _, [], h, _, _ => by cases h
theorem eqF_no {r : Nat → Nat → Bool} {X Y : List Nat} (j : Nat) (hj : j < X.length) (h : r (X.getD j 0) (Y.getD j 0) = false) : eqF r X Y = false := by
  cases e : eqF r X Y
  · rfl
  · rw [eqF_elim e j hj] at h; cases h
theorem eqF_nolen {r : Nat → Nat → Bool} {X Y : List Nat} (h : X.length ≠ Y.length) : eqF r X Y = false := by
  cases e : eqF r X Y
  · rfl
  · exact absurd (eqF_len e) h
end Go.Pairs

namespace Go.Proofs.Ytiebbbeijlfedaa
open Go Go.RowKit Go.Proofs Go.Pairs

set_option maxRecDepth 100000 in
set_option maxHeartbeats 2000000 in
theorem equal_any (A B : List M3) (s : Int) (hs : 0 ≤ s ∧ s ≤ 16) (hA : Pl A) (hB : Pl B) (pa pb ps : Nat) (va vb : Value) (w : World) (X Y : List Nat) (g g' c c' : Nat)
    (hX : ∀ j, j < X.length → X.getD j 0 < A.length) (hY : ∀ j, j < Y.length → Y.getD j 0 < B.length) (hlX : X.length ≤ 1000) (hlY : Y.length ≤ 1000)
    (ca : w.cell? ⟨pa, 0, none⟩ = some va) (cb : w.cell? ⟨pb, 0, none⟩ = some vb) (cs : w.cell? ⟨ps, 0, none⟩ = some (.int .i64 s)) (sA : SlM w va A) (sB : SlM w vb B)
    (cX : ∀ j, j < X.length → w.cell? ⟨g, j, none⟩ = some (.int .i64 ((X.getD j 0 : Nat) : Int))) (cY : ∀ j, j < Y.length → w.cell? ⟨g', j, none⟩ = some (.int .i64 ((Y.getD j 0 : Nat) : Int))) :
    Calls Try.prog 97 #[.slice (some ⟨g, 0, none⟩) X.length c, .slice (some ⟨g', 0, none⟩) Y.length c', .func (.func 90) #[] #[.pointer (some ⟨pa, 0, none⟩), .pointer (some ⟨pb, 0, none⟩), .pointer (some ⟨ps, 0, none⟩)]] w fun e w' => e = .returned (.bool (eqF (runsM A B s) X Y)) ∧ Below w.heap.size w w' := by
  have HR : Hid (∀ W, Below w.heap.size w W → ∀ i k, i < A.length → k < B.length → Calls Try.prog 90 #[.int .i64 ((i : Nat) : Int), .int .i64 ((k : Nat) : Int), .pointer (some ⟨pa, 0, none⟩), .pointer (some ⟨pb, 0, none⟩), .pointer (some ⟨ps, 0, none⟩)] W fun e w' => e = .returned (.bool (runsM A B s i k)) ∧ Below W.heap.size W w') :=
    Lib.hid fun W hb i k hi hk => runOn_any A B s hs hA hB i k pa pb ps va vb W hi hk (keep_cell hb ca) (keep_cell hb cb) (keep_cell hb cs) (sA.keep hb) (sB.keep hb)
  have HX := Lib.hid hX
  have HY := Lib.hid hY
  have HCX := Lib.hid cX
  have HCY := Lib.hid cY
  clear hX hY cX cY ca cb cs sA sB hA hB hs
  by_cases hl : X.length = Y.length
  · have H1 := Lib.hid (eqF_intro (r := runsM A B s) hl)
    have H2 : Hid (∀ j, j < X.length → runsM A B s (X.getD j 0) (Y.getD j 0) = false → eqF (runsM A B s) X Y = false) := Lib.hid fun j => eqF_no j
    generalize eqF (runsM A B s) X Y = r at H1 H2 ⊢
    rw [← hl] at HY HCY hlY ⊢
    clear hl
    obtain ⟨n, hn⟩ : ∃ n, X.length = n := ⟨_, rfl⟩
    rw [hn] at H1 H2 HX HY HCX HCY hlX hlY ⊢
    clear hn
    go_enter Try.func97, Try.ntmps97
    go_wp2_with fail
    go_loopw [17] (fun i wr => ∃ k : Nat, k ≤ n ∧ i = .int .i64 k ∧ Below w.heap.size w wr ∧ ∀ j, j < k → runsM A B s (X.getD j 0) (Y.getD j 0) = true) (fun i _ => n - (intOf i).toNat)
    case atStart => exact ⟨0, Nat.zero_le _, rfl, Below.refl _ _, by simp⟩
    case round =>
      obtain ⟨k, hk, rfl, hbel, hall⟩ := hrel
      have HA := Lib.hid hall
      clear hall
      by_cases hlt : k < n
      · have j1 : (k : Int) < (n : Int) := by omega
        have x0 := keep_cell hbel (HCX.out k hlt)
        have y0 := keep_cell hbel (HCY.out k hlt)
        have C := HR.out wr hbel _ _ (HX.out k hlt) (HY.out k hlt)
        obtain ⟨t, ht⟩ : ∃ t, runsM A B s (X.getD k 0) (Y.getD k 0) = t := ⟨_, rfl⟩
        rw [ht] at C
        have HT := Lib.hid ht
        clear ht
        generalize ((X.getD k 0 : Nat) : Int) = xk at x0 C
        generalize ((Y.getD k 0 : Nat) : Int) = yk at y0 C
        cases t
        · have hr := H2.out k hlt HT.out
          subst hr
          go_wp2_with (go_at_call 90; with_reducible refine C.mono ?_; rintro e w1 ⟨rfl, hb1⟩)
          go_ret
          exact ⟨rfl, keep_below hbel hb1⟩
        · go_wp2_with (go_at_call 90; with_reducible refine C.mono ?_; rintro e w1 ⟨rfl, hb1⟩)
          refine ⟨⟨k + 1, by omega, by simp, keep_below hbel hb1, fun j hj => ?_⟩, by simp [intOf]; omega⟩
          rcases Nat.lt_or_ge j k with h | h
          · exact HA.out j h
          · obtain rfl : j = k := by omega
            exact HT.out
      · obtain rfl : k = n := by omega
        have hr := H1.out (fun j hj => HA.out j hj)
        subst hr
        go_wp2
        go_ret
        exact ⟨rfl, hbel⟩
  · rw [eqF_nolen hl]
    have j1 : ((X.length : Int) == (Y.length : Int)) = false := by rw [beq_eq_false_iff_ne]; omega
    generalize X.length = n at *
    generalize Y.length = m at *
    go_enter Try.func97, Try.ntmps97
    go_wp2
    go_ret
    exact ⟨rfl, Below.refl _ _⟩

end Go.Proofs.Ytiebbbeijlfedaa

/- Walks: what is open. -/
namespace Go.Proofs.Ytiebbbeijlfedaa
open Go Go.RowKit Go.Proofs Go.Pairs Go.Shelf

theorem clone_any (g c : Nat) (L : List Nat) (w : World) (h : NB w g L) (hl : L.length ≤ 1000) :
    Calls Try.prog 94 #[.slice (some ⟨g, 0, none⟩) L.length c] w fun e w' => ∃ v', e = .returned v' ∧ w'.ownsRow w.heap.size 3 1 v' L.length (nv L) ∧ v' ≠ .slice none 0 0 ∧ Below w.heap.size w w' := by
  obtain ⟨i0, hi, hz0, hz1, hz2⟩ := info_parts info3
  have := AnyE.slices_Clone Try.cloneL i0 (.int .i64 0) 1 8 hi hz0 hz1 hz2 rfl (by decide) (fun w => Try.sizeOf3 w) g 0 L.length c (nv L) w (by rw [nv_len, Nat.mul_one]) (by unfold maxLen; omega) (by omega)
    (fun j u hu => by
      have hj : j < L.length := by rw [← nv_len L]; exact (List.getElem?_eq_some_iff.1 hu).1
      rw [nv_get hj] at hu
      cases hu
      rw [Nat.zero_add]; exact h.cell hj)
    (fun u hu => by
      unfold nv at hu
      obtain ⟨k, -, rfl⟩ := List.mem_map.1 hu
      rfl)
  exact this

/-- The boxes of a search: the closure of two marks, both orders, the paired ones. -/
structure Box92 (w : World) (A B : List M3) (s : Int) (pa pb ps p8 p10 p11 p12 gR gF : Nat) (va vb : Value) (R F : List Nat) (U : Nat → Bool) : Prop where
  ca : w.cell? ⟨pa, 0, none⟩ = some va
  cb : w.cell? ⟨pb, 0, none⟩ = some vb
  cs : w.cell? ⟨ps, 0, none⟩ = some (.int .i64 s)
  sA : SlM w va A
  sB : SlM w vb B
  c8 : w.cell? ⟨p8, 0, none⟩ = some (.func (.func 90) #[] #[.pointer (some ⟨pa, 0, none⟩), .pointer (some ⟨pb, 0, none⟩), .pointer (some ⟨ps, 0, none⟩)])
  c11 : w.cell? ⟨p11, 0, none⟩ = some (.slice (some ⟨gR, 0, none⟩) R.length R.length)
  c12 : w.cell? ⟨p12, 0, none⟩ = some (.slice (some ⟨gF, 0, none⟩) F.length F.length)
  nR : NB w gR R
  nF : NB w gF F
  u : UB w p10 U

theorem Box92.keep {w w' : World} {A B : List M3} {s : Int} {pa pb ps p8 p10 p11 p12 gR gF : Nat} {va vb : Value} {R F : List Nat} {U : Nat → Bool} (h : Box92 w A B s pa pb ps p8 p10 p11 p12 gR gF va vb R F U) (hb : Below w.heap.size w w') :
    Box92 w' A B s pa pb ps p8 p10 p11 p12 gR gF va vb R F U :=
  ⟨keep_cell hb h.ca, keep_cell hb h.cb, keep_cell hb h.cs, h.sA.keep hb, h.sB.keep hb, keep_cell hb h.c8, keep_cell hb h.c11, keep_cell hb h.c12, h.nR.keep hb, h.nF.keep hb, h.u.keep hb⟩

theorem getD_mem {L : List Nat} {j : Nat} (h : j < L.length) : L.getD j 0 ∈ L := by
  simp [List.getD_eq_getElem?_getD, h]

set_option maxRecDepth 100000 in
set_option maxHeartbeats 2000000 in
theorem open_any (A B : List M3) (s : Int) (hs : 0 ≤ s ∧ s ≤ 16) (hA : Pl A) (hB : Pl B) (hlB : B.length ≤ 32) (pa pb ps p8 p10 p11 p12 gR gF : Nat) (va vb : Value) (R F : List Nat) (U : Nat → Bool) (i : Nat) (w : World)
    (hR : ∀ k ∈ R, k < A.length) (hF : ∀ k ∈ F, k < B.length) (hRl : R.length ≤ 1000) (hFl : F.length ≤ 1000) (h : Box92 w A B s pa pb ps p8 p10 p11 p12 gR gF va vb R F U) :
    Calls Try.prog 92 #[.int .i64 ((i : Nat) : Int), .pointer (some ⟨p11, 0, none⟩), .pointer (some ⟨p12, 0, none⟩), .pointer (some ⟨p10, 0, none⟩), .pointer (some ⟨p8, 0, none⟩)] w fun e w' =>
      e = .returned (.bool (eqF (runsM A B s) (R.filter fun k => decide (i ≤ k)) (F.filter fun k => !U k))) ∧ Below w.heap.size w w' := by
  have b0 : Below w.heap.size w (w.alloc (.cells #[.int .i64 ((i : Nat) : Int)] 3)) := (Below.refl _ w).alloc (Nat.le_refl _) _
  have cI : (w.alloc (.cells #[.int .i64 ((i : Nat) : Int)] 3)).cell? ⟨w.heap.size, 0, none⟩ = some (.int .i64 ((i : Nat) : Int)) := (Boxed.new w 3 _).cell
  have h0 := h.keep b0
  have z0 : (w.alloc (.cells #[.int .i64 ((i : Nat) : Int)] 3)).heap.size = w.heap.size + 1 := by simp
  obtain ⟨W0, hW0⟩ : ∃ W0, w.alloc (.cells #[.int .i64 ((i : Nat) : Int)] 3) = W0 := ⟨_, rfl⟩
  rw [hW0] at b0 cI h0 z0
  have HW := Lib.hid hW0
  have HH := Lib.hid h0
  have C1 := clone_any gR R.length R W0 h0.nR hRl
  have c11 := h0.c11
  clear h hW0 h0
  have hfR : ∀ j, j < (R.filter fun k => decide (i ≤ k)).length → (R.filter fun k => decide (i ≤ k)).getD j 0 < A.length := fun j hj => hR _ (List.mem_filter.1 (getD_mem hj)).1
  have hfF : ∀ j, j < (F.filter fun k => !U k).length → (F.filter fun k => !U k).getD j 0 < B.length := fun j hj => hF _ (List.mem_filter.1 (getD_mem hj)).1
  have hlX : (R.filter fun k => decide (i ≤ k)).length ≤ 1000 := Nat.le_trans (List.length_filter_le _ _) hRl
  have hlY : (F.filter fun k => !U k).length ≤ 1000 := Nat.le_trans (List.length_filter_le _ _) hFl
  have L1 := fun v w hv hv0 hp hpB => leftOf_any i w.heap.size (w.heap.size + 1) R v w hv hv0 hRl hp hpB
  clear L1
  have HL1 : Hid (∀ v W, W.ownsRow (w.heap.size + 1) 3 1 v R.length (nv R) → v ≠ .slice none 0 0 → W.cell? ⟨w.heap.size, 0, none⟩ = some (.int .i64 ((i : Nat) : Int)) → Calls Try.prog 93 #[v, .func (.func 95) #[] #[.pointer (some ⟨w.heap.size, 0, none⟩)]] W fun x w' => ∃ v', x = .returned v' ∧ CL w' (w.heap.size + 1) v' (R.filter fun k => decide (i ≤ k)) ∧ Below (w.heap.size + 1) W w') :=
    Lib.hid fun v W hv hv0 hp => leftOf_any i w.heap.size (w.heap.size + 1) R v W hv hv0 hRl hp (by omega)
  have HL2 : Hid (∀ v W b, W.ownsRow b 3 1 v F.length (nv F) → v ≠ .slice none 0 0 → UB W p10 U → p10 < b → Calls Try.prog 93 #[v, .func (.func 96) #[] #[.pointer (some ⟨p10, 0, none⟩)]] W fun x w' => ∃ v', x = .returned v' ∧ CL w' b v' (F.filter fun k => !U k) ∧ Below b W w') :=
    Lib.hid fun v W b hv hv0 hu hpB => restOf_any U p10 b F v W hv hv0 hFl (fun k hk => Nat.lt_of_lt_of_le (hF k hk) hlB) hu hpB
  generalize (R.filter fun k => decide (i ≤ k)) = X at hfR hlX HL1 ⊢
  generalize (F.filter fun k => !U k) = Y at hfF hlY HL2 ⊢
  have HE : Hid (∀ W g g' c c', Box92 W A B s pa pb ps p8 p10 p11 p12 gR gF va vb R F U → (∀ j, j < X.length → W.cell? ⟨g, j, none⟩ = some (.int .i64 ((X.getD j 0 : Nat) : Int))) → (∀ j, j < Y.length → W.cell? ⟨g', j, none⟩ = some (.int .i64 ((Y.getD j 0 : Nat) : Int))) →
      Calls Try.prog 97 #[.slice (some ⟨g, 0, none⟩) X.length c, .slice (some ⟨g', 0, none⟩) Y.length c', .func (.func 90) #[] #[.pointer (some ⟨pa, 0, none⟩), .pointer (some ⟨pb, 0, none⟩), .pointer (some ⟨ps, 0, none⟩)]] W fun e w' => e = .returned (.bool (eqF (runsM A B s) X Y)) ∧ Below W.heap.size W w') :=
    Lib.hid fun W g g' c c' hx cX cY => equal_any A B s hs hA hB pa pb ps va vb W X Y g g' c c' hfR hfF hlX hlY hx.ca hx.cb hx.cs hx.sA hx.sB cX cY
  generalize eqF (runsM A B s) X Y = r at HE ⊢
  clear hfR hfF hlX hlY hA hB hR hF hlB hs
  have HFl := Lib.hid hFl
  have c11a : (w.alloc (.cells #[.int .i64 ((i : Nat) : Int)] 3)).cell? ⟨p11, 0, none⟩ = some (.slice (some ⟨gR, 0, none⟩) R.length R.length) := by rw [HW.out]; exact c11
  go_enter Try.func92, Try.ntmps92
  go_wp2_with fail
  rw [HW.out]
  clear HW c11a
  refine C1.mono ?_
  rintro e w1 ⟨v1, rfl, o1, n1, hb1⟩
  have h1 := HH.out.keep hb1
  have cI1 := keep_cell hb1 cI
  have b1 := keep_below b0 hb1
  rw [z0] at o1
  have C2 := HL1.out v1 w1 o1 n1 cI1
  clear C1 o1 n1 HL1 cI c11
  go_wp2_with fail
  refine C2.mono ?_
  rintro e w2 ⟨v2, rfl, cl2, hb2⟩
  have z1 := hb1.size
  have h2 : Box92 w2 A B s pa pb ps p8 p10 p11 p12 gR gF va vb R F U := by
    have hz : Below W0.heap.size w1 w2 := hb2.mono (by omega)
    exact HH.out.keep (hb1.trans hz)
  have b2 : Below w.heap.size w w2 := b1.trans (hb2.mono (by omega))
  have C3 := clone_any gF F.length F w2 h2.nF HFl.out
  have c12 := h2.c12
  clear C2 h1 cI1 b1 b0 hb1 hb2 HH z0 z1
  have H2 := Lib.hid h2
  clear h2
  go_wp2_with fail
  refine C3.mono ?_
  rintro e w3 ⟨v3, rfl, o3, n3, hb3⟩
  have h3 := H2.out.keep hb3
  have C4 := HL2.out v3 w3 w2.heap.size o3 n3 h3.u (H2.out.u.lt)
  clear C3 o3 n3 HL2 c12
  go_wp2_with fail
  refine C4.mono ?_
  rintro e w4 ⟨v4, rfl, cl4, hb4⟩
  have hb34 := hb3.trans hb4
  have h4 := H2.out.keep hb34
  have cl2' := cl2.keep hb34
  have b4 := keep_below b2 hb34
  obtain ⟨g, c, rfl, -, hX⟩ := cl2'
  obtain ⟨g', c', rfl, -, hY⟩ := cl4
  have C5 := HE.out w4 g g' c c' h4 hX hY
  have c8 := h4.c8
  clear C4 hb3 hb4 hb34 h4 b2 H2 hX hY cl2 HE h3
  go_wp2_with fail
  refine C5.mono ?_
  rintro e w5 ⟨rfl, hb5⟩
  clear C5 c8
  go_wp2
  go_ret
  exact ⟨rfl, keep_below b4 hb5⟩

end Go.Proofs.Ytiebbbeijlfedaa
