/- The abstract machine, part LN. -/
import Derived.Test.YtcfapbccegijnaaGreatLM
import Derived.Test.YtcfapbccegijnaaGreatLL
import Derived.Test.YtcfapbccegijnaaGreatLK
/- Walks: holds. -/
namespace Go.Proofs.YtcfapbccegijnaaGreat
open Go Go.RowKit Go.Proofs Go.Abs

def near (lo hi n : Int) : Int := min (max lo n) hi

/-- What each operation of the region yields. -/
def HoldV (g : G5) (a b c : Int) (B : Nat) : Nat → Value → World → Prop
  | 0, v, _ => v = ms a b c
  | 1, v, _ => v = .pointer (some ⟨B, 0, none⟩)
  | 2, v, _ => v = spn g.a g.b
  | 3, v, _ => v = .pointer (some ⟨B + 1, 0, none⟩)
  | 4, v, _ => v = .int .i64 a
  | 5, v, _ => v = .int .i64 (near g.a g.b a)
  | 6, v, _ => v = .pointer (some ⟨B, 2, none⟩)
  | 7, v, _ => v = spn g.c g.d
  | 8, v, _ => v = .pointer (some ⟨B + 1, 1, none⟩)
  | 9, v, _ => v = .int .i64 b
  | 10, v, _ => v = .int .i64 (near g.c g.d b)
  | 11, v, _ => v = .pointer (some ⟨B, 4, none⟩)
  | 12, v, _ => v = .int .i64 g.e
  | 13, v, _ => v = .pointer (some ⟨B + 1, 2, none⟩)
  | 14, v, _ => v = .int .i64 c
  | 15, v, w => ∃ p, v = .slice (some ⟨p, 0, none⟩) 2 2 ∧ w.cell? ⟨p, 0, none⟩ = some (.int .i64 g.e) ∧ w.cell? ⟨p, 1, none⟩ = some (.int .i64 c)
  | 16, v, _ => v = .int .i64 ((if g.e = 0 then c else g.e))
  | 17, v, _ => v = ms (near g.a g.b a) (near g.c g.d b) ((if g.e = 0 then c else g.e))
  | _, v, _ => v = .bool (a == near g.a g.b a && (b == near g.c g.d b && c == (if g.e = 0 then c else g.e)))

theorem HoldV.keep {g : G5} {a b c : Int} {B : Nat} : ∀ i v W W', HoldV g a b c B i v W → Below W.heap.size W W' → HoldV g a b c B i v W'
  | 0, _, _, _, h, _ => h
  | 1, _, _, _, h, _ => h
  | 2, _, _, _, h, _ => h
  | 3, _, _, _, h, _ => h
  | 4, _, _, _, h, _ => h
  | 5, _, _, _, h, _ => h
  | 6, _, _, _, h, _ => h
  | 7, _, _, _, h, _ => h
  | 8, _, _, _, h, _ => h
  | 9, _, _, _, h, _ => h
  | 10, _, _, _, h, _ => h
  | 11, _, _, _, h, _ => h
  | 12, _, _, _, h, _ => h
  | 13, _, _, _, h, _ => h
  | 14, _, _, _, h, _ => h
  | 15, _, _, _, ⟨p, h1, h2, h3⟩, hb => ⟨p, h1, keep_cell hb h2, keep_cell hb h3⟩
  | 16, _, _, _, h, _ => h
  | 17, _, _, _, h, _ => h
  | _ + 18, _, _, _, h, _ => h

end Go.Proofs.YtcfapbccegijnaaGreat

/- Walks: DeleteFunc of a row of settings. -/
namespace Go.Proofs.YtcfapbccegijnaaGreat
open Go Go.RowKit Go.Proofs Go.Abs

/-- The block holds the settings of the list, from its start on. -/
def RowS (W : World) (g : Nat) (D : List (Nat × Bool)) : Prop := ∃ cur, W.heap[g]? = some (.cells cur 28 (0, 0)) ∧ ∀ j, j < D.length * 2 → cur[j]? = (encS D)[j]?

theorem encS_len (D : List (Nat × Bool)) : (encS D).length = D.length * 2 := by
  induction D with
  | nil => rfl
  | cons p D ih => simp [encS] at ih ⊢; omega

theorem RowS.lt {W : World} {g : Nat} {D : List (Nat × Bool)} (h : RowS W g D) : g < W.heap.size := by
  obtain ⟨cur, h, -⟩ := h
  exact (Array.getElem?_eq_some_iff.1 h).1
theorem RowS.cell {W : World} {g : Nat} {D : List (Nat × Bool)} (h : RowS W g D) {i : Nat} {p : Nat × Bool} (hp : D[i]? = some p) : W.cell? ⟨g, i * 2, none⟩ = some (.int .i64 p.1) ∧ W.cell? ⟨g, i * 2 + 1, none⟩ = some (.bool p.2) := by
  obtain ⟨cur, h1, h2⟩ := h
  have hi : i < D.length := (List.getElem?_eq_some_iff.1 hp).1
  have e := encS_get D i p hp
  exact ⟨cell_of h1 ((h2 _ (by omega)).trans e.1), cell_of h1 ((h2 _ (by omega)).trans e.2)⟩
theorem RowS.frozen {W : World} {g : Nat} {D : List (Nat × Bool)} (h : RowS W g D) (o : Nat) : W.frozen? ⟨g, o, none⟩ = false := by
  obtain ⟨cur, h1, -⟩ := h
  exact frozen_of h1
theorem RowS.keep {W W' : World} {g : Nat} {D : List (Nat × Bool)} (h : RowS W g D) (hb : Below W.heap.size W W') : RowS W' g D := by
  obtain ⟨cur, h1, h2⟩ := h
  exact ⟨cur, (hb.block g (Array.getElem?_eq_some_iff.1 h1).1).trans h1, h2⟩

theorem encS_set : ∀ (D : List (Nat × Bool)) (i s : Nat) (b : Bool), encS (D.set i (s, b)) = if i < D.length then ((encS D).set (i * 2) (.int .i64 s)).set (i * 2 + 1) (.bool b) else encS D
  | [], i, s, b => by simp [encS]
  | q :: D, 0, s, b => by simp [encS]
  | q :: D, i + 1, s, b => by
    have ih := encS_set D i s b
    have e : ∀ (p : Nat × Bool) (L : List (Nat × Bool)), encS (p :: L) = .int .i64 p.1 :: .bool p.2 :: encS L := fun p L => by simp [encS]
    rw [List.set_cons_succ, e, ih, e]
    by_cases h : i < D.length
    · rw [if_pos h, if_pos (by simpa using h), show (i + 1) * 2 = i * 2 + 1 + 1 by omega]
      simp
    · rw [if_neg h, if_neg (by simpa using h)]

theorem RowS.set {W : World} {g : Nat} {D : List (Nat × Bool)} (h : RowS W g D) {i : Nat} (hi : i < D.length) (s : Nat) (b : Bool) :
    RowS ((W.setCell ⟨g, i * 2, none⟩ (.int .i64 s)).setCell ⟨g, i * 2 + 1, none⟩ (.bool b)) g (D.set i (s, b)) := by
  obtain ⟨cur, h1, h2⟩ := h
  refine ⟨_, setCell_heap _ (setCell_heap _ h1), fun j hj => ?_⟩
  rw [List.length_set] at hj
  rw [encS_set, if_pos hi]
  have hs : ∀ j, j < D.length * 2 → j < cur.size := fun j hj => by
    have := h2 j hj
    rw [List.getElem?_eq_getElem (by rw [encS_len]; exact hj)] at this
    exact (Array.getElem?_eq_some_iff.1 this).1
  rw [Array.getElem?_setIfInBounds, List.getElem?_set, List.length_set, encS_len]
  by_cases e1 : i * 2 + 1 = j
  · rw [if_pos e1, if_pos e1, if_pos (by simpa using hs _ (by omega)), if_pos (by omega)]
  · rw [if_neg e1, if_neg e1, Array.getElem?_setIfInBounds, List.getElem?_set, encS_len]
    by_cases e2 : i * 2 = j
    · rw [if_pos e2, if_pos e2, if_pos (hs _ (by omega)), if_pos (by omega)]
    · rw [if_neg e2, if_neg e2]
      exact h2 j hj

/-- What a round leaves: those that are kept, ahead of what was there. -/
def delState (q : Nat × Bool → Bool) (D : List (Nat × Bool)) (j : Nat) : List (Nat × Bool) := (D.take j).filter q ++ D.drop ((D.take j).filter q).length

theorem kept_le (q : Nat × Bool → Bool) (D : List (Nat × Bool)) (j : Nat) : ((D.take j).filter q).length ≤ j := Nat.le_trans (List.length_filter_le _ _) (by simp; omega)
theorem kept_len (q : Nat × Bool → Bool) (D : List (Nat × Bool)) (j : Nat) : ((D.take j).filter q).length ≤ D.length := Nat.le_trans (List.length_filter_le _ _) (by simp; omega)

theorem delState_len (q : Nat × Bool → Bool) (D : List (Nat × Bool)) (j : Nat) : (delState q D j).length = D.length := by
  have := kept_len q D j
  unfold delState
  rw [List.length_append, List.length_drop]
  omega

theorem delState_get (q : Nat × Bool → Bool) (D : List (Nat × Bool)) (j k : Nat) (h : ((D.take j).filter q).length ≤ k) : (delState q D j)[k]? = D[k]? := by
  unfold delState
  rw [List.getElem?_append_right h, List.getElem?_drop]
  congr 1
  omega

theorem kept_succ {q : Nat × Bool → Bool} {D : List (Nat × Bool)} {j : Nat} {p : Nat × Bool} (hp : D[j]? = some p) : (D.take (j + 1)).filter q = (D.take j).filter q ++ (if q p then [p] else []) := by
  rw [List.take_add_one, hp, List.filter_append]
  cases h : q p <;> simp [h]

theorem delState_yes {q : Nat × Bool → Bool} {D : List (Nat × Bool)} {j : Nat} {p : Nat × Bool} (hp : D[j]? = some p) (h : q p = true) : (delState q D j).set ((D.take j).filter q).length p = delState q D (j + 1) := by
  have hj : j < D.length := (List.getElem?_eq_some_iff.1 hp).1
  have hl := kept_le q D j
  unfold delState
  rw [kept_succ hp, if_pos h]
  generalize (D.take j).filter q = K at hl ⊢
  rw [List.set_append_right _ _ (Nat.le_refl _), Nat.sub_self, List.length_append, List.append_assoc]
  congr 1
  have e : D.drop K.length = D[K.length]'(by omega) :: D.drop (K.length + 1) := by rw [List.drop_eq_getElem_cons]
  rw [e]
  rfl

theorem delState_no {q : Nat × Bool → Bool} {D : List (Nat × Bool)} {j : Nat} {p : Nat × Bool} (hp : D[j]? = some p) (h : q p = false) : delState q D j = delState q D (j + 1) := by
  unfold delState
  rw [kept_succ hp, h]
  simp

/-- Grown but for a row. -/
theorem grown_but {W X : World} (h : Below W.heap.size W X) (row : Option Nat) : W.grownBy X row := ⟨h.os, h.tape, h.output, h.size, fun k hk _ => h.block k hk⟩

theorem kept_all {q : Nat × Bool → Bool} {D : List (Nat × Bool)} {k : Nat} (h : ∀ i p, i < k → D[i]? = some p → q p = true) : (D.take k).filter q = D.take k := by
  rw [List.filter_eq_self]
  intro p hp
  obtain ⟨i, hi⟩ := List.mem_iff_getElem?.1 hp
  have hik : i < k := by
    have := (List.getElem?_eq_some_iff.1 hi).1
    simp at this; omega
  rw [List.getElem?_take, if_pos hik] at hi
  exact h i p hik hi

end Go.Proofs.YtcfapbccegijnaaGreat

/- Walks: IndexFunc and DeleteFunc of a row of settings, by the test that fitting makes. -/
namespace Go.Proofs.YtcfapbccegijnaaGreat
open Go Go.RowKit Go.Proofs Go.Abs

/-- What the test answers, whatever has been made since, and whatever the row holds. -/
def Tests (f : Nat) (lb : Array Value) (q : Nat × Bool → Bool) (g : Nat) (w : World) (D : List (Nat × Bool)) : Prop :=
  ∀ W p, w.grownBy W (some g) → p ∈ D → Calls Tryz.prog f (#[st p.1 p.2] ++ lb) W fun e W' => e = .returned (.bool (!q p)) ∧ Below W.heap.size W W'

end Go.Proofs.YtcfapbccegijnaaGreat

/- Walks: DeleteFunc of a row of settings. -/
namespace Go.Proofs.YtcfapbccegijnaaGreat
open Go Go.RowKit Go.Proofs Go.Abs

theorem RowS.setCells {g : Nat} : ∀ (vs : List Value) (o : Nat) (W : World) (D : List (Nat × Bool)), RowS W g D → D.length * 2 ≤ o → RowS (W.setCells g o vs) g D
  | [], _, _, _, h, _ => h
  | v :: r, o, W, D, h, ho => by
    refine RowS.setCells r (o + 1) _ D ?_ (by omega)
    obtain ⟨cur, h1, h2⟩ := h
    exact ⟨_, setCell_heap _ h1, fun j hj => by rw [Array.getElem?_setIfInBounds_ne (by omega)]; exact h2 j hj⟩

theorem RowS.prefix_ {W : World} {g : Nat} {A B : List (Nat × Bool)} (h : RowS W g (A ++ B)) : RowS W g A := by
  obtain ⟨cur, h1, h2⟩ := h
  refine ⟨cur, h1, fun j hj => ?_⟩
  rw [h2 j (by simp; omega)]
  have e : encS (A ++ B) = encS A ++ encS B := by simp [encS]
  rw [e, List.getElem?_append_left (by rw [encS_len]; omega)]

theorem grownS_cell (g : Nat) (W : World) (o : Nat) (v : Value) : W.grownBy (W.setCell ⟨g, o, none⟩ v) (some g) := ⟨rfl, rfl, rfl, by simp [World.setCell], fun k _ hn => Below.heap_setCell W ⟨g, o, none⟩ v k (fun e => hn (by rw [e]))⟩
theorem grown_setCellsS (g : Nat) : ∀ (vs : List Value) (o : Nat) (W : World), W.grownBy (W.setCells g o vs) (some g)
  | [], _, W => World.grownBy.refl W _
  | v :: r, o, W => (grownS_cell g W o v).trans (grown_setCellsS g r (o + 1) _)

theorem run_clear_st (w : World) (ty : TypeId) (g o m c : Nat) (hx : ∀ j, j < (m + 1) * 2 → (w.cell? ⟨g, o + j, none⟩).isSome = true) (hz : ∀ j, w.frozen? ⟨g, j, none⟩ = false) :
    ∃ Z, (Builtin.clear_ #[34] ty #[.slice (some ⟨g, o, none⟩) (m + 1) c]).run Tryz.prog w = .ok (.tuple #[]) (w.setCells g o Z) := by
  obtain ⟨Z, hZ⟩ : ∃ Z, (Builtin.zeroCells (st 0 false).cells (m + 1)).toList = Z := ⟨_, rfl⟩
  have hlen : Z.length = (m + 1) * 2 := by rw [← hZ]; unfold Builtin.zeroCells; simp; rfl
  have hst := run_storeCells_cells (P := Tryz.prog) g o Z 0 w
    (by intro j hj; simpa using hx j (by omega))
    (by intro j hj; exact hz _)
    (by intro v hv
        rw [← hZ] at hv
        unfold Builtin.zeroCells at hv
        simp only [Array.toList_map, List.mem_map] at hv
        obtain ⟨i, -, rfl⟩ := hv
        have e : i % (st 0 false).cells.size = 0 ∨ i % (st 0 false).cells.size = 1 := by
          have : (st 0 false).cells.size = 2 := rfl
          rw [this]; omega
        rcases e with e | e <;> rw [e] <;> rfl)
  simp only [Nat.add_zero] at hst
  refine ⟨Z, ?_⟩
  simp [Builtin.clear_, run_underlying Tryz.underlying34]
  rw [hZ, hst]
  rfl

end Go.Proofs.YtcfapbccegijnaaGreat

/- Walks: settings. -/
namespace Go.Proofs.YtcfapbccegijnaaGreat
open Go Go.RowKit Go.Proofs Go.Abs

theorem st_four_new (w : World) (k : Int) : ∀ j u, [Value.int .i64 k, .bool false, .int .i64 k, .bool true][j]? = some u → (w.alloc (.cells #[.int .i64 k, .bool false, .int .i64 k, .bool true] 28)).cell? ((⟨w.heap.size, 0, none⟩ : Addr).add j) = some u := by
  intro j u h
  match j, h with
  | 0, h => simp at h; subst h; simp [Addr.add]
  | 1, h => simp at h; subst h; simp [Addr.add]
  | 2, h => simp at h; subst h; simp [Addr.add]
  | 3, h => simp at h; subst h; simp [Addr.add]
  | j + 4, h => simp at h

theorem st_four_cells (k : Int) : ∀ u ∈ [Value.int .i64 k, .bool false, .int .i64 k, .bool true], u.oneCell' = true := by
  intro u hu
  simp only [List.mem_cons, List.not_mem_nil, or_false] at hu
  rcases hu with rfl | rfl | rfl | rfl <;> rfl

set_option maxRecDepth 100000 in
set_option maxHeartbeats 4000000 in
theorem settings48_any (n : Nat) (hn : n ≤ 24) (w : World) :
    Calls Tryz.prog 48 #[.int .i64 n] w fun e w' => ∃ v, e = .returned v ∧ w'.ownsRow w.heap.size 28 2 v (allS n).length (encS (allS n)) ∧ Below w.heap.size w w' := by
  obtain ⟨i0, hi, hz0, hz1, hz2⟩ := info_parts info28
  go_enter Tryz.func48, Tryz.ntmps48
  go_wp2_with fail
  go_loopw [3, 6] (fun v i wr => ∃ k : Nat, k ≤ n ∧ i = .int .i64 k ∧ wr.ownsRow w.heap.size 28 2 v (allS k).length (encS (allS k)) ∧ Below w.heap.size w wr) (fun _ i _ => n - (intOf i).toNat)
  case atStart => exact ⟨0, Nat.zero_le _, rfl, World.ownsRow_nil _ _ _ _, Below.refl _ _⟩
  case round =>
    obtain ⟨k, hk, rfl, hown, hbel⟩ := hrel
    by_cases hlt : k < n
    · have j1 : (k : Int) < (n : Int) := by omega
      have hl := allS_len k
      have hs := allS_succ k
      generalize allS k = L at hown hl hs
      have HS := Lib.hid hs
      clear hs
      go_wp2_with (at_builtin; refine wpList_append_own _ rfl _ _ 34 rfl w.heap.size 28 i0 (.agg #[.int .i64 0, .bool false]) 2 16 Tryz.underlying34 hi hz0 hz1 hz2 rfl (by decide) _ _ _ rfl (hown.alloc _) _ 2 2 [.int .i64 k, .bool false, .int .i64 k, .bool true] rfl rfl (st_four_new _ _) (st_four_cells _) (by unfold maxLen; omega) (by first | omega | (simp; done) | (simp; omega)) (by have := hbel.size; simp; omega) ?_; intro v1 w6 hown6 hgrow6 hnil6)
      have bel6 := (hbel.alloc hbel.size (.cells #[.int .i64 k, .bool false, .int .i64 k, .bool true] 28)).grown hgrow6 (by have := hbel.size; simp; omega) (fun j hj => (hown.lt j hj).1)
      refine ⟨⟨k + 1, by omega, by simp, ?_, bel6⟩, by simp [intOf]; omega⟩
      rw [HS.out]
      have e : encS (L ++ [(k, false), (k, true)]) = encS L ++ [.int .i64 k, .bool false, .int .i64 k, .bool true] := by simp [encS]
      rw [e]
      simpa using hown6
    · obtain rfl : k = n := by omega
      go_wp2
      go_ret
      exact ⟨_, rfl, hown, hbel⟩

end Go.Proofs.YtcfapbccegijnaaGreat
