/- The abstract machine, part MA. -/
import Derived.Test.YtpknllbglppjcaaXA
import Derived.Test.YtpknllbglppjcaaGR
/- Motions of points (plain). -/
namespace Go.Proofs.Ytpknllbglppjcaa
open Go Go.RowKit Go.Proofs

/-! ### motions -/
def rt (p : Int × Int) : Int × Int := (-p.2, p.1)
def tn : Nat → Int × Int → Int × Int
  | 0, p => p
  | k + 1, p => rt (tn k p)
def mir (b : Bool) (p : Int × Int) : Int × Int := if b then (-p.1, p.2) else p
/-- The point to which a motion maps one. -/
def mvP (b : Bool) (t : Nat) (x y : Int) (p : Int × Int) : Int × Int := ((tn t (mir b p)).1 + x, (tn t (mir b p)).2 + y)

theorem sum_sub (a c : Nat → Int) : ∀ l : List Nat, (l.map fun x => a x - c x).sum = (l.map a).sum - (l.map c).sum
  | [] => rfl
  | x :: l => by
    simp only [List.map_cons, List.sum_cons, sum_sub a c l]
    omega

theorem sum_add (a c : Nat → Int) : ∀ l : List Nat, (l.map fun x => a x + c x).sum = (l.map a).sum + (l.map c).sum
  | [] => rfl
  | x :: l => by
    simp only [List.map_cons, List.sum_cons, sum_add a c l]
    omega

theorem sum_neg (a : Nat → Int) : ∀ l : List Nat, (l.map fun x => - a x).sum = - (l.map a).sum
  | [] => rfl
  | x :: l => by
    simp only [List.map_cons, List.sum_cons, sum_neg a l]
    omega

theorem sum_next (f : Nat → Int) (m : Nat) : ((List.range (m + 1)).map fun x => f ((x + 1) % (m + 1))).sum = ((List.range (m + 1)).map f).sum := by
  have e1 : (List.range m).map (fun x => f ((x + 1) % (m + 1))) = (List.range m).map (fun x => f (x + 1)) := List.map_congr_left fun x hx => by
    rw [Nat.mod_eq_of_lt (by have := List.mem_range.1 hx; omega)]
  have e2 : ((List.range (m + 1)).map fun x => f ((x + 1) % (m + 1))).sum = ((List.range m).map (fun x => f (x + 1))).sum + f 0 := by
    rw [List.range_succ, List.map_append, e1, List.sum_append]
    simp
  have e3 : ((List.range (m + 1)).map f).sum = f 0 + ((List.range m).map (fun x => f (x + 1))).sum := by
    rw [List.range_succ_eq_map, List.map_cons, List.sum_cons, List.map_map]
    rfl
  omega

theorem sum_tele (f : Nat → Int) (n : Nat) : ((List.range n).map fun x => f x - f ((x + 1) % n)).sum = 0 := by
  cases n with
  | zero => rfl
  | succ m =>
    rw [sum_sub, sum_next]
    omega

theorem rt_inj {p q : Int × Int} (h : rt p = rt q) : p = q := by
  unfold rt at h
  obtain ⟨a, b⟩ := p
  obtain ⟨c, d⟩ := q
  simp only [Prod.mk.injEq] at h ⊢
  omega

theorem tn_inj {p q : Int × Int} : ∀ k, tn k p = tn k q → p = q
  | 0, h => h
  | k + 1, h => tn_inj k (rt_inj h)

theorem mir_inj {b : Bool} {p q : Int × Int} (h : mir b p = mir b q) : p = q := by
  cases b
  · exact h
  · unfold mir at h
    obtain ⟨a, c⟩ := p
    obtain ⟨d, e⟩ := q
    simp only [if_true, Prod.mk.injEq] at h ⊢
    omega

theorem mvP_inj {b : Bool} {t : Nat} {x y : Int} {p q : Int × Int} (h : mvP b t x y p = mvP b t x y q) : p = q := by
  unfold mvP at h
  simp only [Prod.mk.injEq] at h
  refine mir_inj (b := b) (tn_inj t ?_)
  rw [Prod.ext_iff]
  omega

end Go.Proofs.Ytpknllbglppjcaa

/- Walks: ValidMotion, the program's and the reference's. -/
namespace Go.Proofs.Ytpknllbglppjcaa
open Go Go.RowKit Go.Proofs

end Go.Proofs.Ytpknllbglppjcaa

/- Walks: apply; the reference's turned, Moved. -/
namespace Go.Proofs.Ytpknllbglppjcaa
open Go Go.RowKit Go.Proofs

/-- A motion in a block of its own. -/
def Mb (w : World) (b : Nat) (t : Int) (m : Bool) (x y : Int) (ty : TypeId) : Prop := w.heap[b]? = some (.cells #[.int .i64 t, .bool m, .int .i64 x, .int .i64 y] ty (0, 0))

theorem Mb.lt {w : World} {b : Nat} {t x y : Int} {m : Bool} {ty : TypeId} (h : Mb w b t m x y ty) : b < w.heap.size := (Array.getElem?_eq_some_iff.1 h).1
theorem Mb.c0 {w : World} {b : Nat} {t x y : Int} {m : Bool} {ty : TypeId} (h : Mb w b t m x y ty) : w.cell? ⟨b, 0, none⟩ = some (.int .i64 t) := cell_at h rfl
theorem Mb.c1 {w : World} {b : Nat} {t x y : Int} {m : Bool} {ty : TypeId} (h : Mb w b t m x y ty) : w.cell? ⟨b, 1, none⟩ = some (.bool m) := cell_at h rfl
theorem Mb.c2 {w : World} {b : Nat} {t x y : Int} {m : Bool} {ty : TypeId} (h : Mb w b t m x y ty) : w.cell? ⟨b, 2, none⟩ = some (.int .i64 x) := cell_at h rfl
theorem Mb.c3 {w : World} {b : Nat} {t x y : Int} {m : Bool} {ty : TypeId} (h : Mb w b t m x y ty) : w.cell? ⟨b, 3, none⟩ = some (.int .i64 y) := cell_at h rfl
theorem Mb.f {w : World} {b : Nat} {t x y : Int} {m : Bool} {ty : TypeId} (h : Mb w b t m x y ty) (k : Nat) : w.frozen? ⟨b, k, none⟩ = false := thaw_at h
theorem Mb.new (w : World) (t : Int) (m : Bool) (x y : Int) (ty : TypeId) : Mb (w.alloc (.cells #[.int .i64 t, .bool m, .int .i64 x, .int .i64 y] ty)) w.heap.size t m x y ty := World.alloc_heap_new _ _
theorem Mb.alloc {w : World} {b : Nat} {t x y : Int} {m : Bool} {ty : TypeId} (h : Mb w b t m x y ty) (o : Obj) : Mb (w.alloc o) b t m x y ty := (heap_old w o h.lt).trans h
theorem Mb.keep {w w' : World} {b : Nat} {t x y : Int} {m : Bool} {ty : TypeId} (h : Mb w b t m x y ty) (hb : Below w.heap.size w w') : Mb w' b t m x y ty := (hb.block b h.lt).trans h
theorem Mb.other {w : World} {b : Nat} {t x y : Int} {m : Bool} {ty : TypeId} (h : Mb w b t m x y ty) {c o : Nat} (v : Value) (hn : b ≠ c) : Mb (w.setCell ⟨c, o, none⟩ v) b t m x y ty := (Below.heap_setCell _ _ _ _ hn).trans h

end Go.Proofs.Ytpknllbglppjcaa

/- Walks: the reference's turned, Moved. -/
namespace Go.Proofs.Ytpknllbglppjcaa
open Go Go.RowKit Go.Proofs

end Go.Proofs.Ytpknllbglppjcaa

/- Lists of points: turned round, moved; the least point; corners are distinct (plain). -/
namespace Go.Proofs.Ytpknllbglppjcaa
open Go Go.RowKit Go.Proofs

theorem no_two {xs ys : Nat → Int} {n i k : Nat} (hs : simpleS xs ys n = true) (hf : ∀ x, x < n → strK xs ys n x = false) (hi : i < k) (hk : k < n) : ¬ (xs k = xs i ∧ ys k = ys i) := by
  rintro ⟨ex, ey⟩
  unfold simpleS at hs
  rw [decide_eq_true_eq] at hs
  have hstr : ∀ x, x < n → ¬ (xs ((x + 1) % n) = xs x ∧ ys ((x + 1) % n) = ys x) := by
    rintro x hx ⟨e1, e2⟩
    have := hf x hx
    unfold strK strB at this
    rw [e1, e2, cross_same] at this
    simp at this
  by_cases h2 : k = i + 1
  · subst h2
    refine hstr i (by omega) ?_
    rw [Nat.mod_eq_of_lt (by omega)]
    exact ⟨ex, ey⟩
  · by_cases h3 : i = 0 ∧ k = n - 1
    · obtain ⟨rfl, rfl⟩ := h3
      refine hstr (n - 1) (by omega) ?_
      rw [show (n - 1 + 1) % n = 0 by rw [show n - 1 + 1 = n by omega, Nat.mod_self]]
      exact ⟨ex.symm, ey.symm⟩
    · have hm := hs k hk i hi
      have hw : wantS n i k = 0 := by unfold wantS; rw [if_neg (by omega)]
      rw [hw] at hm
      unfold meetK at hm
      rw [ex, ey] at hm
      exact meetS_shared _ _ _ _ _ _ hm

abbrev Pl := List (Int × Int)

/-- Twice the area. -/
def sumL (L : Pl) : Int := sumD (px L) (py L) L.length (List.range L.length)
def mvL (b : Bool) (t : Nat) (x y : Int) (L : Pl) : Pl := L.map (mvP b t x y)

theorem getD_map {b : Bool} {t : Nat} {x y : Int} {L : Pl} {k : Nat} (hk : k < L.length) : (mvL b t x y L).getD k (0, 0) = mvP b t x y (L.getD k (0, 0)) := by
  unfold mvL
  rw [List.getD_eq_getElem?_getD, List.getD_eq_getElem?_getD, List.getElem?_map, List.getElem?_eq_getElem hk]
  rfl

theorem mvL_len (b : Bool) (t : Nat) (x y : Int) (L : Pl) : (mvL b t x y L).length = L.length := List.length_map _

/-- No two elements are one. -/
def Apart (L : Pl) : Prop := ∀ i k, i < k → k < L.length → L.getD i (0, 0) ≠ L.getD k (0, 0)

theorem vOut_apart {L : Pl} (h : vOut L = true) : Apart L := by
  have hs : simpleS (px L) (py L) L.length = true := by
    unfold vOut at h
    simp only [Bool.and_eq_true, decide_eq_true_eq] at h
    exact h.2.2.2.2.2.2
  intro i k hi hk e
  refine no_two hs (fun x hx => vOut_str h x hx) hi hk ?_
  unfold px py
  rw [e]
  exact ⟨rfl, rfl⟩

theorem Apart.mv {L : Pl} (h : Apart L) (b : Bool) (t : Nat) (x y : Int) : Apart (mvL b t x y L) := by
  intro i k hi hk e
  rw [mvL_len] at hk
  rw [getD_map (by omega), getD_map hk] at e
  exact h i k hi hk (mvP_inj e)

theorem getD_some {L : Pl} {i : Nat} (h : i < L.length) : L[i]? = some (L.getD i (0, 0)) := by
  rw [List.getD_eq_getElem?_getD, List.getElem?_eq_getElem h]
  rfl

theorem rev_getD {j : Nat} {L : Pl} (hj : j < L.length) : L.reverse.getD j (0, 0) = L.getD (L.length - 1 - j) (0, 0) := by
  rw [List.getD_eq_getElem?_getD, List.getD_eq_getElem?_getD, List.getElem?_reverse hj]

theorem Apart.eq {L : Pl} (h : Apart L) {i k : Nat} (hi : i < L.length) (hk : k < L.length) (e : L.getD i (0, 0) = L.getD k (0, 0)) : i = k := by
  rcases Nat.lt_trichotomy i k with h1 | h1 | h1
  · exact absurd e (h i k h1 hk)
  · exact h1
  · exact absurd e.symm (h k i h1 hi)

theorem Apart.rev {L : Pl} (h : Apart L) : Apart L.reverse := by
  intro i k hi hk e
  rw [List.length_reverse] at hk
  rw [rev_getD (by omega), rev_getD hk] at e
  have := h.eq (by omega) (by omega) e
  omega

theorem mod_inj {n i j k : Nat} (hi : i < n) (hj : j < n) (h : (i + k) % n = (j + k) % n) : i = j := by
  have h1 := Nat.div_add_mod (i + k) n
  have h2 := Nat.div_add_mod (j + k) n
  rw [h] at h1
  generalize (i + k) / n = p, (j + k) / n = q, (j + k) % n = r at h1 h2
  rcases Nat.lt_trichotomy p q with h3 | rfl | h3
  · have : n * (p + 1) ≤ n * q := Nat.mul_le_mul_left n h3
    rw [Nat.mul_add] at this
    omega
  · omega
  · have : n * (q + 1) ≤ n * p := Nat.mul_le_mul_left n h3
    rw [Nat.mul_add] at this
    omega

/-- What a list is placed from. -/
def turnL (b : Bool) (M : Pl) : Pl := if b then M.reverse else M

end Go.Proofs.Ytpknllbglppjcaa

/- Flat lists; lists out of which corners are left (plain). -/
namespace Go.Proofs.Ytpknllbglppjcaa
open Go Go.RowKit Go.Proofs

/-- Leave out the first of a kind, so many times at most. -/
def eraseN (kind : Pl → Nat → Bool) : Nat → Pl → Pl
  | 0, L => L
  | f + 1, L => match (List.range L.length).find? (kind L) with
    | none => L
    | some k => eraseN kind f (L.eraseIdx k)

def leaveL (kind : Pl → Nat → Bool) (L : Pl) : Pl := eraseN kind L.length L

/-- A corner that is its next one. -/
def repK (L : Pl) (k : Nat) : Bool := px L k == px L ((k + 1) % L.length) && py L k == py L ((k + 1) % L.length)
/-- Two elements are not one. -/
def Two (L : Pl) : Prop := ∃ i j, i < L.length ∧ j < L.length ∧ L.getD i (0, 0) ≠ L.getD j (0, 0)

theorem Two.len {L : Pl} (h : Two L) : 2 ≤ L.length := by
  obtain ⟨i, j, hi, hj, hne⟩ := h
  rcases Nat.lt_or_ge 1 L.length with h | h
  · exact h
  · exfalso
    obtain rfl : i = j := by omega
    exact hne rfl

theorem repK_eq {L : Pl} {k : Nat} (h : repK L k = true) : L.getD k (0, 0) = L.getD ((k + 1) % L.length) (0, 0) := by
  unfold repK px py at h
  simp only [Bool.and_eq_true, beq_iff_eq] at h
  exact Prod.ext h.1 h.2

theorem mem_of_two {L : Pl} : Two L ↔ ∃ p ∈ L, ∃ q ∈ L, p ≠ q := by
  constructor
  · rintro ⟨i, j, hi, hj, hne⟩
    exact ⟨_, List.mem_of_getElem? (getD_some hi), _, List.mem_of_getElem? (getD_some hj), hne⟩
  · rintro ⟨p, hp, q, hq, hne⟩
    obtain ⟨i, hi, rfl⟩ := List.mem_iff_getElem.1 hp
    obtain ⟨j, hj, rfl⟩ := List.mem_iff_getElem.1 hq
    refine ⟨i, j, hi, hj, ?_⟩
    rw [List.getD_eq_getElem?_getD, List.getD_eq_getElem?_getD, List.getElem?_eq_getElem hi, List.getElem?_eq_getElem hj]
    exact hne

/-- Leaving out a corner that is its next one leaves two that are not one. -/
theorem Two.erase {L : Pl} (h : Two L) {k : Nat} (hk : k < L.length) (hr : repK L k = true) : Two (L.eraseIdx k) := by
  have h2 := h.len
  rw [mem_of_two] at h ⊢
  obtain ⟨p, hp, q, hq, hne⟩ := h
  have key : ∀ x ∈ L, x ∈ L.eraseIdx k := by
    intro x hx
    obtain ⟨i, hi, rfl⟩ := List.mem_iff_getElem.1 hx
    by_cases hik : i = k
    · subst hik
      have e := repK_eq hr
      have hn : (i + 1) % L.length < L.length := Nat.mod_lt _ (by omega)
      have hne' : (i + 1) % L.length ≠ i := by
        by_cases hl : i + 1 = L.length
        · rw [hl, Nat.mod_self]; omega
        · rw [Nat.mod_eq_of_lt (by omega)]; omega
      have e2 : L[i] = L[(i + 1) % L.length] := by
        rw [List.getD_eq_getElem?_getD, List.getD_eq_getElem?_getD, List.getElem?_eq_getElem hi, List.getElem?_eq_getElem hn] at e
        exact e
      rw [e2]
      exact List.mem_eraseIdx_iff_getElem.2 ⟨_, hn, hne', rfl⟩
    · exact List.mem_eraseIdx_iff_getElem.2 ⟨i, hi, hik, rfl⟩
  exact ⟨p, key p hp, q, key q hq, hne⟩

end Go.Proofs.Ytpknllbglppjcaa
