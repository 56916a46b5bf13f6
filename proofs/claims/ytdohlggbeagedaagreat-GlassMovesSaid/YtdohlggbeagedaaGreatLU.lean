/- The abstract machine, part LU. -/
import Derived.Test.YtdohlggbeagedaaGreatLS
import Derived.Test.YtdohlggbeagedaaGreatLN
import Derived.Lib.Hide
import Derived.BigQuiet
import Derived.Deep.QuietTactic
import Derived.Deep.MidRow
/- Points: the type's facts; a block but for a row. -/
namespace Go.Proofs.YtdohlggbeagedaaGreat
open Go Go.RowKit Go.Proofs Go.Abs

theorem info66 : (Tryz.prog.info? 66).map (fun i => (i.zero, i.size, i.bytes)) = some (some (pt 0 0), 2, 16) := by kernel_rfl

theorem grownBy_set (W : World) (b o : Nat) (v : Value) : W.grownBy (W.setCell ⟨b, o, none⟩ v) (some b) := grownS_cell b W o v

end Go.Proofs.YtdohlggbeagedaaGreat

/- Walks: gcd, within, validNormal; the reference's abs, gcd, Normal. -/
namespace Go.Proofs.YtdohlggbeagedaaGreat
open Go Go.RowKit Go.Proofs

theorem ret_num1 {k : IntKind} {a b : Int} (h : a = b) : Ending.returned (.int k a) = .returned (.int k b) := by rw [h]

theorem tmod_small {a b : Int} (ha : Small a) (_ : Small b) : Small (a.tmod b) := by
  unfold Small at *
  have h := Int.natAbs_tmod a b
  have h2 := Nat.mod_le a.natAbs b.natAbs
  omega

theorem below_dn {B : Nat} {a w : World} (h : Below B a w) (n : Nat) : Below B a (w.drewN n) := h.trans ⟨rfl, rfl, rfl, Nat.le_refl _, fun _ _ => rfl⟩

def withinB (n m : Int) : Bool := decide (-m ≤ n) && decide (n ≤ m)

set_option maxHeartbeats 1000000 in
theorem withinP_any (n m : Int) (w : World) (h0 : 0 ≤ m) (h1 : m ≤ 1000000) :
    Calls Tryz.prog 125 #[.int .i64 n, .int .i64 m] w fun e w' => e = .returned (.bool (withinB n m)) ∧ w' = w := by
  obtain ⟨v, hv⟩ : ∃ v, withinB n m = v := ⟨_, rfl⟩
  rw [hv]
  have HV := Lib.hid hv
  clear hv
  go_enter Tryz.func125, Tryz.ntmps125
  go_wp2
  all_goals go_ret
  all_goals refine ⟨?_, rfl⟩
  all_goals rw [← HV.out]; unfold withinB
  all_goals simp [*]
  all_goals omega

end Go.Proofs.YtdohlggbeagedaaGreat

/- A point in a block of its own; results that lie in a cell. -/
namespace Go.Proofs.YtdohlggbeagedaaGreat
open Go Go.RowKit Go.Proofs

theorem put_heap {w : World} {b k : Nat} {c : Array Value} {t : TypeId} {fr : Nat × Nat} (v : Value) (h : w.heap[b]? = some (.cells c t fr)) :
    (w.setCell ⟨b, k, none⟩ v).heap[b]? = some (.cells (c.setIfInBounds k v) t fr) := by
  obtain ⟨hlt, hk⟩ := Array.getElem?_eq_some_iff.1 h
  show (w.heap.modify b _)[b]? = _
  rw [Array.getElem?_eq_getElem (by rw [Array.size_modify]; exact hlt), Array.getElem_modify_self, hk]
  rfl

theorem cell_at {w : World} {b k : Nat} {c : Array Value} {t : TypeId} {fr : Nat × Nat} {v : Value} (h : w.heap[b]? = some (.cells c t fr)) (hv : c[k]? = some v) : w.cell? ⟨b, k, none⟩ = some v := by
  unfold World.cell?
  simp [h, hv]

theorem thaw_at {w : World} {b k : Nat} {c : Array Value} {t : TypeId} (h : w.heap[b]? = some (.cells c t (0, 0))) : w.frozen? ⟨b, k, none⟩ = false := by
  unfold World.frozen?
  simp [h]

theorem heap_old (w : World) (o : Obj) {k : Nat} (h : k < w.heap.size) : (w.alloc o).heap[k]? = w.heap[k]? := by
  show (w.heap.push o)[k]? = _
  rw [Array.getElem?_push_lt h, Array.getElem?_eq_getElem h]

/-- A point lies in a block of its own. -/
def Pb (w : World) (b : Nat) (x y : Int) : Prop := w.heap[b]? = some (.cells #[.int .i64 x, .int .i64 y] 66 (0, 0))

theorem Pb.c0 {w : World} {b : Nat} {x y : Int} (h : Pb w b x y) : w.cell? ⟨b, 0, none⟩ = some (.int .i64 x) := cell_at h rfl
theorem Pb.c1 {w : World} {b : Nat} {x y : Int} (h : Pb w b x y) : w.cell? ⟨b, 1, none⟩ = some (.int .i64 y) := cell_at h rfl
theorem Pb.f {w : World} {b : Nat} {x y : Int} (h : Pb w b x y) (k : Nat) : w.frozen? ⟨b, k, none⟩ = false := thaw_at h
theorem Pb.lt {w : World} {b : Nat} {x y : Int} (h : Pb w b x y) : b < w.heap.size := (Array.getElem?_eq_some_iff.1 h).1
theorem Pb.keep {w w' : World} {b : Nat} {x y : Int} (h : Pb w b x y) (hb : Below w.heap.size w w') : Pb w' b x y := (hb.block b h.lt).trans h
theorem Pb.set {w : World} {b : Nat} {x y : Int} (h : Pb w b x y) (x' y' : Int) : Pb ((w.setCell ⟨b, 0, none⟩ (.int .i64 x')).setCell ⟨b, 1, none⟩ (.int .i64 y')) b x' y' :=
  put_heap _ (put_heap _ h)
theorem Pb.other {w : World} {b c k : Nat} {x y : Int} (h : Pb w b x y) (v : Value) (hn : b ≠ c) : Pb (w.setCell ⟨c, k, none⟩ v) b x y := (Below.heap_setCell _ _ _ _ hn).trans h
theorem Pb.new (w : World) (x y : Int) : Pb (w.alloc (.cells #[.int .i64 x, .int .i64 y] 66)) w.heap.size x y := World.alloc_heap_new _ _
theorem Pb.alloc {w : World} {b : Nat} {x y : Int} (h : Pb w b x y) (o : Obj) : Pb (w.alloc o) b x y := (heap_old w o h.lt).trans h

theorem range_at {w : World} {b : Nat} {cs : List Value} {t : TypeId} (h : w.heap[b]? = some (.cells cs.toArray t (0, 0))) : w.rangeAt b 0 cs := by
  intro j v hv
  rw [Nat.zero_add]
  exact cell_at h (by simpa using hv)

theorem Pb.load {w : World} {b : Nat} {x y : Int} (h : Pb w b x y) : (loadVar 66 ⟨b, 0, none⟩).run Tryz.prog w = .ok (pt x y) w :=
  run_loadVar_mid (P := Tryz.prog) w b 0 66 [.int .i64 x, .int .i64 y] _ (range_at h) Tryz.underlying66 rfl (by kernel_rfl)

theorem res_cell {P : Program} {fn : Func} {a : Tmp} {t : TypeId} {w : World} {v : Value} {p : Addr} (h : fn.results = #[.cell a t]) (tmps : Array Value) (hp : tmps.getD a undef = .pointer (some p))
    (hl : (loadVar t p).run P w = .ok v w) : (results fn tmps).run P w = .ok v w := by
  have hp' : tmps[a]?.getD undef = .pointer (some p) := by simpa using hp
  simp only [results, h]
  simp [hp', asAddr, hl]

theorem res_cell_tmp {P : Program} {fn : Func} {a u : Tmp} {t : TypeId} {w : World} {v : Value} {p : Addr} (h : fn.results = #[.cell a t, .tmp u]) (tmps : Array Value) (hp : tmps.getD a undef = .pointer (some p))
    (hl : (loadVar t p).run P w = .ok v w) : (results fn tmps).run P w = .ok (.tuple #[v, tmps.getD u undef]) w := by
  have hp' : tmps[a]?.getD undef = .pointer (some p) := by simpa using hp
  simp only [results, h]
  simp [hp', asAddr, hl]

theorem res_cell_tmp2 {P : Program} {fn : Func} {a u s : Tmp} {t : TypeId} {w : World} {v : Value} {p : Addr} (h : fn.results = #[.cell a t, .tmp u, .tmp s]) (tmps : Array Value) (hp : tmps.getD a undef = .pointer (some p))
    (hl : (loadVar t p).run P w = .ok v w) : (results fn tmps).run P w = .ok (.tuple #[v, tmps.getD u undef, tmps.getD s undef]) w := by
  have hp' : tmps[a]?.getD undef = .pointer (some p) := by simpa using hp
  simp only [results, h]
  simp [hp', asAddr, hl]

end Go.Proofs.YtdohlggbeagedaaGreat

/- Motions of points (plain). -/
namespace Go.Proofs.YtdohlggbeagedaaGreat
open Go Go.RowKit Go.Proofs

/-! ### motions -/
def rt (p : Int × Int) : Int × Int := (-p.2, p.1)
def tn : Nat → Int × Int → Int × Int
  | 0, p => p
  | k + 1, p => rt (tn k p)
def mir (b : Bool) (p : Int × Int) : Int × Int := if b then (-p.1, p.2) else p
/-- The point to which a motion maps one. -/
def mvP (b : Bool) (t : Nat) (x y : Int) (p : Int × Int) : Int × Int := ((tn t (mir b p)).1 + x, (tn t (mir b p)).2 + y)

def det (p q : Int × Int) : Int := p.1 * q.2 - q.1 * p.2

theorem det_rt (p q : Int × Int) : det (rt p) (rt q) = det p q := by
  unfold det rt
  grind

theorem det_tn (p q : Int × Int) : ∀ k, det (tn k p) (tn k q) = det p q
  | 0 => rfl
  | k + 1 => by
    unfold tn
    rw [det_rt, det_tn p q k]

theorem det_mir (b : Bool) (p q : Int × Int) : det (mir b p) (mir b q) = if b then - det p q else det p q := by
  cases b
  · rfl
  · unfold det mir
    simp only [if_true]
    grind

theorem det_mv (b : Bool) (t : Nat) (x y : Int) (p q : Int × Int) : det (mvP b t x y p) (mvP b t x y q) = (if b then - det p q else det p q) + (((tn t (mir b p)).1 * y - x * (tn t (mir b p)).2) - ((tn t (mir b q)).1 * y - x * (tn t (mir b q)).2)) := by
  rw [← det_mir, ← det_tn (mir b p) (mir b q) t]
  unfold mvP
  generalize tn t (mir b p) = u, tn t (mir b q) = v
  unfold det
  grind

theorem sum_sub (a c : Nat → Int) : ∀ l : List Nat, (l.map fun x => a x - c x).sum = (l.map a).sum - (l.map c).sum
  | [] => rfl
  | x :: l => by
    simp only [List.map_cons, List.sum_cons, sum_sub a c l]
    omega

theorem sum_add (a c : Nat → Int) : ∀ l : List Nat, (l.map fun x => a x + c x).sum = (l.map a).sum + (l.map c).sum
  | [] => rfl
  | x :: l => by
    simp only [List.map_cons, List.sum_cons, sum_add a c l]
    omega

theorem sum_neg (a : Nat → Int) : ∀ l : List Nat, (l.map fun x => - a x).sum = - (l.map a).sum
  | [] => rfl
  | x :: l => by
    simp only [List.map_cons, List.sum_cons, sum_neg a l]
    omega

theorem sum_next (f : Nat → Int) (m : Nat) : ((List.range (m + 1)).map fun x => f ((x + 1) % (m + 1))).sum = ((List.range (m + 1)).map f).sum := by
  have e1 : (List.range m).map (fun x => f ((x + 1) % (m + 1))) = (List.range m).map (fun x => f (x + 1)) := List.map_congr_left fun x hx => by
    rw [Nat.mod_eq_of_lt (by have := List.mem_range.1 hx; omega)]
  have e2 : ((List.range (m + 1)).map fun x => f ((x + 1) % (m + 1))).sum = ((List.range m).map (fun x => f (x + 1))).sum + f 0 := by
    rw [List.range_succ, List.map_append, e1, List.sum_append]
    simp
  have e3 : ((List.range (m + 1)).map f).sum = f 0 + ((List.range m).map (fun x => f (x + 1))).sum := by
    rw [List.range_succ_eq_map, List.map_cons, List.sum_cons, List.map_map]
    rfl
  omega

theorem sum_tele (f : Nat → Int) (n : Nat) : ((List.range n).map fun x => f x - f ((x + 1) % n)).sum = 0 := by
  cases n with
  | zero => rfl
  | succ m =>
    rw [sum_sub, sum_next]
    omega

theorem rt_inj {p q : Int × Int} (h : rt p = rt q) : p = q := by
  unfold rt at h
  obtain ⟨a, b⟩ := p
  obtain ⟨c, d⟩ := q
  simp only [Prod.mk.injEq] at h ⊢
  omega

theorem tn_inj {p q : Int × Int} : ∀ k, tn k p = tn k q → p = q
  | 0, h => h
  | k + 1, h => tn_inj k (rt_inj h)

theorem mir_inj {b : Bool} {p q : Int × Int} (h : mir b p = mir b q) : p = q := by
  cases b
  · exact h
  · unfold mir at h
    obtain ⟨a, c⟩ := p
    obtain ⟨d, e⟩ := q
    simp only [if_true, Prod.mk.injEq] at h ⊢
    omega

theorem mvP_inj {b : Bool} {t : Nat} {x y : Int} {p q : Int × Int} (h : mvP b t x y p = mvP b t x y q) : p = q := by
  unfold mvP at h
  simp only [Prod.mk.injEq] at h
  refine mir_inj (b := b) (tn_inj t ?_)
  rw [Prod.ext_iff]
  omega

end Go.Proofs.YtdohlggbeagedaaGreat

/- Lists without one point; slices with room. -/
namespace Go.Proofs.YtdohlggbeagedaaGreat
open Go Go.RowKit Go.Proofs Go.Abs Go.Plain Go.WideShapes Go.ChangeShapes Go.Deep

def sk (i j : Nat) : Nat := if j < i then j else j + 1

theorem px_erase {A : List (Int × Int)} {i j : Nat} : px (A.eraseIdx i) j = px A (sk i j) ∧ py (A.eraseIdx i) j = py A (sk i j) := by
  unfold px py sk
  rw [List.getD_eq_getElem?_getD, List.getElem?_eraseIdx]
  split <;> simp [List.getD_eq_getElem?_getD]

theorem slv_own {W : World} {base : Nat} {v : Value} {L : List (Int × Int)} (h : W.ownsRow base 66 2 v L.length (ptCells L)) (hl : L.length ≤ 9223372036854775807) : SlV W v L := by
  have h2 := h.2
  rcases h2 with ⟨rfl, h0⟩ | ⟨g, cap, cur, rfl, _⟩
  · obtain rfl : L = [] := List.eq_nil_of_length_eq_zero h0
    exact ⟨none, 0, rfl, by simp, .inr ⟨rfl, rfl, rfl⟩⟩
  · refine ⟨_, cap, rfl, hl, .inl ⟨g, 0, rfl, fun k hk => ?_⟩⟩
    obtain ⟨h1, h2⟩ := ptCells_get L k hk
    have c1 := World.ownsRow.cells (g := g) h rfl _ _ h1
    have c2 := World.ownsRow.cells (g := g) h rfl _ _ h2
    rw [Addr.add_lit] at c1 c2
    exact ⟨c1, by rw [Nat.add_assoc]; exact c2⟩

theorem ptCells_append (L M : List (Int × Int)) : ptCells (L ++ M) = ptCells L ++ ptCells M := by
  induction L with
  | nil => rfl
  | cons p ps ih => simp [ptCells, ih]

theorem ptCells_len (L : List (Int × Int)) : (ptCells L).length = L.length * 2 := by
  induction L with
  | nil => rfl
  | cons p ps ih => simp [ptCells, ih]; omega

theorem ptCells_one (L : List (Int × Int)) : ∀ u ∈ ptCells L, u.oneCell' = true := by
  induction L with
  | nil => intro u hu; cases hu
  | cons p ps ih =>
    intro u hu
    simp only [ptCells, List.mem_cons] at hu
    rcases hu with rfl | rfl | hu
    · rfl
    · rfl
    · exact ih u hu

/-- The cells of a list of points that lies at an address. -/
theorem pts_cells {W : World} {b off : Nat} {L : List (Int × Int)} (h : PtsAt W b off L) : ∀ j u, (ptCells L)[j]? = some u → W.cell? ((⟨b, off, none⟩ : Addr).add j) = some u := by
  intro j u hu
  rw [Addr.add_lit]
  have hj : j < L.length * 2 := by
    rw [← ptCells_len]
    exact (List.getElem?_eq_some_iff.1 hu).1
  obtain ⟨h1, h2⟩ := ptCells_get L (j / 2) (by omega)
  obtain ⟨c1, c2⟩ := h (j / 2) (by omega)
  rcases Nat.mod_two_eq_zero_or_one j with hm | hm
  · have e : j = j / 2 * 2 := by omega
    rw [← e] at h1 c1
    rw [h1] at hu
    cases hu
    exact c1
  · have e : j = j / 2 * 2 + 1 := by omega
    rw [← e] at h2
    rw [h2] at hu
    cases hu
    rw [show off + j / 2 * 2 + 1 = off + j by omega] at c2
    exact c2

theorem pts_take {W : World} {b off : Nat} {L : List (Int × Int)} (h : PtsAt W b off L) (i : Nat) : PtsAt W b off (L.take i) := fun k hk => by
  rw [List.length_take] at hk
  have e : (L.take i).getD k (0, 0) = L.getD k (0, 0) := by
    rw [List.getD_eq_getElem?_getD, List.getD_eq_getElem?_getD, List.getElem?_take, if_pos (by omega)]
  have := h k (by omega)
  unfold px py at *
  rw [e]
  exact this

theorem pts_drop {W : World} {b off : Nat} {L : List (Int × Int)} (h : PtsAt W b off L) (i : Nat) : PtsAt W b (off + i * 2) (L.drop i) := fun k hk => by
  rw [List.length_drop] at hk
  have e : (L.drop i).getD k (0, 0) = L.getD (i + k) (0, 0) := by
    rw [List.getD_eq_getElem?_getD, List.getD_eq_getElem?_getD, List.getElem?_drop]
  have := h (i + k) (by omega)
  unfold px py at *
  rw [e]
  rw [show off + i * 2 + k * 2 = off + (i + k) * 2 by omega]
  exact this

theorem cut_one (L : List (Int × Int)) (i : Nat) : L.take i ++ L.drop (i + 1) = L.eraseIdx i := (List.eraseIdx_eq_take_drop_succ L i).symm

end Go.Proofs.YtdohlggbeagedaaGreat

/- Both tests of congruence are one, for outlines. -/
namespace Go.Proofs.YtdohlggbeagedaaGreat
open Go Go.RowKit Go.Proofs

theorem vOut_str {L : List (Int × Int)} (h : vOut L = true) : ∀ i, i < L.length → strK (px L) (py L) L.length i = false := by
  unfold vOut at h
  simp only [Bool.and_eq_true, decide_eq_true_eq] at h
  exact firstS_neg.1 h.2.2.2.1

end Go.Proofs.YtdohlggbeagedaaGreat

/- Lists of points: turned round, moved; the least point; corners are distinct (plain). -/
namespace Go.Proofs.YtdohlggbeagedaaGreat
open Go Go.RowKit Go.Proofs

theorem no_two {xs ys : Nat → Int} {n i k : Nat} (hs : simpleS xs ys n = true) (hf : ∀ x, x < n → strK xs ys n x = false) (hi : i < k) (hk : k < n) : ¬ (xs k = xs i ∧ ys k = ys i) := by
  rintro ⟨ex, ey⟩
  unfold simpleS at hs
  rw [decide_eq_true_eq] at hs
  have hstr : ∀ x, x < n → ¬ (xs ((x + 1) % n) = xs x ∧ ys ((x + 1) % n) = ys x) := by
    rintro x hx ⟨e1, e2⟩
    have := hf x hx
    unfold strK strB at this
    rw [e1, e2, cross_same] at this
    simp at this
  by_cases h2 : k = i + 1
  · subst h2
    refine hstr i (by omega) ?_
    rw [Nat.mod_eq_of_lt (by omega)]
    exact ⟨ex, ey⟩
  · by_cases h3 : i = 0 ∧ k = n - 1
    · obtain ⟨rfl, rfl⟩ := h3
      refine hstr (n - 1) (by omega) ?_
      rw [show (n - 1 + 1) % n = 0 by rw [show n - 1 + 1 = n by omega, Nat.mod_self]]
      exact ⟨ex.symm, ey.symm⟩
    · have hm := hs k hk i hi
      have hw : wantS n i k = 0 := by unfold wantS; rw [if_neg (by omega)]
      rw [hw] at hm
      unfold meetK at hm
      rw [ex, ey] at hm
      exact meetS_shared _ _ _ _ _ _ hm

/-- The first of the least, by less. -/
def leastR (xs ys : Nat → Int) : Nat → Nat
  | 0 => 0
  | k + 1 => if lessS (xs k) (ys k) (xs (leastR xs ys k)) (ys (leastR xs ys k)) = true then k else leastR xs ys k

theorem leastR_eq (xs ys : Nat → Int) : ∀ k, leastR xs ys k = leastK xs ys k
  | 0 => rfl
  | k + 1 => by
    unfold leastR leastK
    rw [leastR_eq xs ys k]
    by_cases h : cmpP (xs k) (ys k) (xs (leastK xs ys k)) (ys (leastK xs ys k)) < 0
    · rw [if_pos h, if_pos ((cmpP_less _ _ _ _).1 h)]
    · rw [if_neg h, if_neg (fun hh => h ((cmpP_less _ _ _ _).2 hh))]

abbrev Pl := List (Int × Int)

/-- The list from its k-th element on, and then its first ones. -/
def rotL (k : Nat) (L : Pl) : Pl := L.drop k ++ L.take k
/-- The list from its least point on. -/
def placeL (L : Pl) : Pl := rotL (leastK (px L) (py L) L.length) L
/-- Twice the area. -/
def sumL (L : Pl) : Int := sumD (px L) (py L) L.length (List.range L.length)
/-- Counterclockwise, from the least point on. -/
def normL (L : Pl) : Pl := placeL (if sumL L < 0 then L.reverse else L)

theorem rotL_len (k : Nat) (L : Pl) : (rotL k L).length = L.length := by
  unfold rotL
  rw [List.length_append, List.length_drop, List.length_take]
  omega

theorem placeL_len (L : Pl) : (placeL L).length = L.length := rotL_len _ _

theorem normL_len (L : Pl) : (normL L).length = L.length := by
  unfold normL
  rw [placeL_len]
  split
  · exact List.length_reverse
  · rfl

theorem rotL_get {k j : Nat} {L : Pl} (hk : k < L.length) (hj : j < L.length) : (rotL k L)[j]? = L[(j + k) % L.length]? := by
  unfold rotL
  rw [List.getElem?_append, List.length_drop]
  split
  · rename_i h
    rw [List.getElem?_drop, Nat.mod_eq_of_lt (by omega), Nat.add_comm]
  · rename_i h
    rw [List.getElem?_take, if_pos (by omega)]
    have : (j + k) % L.length = j + k - L.length := by
      rw [Nat.mod_eq_sub_mod (by omega), Nat.mod_eq_of_lt (by omega)]
    rw [this]
    congr 1
    omega

def mvL (b : Bool) (t : Nat) (x y : Int) (L : Pl) : Pl := L.map (mvP b t x y)

theorem getD_map {b : Bool} {t : Nat} {x y : Int} {L : Pl} {k : Nat} (hk : k < L.length) : (mvL b t x y L).getD k (0, 0) = mvP b t x y (L.getD k (0, 0)) := by
  unfold mvL
  rw [List.getD_eq_getElem?_getD, List.getD_eq_getElem?_getD, List.getElem?_map, List.getElem?_eq_getElem hk]
  rfl

theorem mvL_len (b : Bool) (t : Nat) (x y : Int) (L : Pl) : (mvL b t x y L).length = L.length := List.length_map _

theorem sumL_mv (b : Bool) (t : Nat) (x y : Int) (L : Pl) : sumL (mvL b t x y L) = if b then - sumL L else sumL L := by
  have hz : ∀ k, k < L.length → (k + 1) % L.length < L.length := fun k hk => Nat.mod_lt _ (by omega)
  have h1 : sumL (mvL b t x y L) = ((List.range L.length).map fun k => (if b then - det (L.getD k (0, 0)) (L.getD ((k + 1) % L.length) (0, 0)) else det (L.getD k (0, 0)) (L.getD ((k + 1) % L.length) (0, 0))) +
      ((fun j => (tn t (mir b (L.getD j (0, 0)))).1 * y - x * (tn t (mir b (L.getD j (0, 0)))).2) k - (fun j => (tn t (mir b (L.getD j (0, 0)))).1 * y - x * (tn t (mir b (L.getD j (0, 0)))).2) ((k + 1) % L.length))).sum := by
    unfold sumL sumD
    rw [mvL_len]
    congr 1
    refine List.map_congr_left fun k hk => ?_
    have hk := List.mem_range.1 hk
    show det ((mvL b t x y L).getD k (0, 0)) ((mvL b t x y L).getD ((k + 1) % L.length) (0, 0)) = _
    rw [getD_map hk, getD_map (hz k hk), det_mv]
  rw [h1, sum_add, sum_tele]
  cases b
  · show _ = sumL L
    rw [Int.add_zero]
    rfl
  · show _ = - sumL L
    simp only [if_true]
    rw [sum_neg, Int.add_zero]
    rfl

/-- No two elements are one. -/
def Apart (L : Pl) : Prop := ∀ i k, i < k → k < L.length → L.getD i (0, 0) ≠ L.getD k (0, 0)

theorem vOut_apart {L : Pl} (h : vOut L = true) : Apart L := by
  have hs : simpleS (px L) (py L) L.length = true := by
    unfold vOut at h
    simp only [Bool.and_eq_true, decide_eq_true_eq] at h
    exact h.2.2.2.2.2.2
  intro i k hi hk e
  refine no_two hs (fun x hx => vOut_str h x hx) hi hk ?_
  unfold px py
  rw [e]
  exact ⟨rfl, rfl⟩

theorem Apart.mv {L : Pl} (h : Apart L) (b : Bool) (t : Nat) (x y : Int) : Apart (mvL b t x y L) := by
  intro i k hi hk e
  rw [mvL_len] at hk
  rw [getD_map (by omega), getD_map hk] at e
  exact h i k hi hk (mvP_inj e)

theorem getD_some {L : Pl} {i : Nat} (h : i < L.length) : L[i]? = some (L.getD i (0, 0)) := by
  rw [List.getD_eq_getElem?_getD, List.getElem?_eq_getElem h]
  rfl

theorem rotL_getD {k j : Nat} {L : Pl} (hk : k < L.length) (hj : j < L.length) : (rotL k L).getD j (0, 0) = L.getD ((j + k) % L.length) (0, 0) := by
  rw [List.getD_eq_getElem?_getD, List.getD_eq_getElem?_getD, rotL_get hk hj]

theorem rev_getD {j : Nat} {L : Pl} (hj : j < L.length) : L.reverse.getD j (0, 0) = L.getD (L.length - 1 - j) (0, 0) := by
  rw [List.getD_eq_getElem?_getD, List.getD_eq_getElem?_getD, List.getElem?_reverse hj]

theorem Apart.eq {L : Pl} (h : Apart L) {i k : Nat} (hi : i < L.length) (hk : k < L.length) (e : L.getD i (0, 0) = L.getD k (0, 0)) : i = k := by
  rcases Nat.lt_trichotomy i k with h1 | h1 | h1
  · exact absurd e (h i k h1 hk)
  · exact h1
  · exact absurd e.symm (h k i h1 hi)

theorem Apart.rev {L : Pl} (h : Apart L) : Apart L.reverse := by
  intro i k hi hk e
  rw [List.length_reverse] at hk
  rw [rev_getD (by omega), rev_getD hk] at e
  have := h.eq (by omega) (by omega) e
  omega

theorem mod_inj {n i j k : Nat} (hi : i < n) (hj : j < n) (h : (i + k) % n = (j + k) % n) : i = j := by
  have h1 := Nat.div_add_mod (i + k) n
  have h2 := Nat.div_add_mod (j + k) n
  rw [h] at h1
  generalize (i + k) / n = p, (j + k) / n = q, (j + k) % n = r at h1 h2
  rcases Nat.lt_trichotomy p q with h3 | rfl | h3
  · have : n * (p + 1) ≤ n * q := Nat.mul_le_mul_left n h3
    rw [Nat.mul_add] at this
    omega
  · omega
  · have : n * (q + 1) ≤ n * p := Nat.mul_le_mul_left n h3
    rw [Nat.mul_add] at this
    omega

theorem Apart.rot {L : Pl} (h : Apart L) {m : Nat} (hm : m < L.length) : Apart (rotL m L) := by
  intro i k hi hk e
  rw [rotL_len] at hk
  rw [rotL_getD hm (by omega), rotL_getD hm hk] at e
  have := h.eq (Nat.mod_lt _ (by omega)) (Nat.mod_lt _ (by omega)) e
  have := mod_inj (by omega) hk this
  omega

theorem leastL_lt {L : Pl} (h : 0 < L.length) : leastK (px L) (py L) L.length < L.length := leastK_lt _ _ _ h

/-- The setting of an outline in the moved one. -/
def shiftS (b : Bool) (n m : Nat) : Nat := if b then (2 * n - 2 - m) % n else (n - m) % n
/-- The number of the moved corner 0. -/
def posS (b : Bool) (n m : Nat) : Nat := if b then n - 1 - m else (n - m) % n

/-- What a list is placed from. -/
def turnL (b : Bool) (M : Pl) : Pl := if b then M.reverse else M

theorem turnL_len (b : Bool) (M : Pl) : (turnL b M).length = M.length := by
  cases b
  · rfl
  · exact List.length_reverse

theorem pos_get {b : Bool} {M : Pl} {m : Nat} (hm : m < M.length) : (rotL m (turnL b M)).getD (posS b M.length m) (0, 0) = M.getD 0 (0, 0) ∧ posS b M.length m < M.length := by
  have hl := turnL_len b M
  cases b
  · unfold posS
    simp only [Bool.false_eq_true, if_false]
    have h0 : (M.length - m) % M.length < M.length := Nat.mod_lt _ (by omega)
    refine ⟨?_, h0⟩
    rw [rotL_getD (by omega) (by omega), hl]
    rw [Nat.mod_add_mod, show M.length - m + m = M.length by omega, Nat.mod_self]
    rfl
  · unfold posS
    simp only [if_true]
    refine ⟨?_, by omega⟩
    rw [rotL_getD (by omega) (by omega), hl, show M.length - 1 - m + m = M.length - 1 by omega, Nat.mod_eq_of_lt (by omega)]
    show M.reverse.getD _ _ = _
    rw [rev_getD (by omega)]
    congr 1
    omega

theorem pos_shift {b : Bool} {n m : Nat} (hm : m < n) (_h2 : 2 ≤ n) : (if b then (posS b n m + n - 1) % n else posS b n m) = shiftS b n m := by
  cases b
  · rfl
  · unfold posS shiftS
    simp only [if_true]
    congr 1
    omega

/-- Which number the reference takes. -/
theorem shift_only {b : Bool} {M : Pl} {m k : Nat} (h3 : 3 ≤ M.length) (hm : m < M.length) (hA : Apart M) (hk : k < M.length) :
    (((rotL m (turnL b M)).getD k (0, 0) = M.getD 0 (0, 0) ∧ (rotL m (turnL b M)).getD ((k + 1) % M.length) (0, 0) = M.getD 1 (0, 0)) ∨
      ((rotL m (turnL b M)).getD k (0, 0) = M.getD 1 (0, 0) ∧ (rotL m (turnL b M)).getD ((k + 1) % M.length) (0, 0) = M.getD 0 (0, 0))) ↔ k = shiftS b M.length m := by
  have hl := turnL_len b M
  have hk1 : (k + 1) % M.length < M.length := Nat.mod_lt _ (by omega)
  have e1 : ((k + 1) % M.length + m) % M.length = ((k + m) % M.length + 1) % M.length := by
    rw [Nat.mod_add_mod, Nat.mod_add_mod]
    congr 1
    omega
  rw [rotL_getD (by omega) (by omega), rotL_getD (by omega) (by omega), hl, e1]
  obtain ⟨r, hr⟩ : ∃ r, (k + m) % M.length = r := ⟨_, rfl⟩
  have hrl : r < M.length := by rw [← hr]; exact Nat.mod_lt _ (by omega)
  rw [hr]
  have hr1 : (r + 1) % M.length < M.length := Nat.mod_lt _ (by omega)
  have hs : (r + 1) % M.length = if r + 1 = M.length then 0 else r + 1 := by
    split
    · rename_i h
      rw [h, Nat.mod_self]
    · exact Nat.mod_eq_of_lt (by omega)
  have hz : shiftS b M.length m < M.length := by
    unfold shiftS
    split <;> exact Nat.mod_lt _ (by omega)
  cases b
  · have key : k = shiftS false M.length m ↔ r = 0 := by
      constructor
      · intro h
        rw [← hr, h]
        unfold shiftS
        simp only [Bool.false_eq_true, if_false]
        rw [Nat.mod_add_mod, show M.length - m + m = M.length by omega, Nat.mod_self]
      · intro h
        refine mod_inj (k := m) hk hz ?_
        rw [hr, h]
        unfold shiftS
        simp only [Bool.false_eq_true, if_false]
        rw [Nat.mod_add_mod, show M.length - m + m = M.length by omega, Nat.mod_self]
    rw [key]
    show (M.getD r _ = _ ∧ M.getD _ _ = _ ∨ M.getD r _ = _ ∧ M.getD _ _ = _) ↔ _
    constructor
    · rintro (⟨h1, _⟩ | ⟨h1, h2⟩)
      · exact hA.eq hrl (by omega) h1
      · have h4 := hA.eq hrl (by omega) h1
        have h5 := hA.eq hr1 (by omega) h2
        subst h4
        rw [hs] at h5
        split at h5 <;> omega
    · rintro rfl
      refine .inl ⟨rfl, ?_⟩
      rw [hs, if_neg (by omega)]
  · have key : k = shiftS true M.length m ↔ r = M.length - 2 := by
      constructor
      · intro h
        rw [← hr, h]
        unfold shiftS
        simp only [if_true]
        rw [Nat.mod_add_mod, show 2 * M.length - 2 - m + m = M.length - 2 + M.length by omega, Nat.add_mod_right, Nat.mod_eq_of_lt (by omega)]
      · intro h
        refine mod_inj (k := m) hk hz ?_
        rw [hr, h]
        unfold shiftS
        simp only [if_true]
        rw [Nat.mod_add_mod, show 2 * M.length - 2 - m + m = M.length - 2 + M.length by omega, Nat.add_mod_right, Nat.mod_eq_of_lt (by omega)]
    rw [key]
    show (M.reverse.getD r _ = _ ∧ M.reverse.getD _ _ = _ ∨ M.reverse.getD r _ = _ ∧ M.reverse.getD _ _ = _) ↔ _
    rw [rev_getD hrl, rev_getD hr1]
    constructor
    · rintro (⟨h1, h2⟩ | ⟨h1, h2⟩)
      · have h4 := hA.eq (by omega) (by omega) h1
        have h5 := hA.eq (by omega) (by omega) h2
        rw [hs] at h5
        split at h5 <;> omega
      · have h4 := hA.eq (by omega) (by omega) h1
        omega
    · rintro rfl
      refine .inr ⟨?_, ?_⟩
      · congr 1
        omega
      · congr 1
        rw [hs, if_neg (by omega)]
        omega

end Go.Proofs.YtdohlggbeagedaaGreat

/- Walks: ValidMotion, the program's and the reference's. -/
namespace Go.Proofs.YtdohlggbeagedaaGreat
open Go Go.RowKit Go.Proofs

abbrev mo (t : Int) (b : Bool) (x y : Int) : Value := .agg #[.int .i64 t, .bool b, .int .i64 x, .int .i64 y]

/-- Is the motion valid? -/
def vMo (t x y : Int) : Bool := decide (0 ≤ t) && (decide (t ≤ 3) && (withinB x 8192 && withinB y 8192))

set_option maxHeartbeats 1000000 in
theorem validMotion_any (t x y : Int) (b : Bool) (w : World) :
    Calls Tryz.prog 78 #[mo t b x y] w fun e w' => e = .returned (.bool (vMo t x y)) ∧ Below w.heap.size w w' := by
  have C1 := fun w => withinP_any x 8192 w (by omega) (by omega)
  have C2 := fun w => withinP_any y 8192 w (by omega) (by omega)
  obtain ⟨b1, e1⟩ : ∃ b, withinB x 8192 = b := ⟨_, rfl⟩
  obtain ⟨b2, e2⟩ : ∃ b, withinB y 8192 = b := ⟨_, rfl⟩
  have hv : vMo t x y = (decide (0 ≤ t) && (decide (t ≤ 3) && (b1 && b2))) := by rw [← e1, ← e2]; rfl
  rw [e1] at C1
  rw [e2] at C2
  obtain ⟨v, hv'⟩ : ∃ v, vMo t x y = v := ⟨_, rfl⟩
  rw [hv'] at hv ⊢
  have HV := Lib.hid hv
  clear hv hv' e1 e2
  by_cases h0 : 0 ≤ t
  · by_cases h3 : t ≤ 3
    · cases b1
      · go_enter Tryz.func78, Tryz.ntmps78
        go_wp2_with fail
        refine (C1 _).mono ?_
        rintro e w' ⟨rfl, rfl⟩
        go_wp2
        go_ret
        refine ⟨?_, (Below.refl _ _).alloc (Nat.le_refl _) _⟩
        rw [HV.out]
        simp [*]
      · go_enter Tryz.func78, Tryz.ntmps78
        go_wp2_with fail
        refine (C1 _).mono ?_
        rintro e w' ⟨rfl, rfl⟩
        go_wp2_with fail
        refine (C2 _).mono ?_
        rintro e w' ⟨rfl, rfl⟩
        go_wp2
        go_ret
        refine ⟨?_, (Below.refl _ _).alloc (Nat.le_refl _) _⟩
        rw [HV.out]
        simp [*]
    · have d3 := decide_eq_false h3
      have h4 : 0 ≤ t ∧ 3 < t := by omega
      clear h3 h0
      obtain ⟨h0, h3⟩ := h4
      go_enter Tryz.func78, Tryz.ntmps78
      go_wp2
      go_ret
      refine ⟨?_, (Below.refl _ _).alloc (Nat.le_refl _) _⟩
      rw [HV.out]
      simp [*]
  · have D := Lib.hid (decide_eq_false h0)
    go_enter Tryz.func78, Tryz.ntmps78
    go_wp2
    go_ret
    refine ⟨?_, (Below.refl _ _).alloc (Nat.le_refl _) _⟩
    rw [HV.out, D.out]
    rfl

set_option maxHeartbeats 1000000 in
theorem refMotion_any (t x y : Int) (b : Bool) (w : World) :
    Calls Tryz.prog 40 #[mo t b x y] w fun e w' => e = .returned (.bool (vMo t x y)) ∧ Below w.heap.size w w' := by
  obtain ⟨v, hv⟩ : ∃ v, vMo t x y = v := ⟨_, rfl⟩
  rw [hv]
  have HV := Lib.hid hv
  clear hv
  go_enter Tryz.func40, Tryz.ntmps40
  go_wp2
  all_goals go_ret
  all_goals refine ⟨?_, (Below.refl _ _).alloc (Nat.le_refl _) _⟩
  all_goals rw [← HV.out]; unfold vMo withinB
  all_goals simp [*]
  all_goals (try omega)
  all_goals (intros; omega)

end Go.Proofs.YtdohlggbeagedaaGreat

/- Walks: apply; the reference's turned, Moved. -/
namespace Go.Proofs.YtdohlggbeagedaaGreat
open Go Go.RowKit Go.Proofs

theorem tn_small {p : Int × Int} (h : Small p.1 ∧ Small p.2) : ∀ k, Small (tn k p).1 ∧ Small (tn k p).2
  | 0 => h
  | k + 1 => by
    have ih := tn_small h k
    show Small (-(tn k p).2) ∧ Small (tn k p).1
    unfold Small at *
    omega

theorem mir_small {p : Int × Int} (h : Small p.1 ∧ Small p.2) (b : Bool) : Small (mir b p).1 ∧ Small (mir b p).2 := by
  cases b
  · exact h
  · show Small (-p.1) ∧ Small p.2
    unfold Small at *
    omega

theorem vMo_parts {t x y : Int} (h : vMo t x y = true) : (0 ≤ t ∧ t ≤ 3) ∧ Small x ∧ Small y := by
  unfold vMo withinB at h
  simp only [Bool.and_eq_true, decide_eq_true_eq] at h
  unfold Small
  omega

/-- A motion in a block of its own. -/
def Mb (w : World) (b : Nat) (t : Int) (m : Bool) (x y : Int) (ty : TypeId) : Prop := w.heap[b]? = some (.cells #[.int .i64 t, .bool m, .int .i64 x, .int .i64 y] ty (0, 0))

theorem Mb.lt {w : World} {b : Nat} {t x y : Int} {m : Bool} {ty : TypeId} (h : Mb w b t m x y ty) : b < w.heap.size := (Array.getElem?_eq_some_iff.1 h).1
theorem Mb.c0 {w : World} {b : Nat} {t x y : Int} {m : Bool} {ty : TypeId} (h : Mb w b t m x y ty) : w.cell? ⟨b, 0, none⟩ = some (.int .i64 t) := cell_at h rfl
theorem Mb.c1 {w : World} {b : Nat} {t x y : Int} {m : Bool} {ty : TypeId} (h : Mb w b t m x y ty) : w.cell? ⟨b, 1, none⟩ = some (.bool m) := cell_at h rfl
theorem Mb.c2 {w : World} {b : Nat} {t x y : Int} {m : Bool} {ty : TypeId} (h : Mb w b t m x y ty) : w.cell? ⟨b, 2, none⟩ = some (.int .i64 x) := cell_at h rfl
theorem Mb.c3 {w : World} {b : Nat} {t x y : Int} {m : Bool} {ty : TypeId} (h : Mb w b t m x y ty) : w.cell? ⟨b, 3, none⟩ = some (.int .i64 y) := cell_at h rfl
theorem Mb.f {w : World} {b : Nat} {t x y : Int} {m : Bool} {ty : TypeId} (h : Mb w b t m x y ty) (k : Nat) : w.frozen? ⟨b, k, none⟩ = false := thaw_at h
theorem Mb.new (w : World) (t : Int) (m : Bool) (x y : Int) (ty : TypeId) : Mb (w.alloc (.cells #[.int .i64 t, .bool m, .int .i64 x, .int .i64 y] ty)) w.heap.size t m x y ty := World.alloc_heap_new _ _
theorem Mb.alloc {w : World} {b : Nat} {t x y : Int} {m : Bool} {ty : TypeId} (h : Mb w b t m x y ty) (o : Obj) : Mb (w.alloc o) b t m x y ty := (heap_old w o h.lt).trans h
theorem Mb.keep {w w' : World} {b : Nat} {t x y : Int} {m : Bool} {ty : TypeId} (h : Mb w b t m x y ty) (hb : Below w.heap.size w w') : Mb w' b t m x y ty := (hb.block b h.lt).trans h
theorem Mb.other {w : World} {b : Nat} {t x y : Int} {m : Bool} {ty : TypeId} (h : Mb w b t m x y ty) {c o : Nat} (v : Value) (hn : b ≠ c) : Mb (w.setCell ⟨c, o, none⟩ v) b t m x y ty := (Below.heap_setCell _ _ _ _ hn).trans h

theorem ap_start (w : World) (t : Int) (b : Bool) (x y px py : Int) (ty : TypeId) : let W := (((w.alloc (.cells #[.int .i64 t, .bool b, .int .i64 x, .int .i64 y] ty)).alloc (ptObj px py)).alloc (ptObj 0 0))
    Mb W w.heap.size t b x y ty ∧ Pb W (w.heap.size + 1) px py ∧ Pb W (w.heap.size + 1 + 1) 0 0 ∧ Below w.heap.size w W := by
  have s1 : ∀ (v : World) (o : Obj), (v.alloc o).heap.size = v.heap.size + 1 := fun v o => by simp
  refine ⟨((Mb.new w t b x y ty).alloc _).alloc _, ?_, ?_, (((Below.refl _ _).alloc (by simp) _).alloc (by simp) _).alloc (by simp; omega) _⟩
  · have := (Pb.new (w.alloc (.cells #[.int .i64 t, .bool b, .int .i64 x, .int .i64 y] ty)) px py).alloc (ptObj 0 0)
    rwa [s1] at this
  · have := Pb.new ((w.alloc (.cells #[.int .i64 t, .bool b, .int .i64 x, .int .i64 y] ty)).alloc (ptObj px py)) 0 0
    rwa [s1, s1] at this

set_option maxRecDepth 100000 in
set_option maxHeartbeats 2000000 in
theorem apply_any (t x y px py : Int) (b : Bool) (w : World) (hm : vMo t x y = true) (hp : Small px ∧ Small py) :
    Calls Tryz.prog 79 #[mo t b x y, pt px py] w fun e w' => e = .returned (pt (mvP b t.toNat x y (px, py)).1 (mvP b t.toNat x y (px, py)).2) ∧ Below w.heap.size w w' := by
  obtain ⟨⟨h0, h3⟩, hx, hy⟩ := vMo_parts hm
  clear hm
  obtain ⟨n, rfl⟩ : ∃ n : Nat, t = (n : Int) := ⟨t.toNat, by omega⟩
  rw [Int.toNat_natCast]
  have hq := mir_small (p := (px, py)) hp b
  obtain ⟨q, hqe⟩ : ∃ q, mir b (px, py) = q := ⟨_, rfl⟩
  have HT := Lib.hid (fun k => tn_small (p := q) (by rw [← hqe]; exact hq) k)
  have HQ := Lib.hid hqe
  have HM : Hid (mvP b n x y (px, py) = ((tn n q).1 + x, (tn n q).2 + y)) := Lib.hid (by unfold mvP; rw [hqe])
  obtain ⟨r, hr⟩ : ∃ r, mvP b n x y (px, py) = r := ⟨_, rfl⟩
  rw [hr] at HM ⊢
  clear hr hqe hq
  obtain ⟨⟨p1, p2⟩, p3, p4⟩ := hp
  cases b
  · go_enter Tryz.func79, Tryz.ntmps79
    go_wp2_with fail
    obtain ⟨f0, f1, f2, bel⟩ := ap_start w n false x y px py 114
    go_loopw [13] (fun i wr => ∃ k : Nat, k ≤ n ∧ i = .int .i64 k ∧ Mb wr w.heap.size n false x y 114 ∧ Pb wr (w.heap.size + 1) (tn k q).1 (tn k q).2 ∧ Pb wr (w.heap.size + 1 + 1) 0 0 ∧ Below w.heap.size w wr) (fun i _ => n - (intOf i).toNat)
    case atStart => exact ⟨0, Nat.zero_le _, rfl, f0, by rw [← HQ.out]; exact f1, f2, bel⟩
    case round =>
      clear f0 f1 f2 bel
      obtain ⟨k, hk, rfl, g0, g1, g2, hbel⟩ := hrel
      by_cases hlt : k < n
      · have j1 : (k : Int) < (n : Int) := by omega
        have HS : Hid (tn (k + 1) q = (-(tn k q).2, (tn k q).1)) := Lib.hid rfl
        obtain ⟨⟨a1, a2⟩, a3, a4⟩ := HT.out k
        obtain ⟨u, hu⟩ : ∃ u, (tn k q).1 = u := ⟨_, rfl⟩
        obtain ⟨v, hv⟩ : ∃ v, (tn k q).2 = v := ⟨_, rfl⟩
        rw [hu] at a1 a2 g1 HS
        rw [hv] at a3 a4 g1 HS
        clear hu hv
        have c0 := g1.c0
        have c1 := g1.c1
        have z0 := g1.f 0
        have z1 := g1.f 1
        go_wp2
        refine ⟨⟨k + 1, by omega, by simp, (g0.other _ (by omega)).other _ (by omega), ?_, (g2.other _ (by omega)).other _ (by omega), ?_⟩, by simp [intOf]; omega⟩
        · rw [HS.out]
          exact g1.set _ _
        · exact (hbel.setCell (by simp) _).setCell (by simp) _
      · obtain rfl : k = n := by omega
        obtain ⟨⟨a1, a2⟩, a3, a4⟩ := HT.out k
        obtain ⟨u, hu⟩ : ∃ u, (tn k q).1 = u := ⟨_, rfl⟩
        obtain ⟨v, hv⟩ : ∃ v, (tn k q).2 = v := ⟨_, rfl⟩
        rw [hu] at a1 a2 g1 HM
        rw [hv] at a3 a4 g1 HM
        clear hu hv
        have c0 := g1.c0
        have c1 := g1.c1
        have d2 := g0.c2
        have d3 := g0.c3
        have e0 := g2.c0
        have e1 := g2.c1
        have z0 := g2.f 0
        have z1 := g2.f 1
        obtain ⟨x1, x2⟩ := hx
        obtain ⟨y1, y2⟩ := hy
        go_wp2
        refine bodyPost_ret (v := pt r.1 r.2) ?_ rfl ⟨rfl, (hbel.setCell (by show w.heap.size ≤ w.heap.size + 1 + 1; omega) _).setCell (by show w.heap.size ≤ w.heap.size + 1 + 1; omega) _⟩
        rw [HM.out]
        exact res_cell (fn := Tryz.f79) rfl _ (by rfl) (g2.set _ _).load
  · go_enter Tryz.func79, Tryz.ntmps79
    go_wp2_with fail
    obtain ⟨f0, f1, f2, bel⟩ := ap_start w n true x y (-px) py 114
    go_loopw [13] (fun i wr => ∃ k : Nat, k ≤ n ∧ i = .int .i64 k ∧ Mb wr w.heap.size n true x y 114 ∧ Pb wr (w.heap.size + 1) (tn k q).1 (tn k q).2 ∧ Pb wr (w.heap.size + 1 + 1) 0 0 ∧ Below w.heap.size w wr) (fun i _ => n - (intOf i).toNat)
    case atStart => exact ⟨0, Nat.zero_le _, rfl, f0, by rw [← HQ.out]; exact f1, f2, bel⟩
    case round =>
      clear f0 f1 f2 bel
      obtain ⟨k, hk, rfl, g0, g1, g2, hbel⟩ := hrel
      by_cases hlt : k < n
      · have j1 : (k : Int) < (n : Int) := by omega
        have HS : Hid (tn (k + 1) q = (-(tn k q).2, (tn k q).1)) := Lib.hid rfl
        obtain ⟨⟨a1, a2⟩, a3, a4⟩ := HT.out k
        obtain ⟨u, hu⟩ : ∃ u, (tn k q).1 = u := ⟨_, rfl⟩
        obtain ⟨v, hv⟩ : ∃ v, (tn k q).2 = v := ⟨_, rfl⟩
        rw [hu] at a1 a2 g1 HS
        rw [hv] at a3 a4 g1 HS
        clear hu hv
        have c0 := g1.c0
        have c1 := g1.c1
        have z0 := g1.f 0
        have z1 := g1.f 1
        go_wp2
        refine ⟨⟨k + 1, by omega, by simp, (g0.other _ (by omega)).other _ (by omega), ?_, (g2.other _ (by omega)).other _ (by omega), ?_⟩, by simp [intOf]; omega⟩
        · rw [HS.out]
          exact g1.set _ _
        · exact (hbel.setCell (by simp) _).setCell (by simp) _
      · obtain rfl : k = n := by omega
        obtain ⟨⟨a1, a2⟩, a3, a4⟩ := HT.out k
        obtain ⟨u, hu⟩ : ∃ u, (tn k q).1 = u := ⟨_, rfl⟩
        obtain ⟨v, hv⟩ : ∃ v, (tn k q).2 = v := ⟨_, rfl⟩
        rw [hu] at a1 a2 g1 HM
        rw [hv] at a3 a4 g1 HM
        clear hu hv
        have c0 := g1.c0
        have c1 := g1.c1
        have d2 := g0.c2
        have d3 := g0.c3
        have e0 := g2.c0
        have e1 := g2.c1
        have z0 := g2.f 0
        have z1 := g2.f 1
        obtain ⟨x1, x2⟩ := hx
        obtain ⟨y1, y2⟩ := hy
        go_wp2
        refine bodyPost_ret (v := pt r.1 r.2) ?_ rfl ⟨rfl, (hbel.setCell (by show w.heap.size ≤ w.heap.size + 1 + 1; omega) _).setCell (by show w.heap.size ≤ w.heap.size + 1 + 1; omega) _⟩
        rw [HM.out]
        exact res_cell (fn := Tryz.f79) rfl _ (by rfl) (g2.set _ _).load

end Go.Proofs.YtdohlggbeagedaaGreat
