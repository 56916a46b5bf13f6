/- The abstract machine, part LY. -/
import Derived.Test.YtdohlggbeagedaaGreatLX
/- Points under motions: crosses, squares, meets (plain). -/
namespace Go.Proofs.YtdohlggbeagedaaGreat
open Go Go.RowKit Go.Proofs

def crs (p q r : Int × Int) : Int := cross p.1 p.2 q.1 q.2 r.1 r.2
def sqr (p q : Int × Int) : Int := square p.1 p.2 q.1 q.2
def ons (p a b : Int × Int) : Bool := onSeg p.1 p.2 a.1 a.2 b.1 b.2
def mts (a b c d : Int × Int) : Int := meetS a.1 a.2 b.1 b.2 c.1 c.2 d.1 d.2
def shp (x y : Int) (p : Int × Int) : Int × Int := (p.1 + x, p.2 + y)

/-- A map that keeps what an outline is made of; s tells whether it turns the sense. -/
structure Rig (s : Bool) (g : Int × Int → Int × Int) : Prop where
  crs : ∀ p q r, crs (g p) (g q) (g r) = if s then - crs p q r else crs p q r
  sqr : ∀ p q, sqr (g p) (g q) = sqr p q
  ons : ∀ p a b, ons (g p) (g a) (g b) = ons p a b
  inj : ∀ p q, g p = g q → p = q

theorem Rig.comp {s t : Bool} {g h : Int × Int → Int × Int} (hg : Rig s g) (hh : Rig t h) : Rig (s != t) (fun p => g (h p)) where
  crs p q r := by
    rw [hg.crs, hh.crs]
    cases s <;> cases t <;> simp
  sqr p q := by rw [hg.sqr, hh.sqr]
  ons p a b := by rw [hg.ons, hh.ons]
  inj p q e := hh.inj _ _ (hg.inj _ _ e)

theorem rig_id : Rig false (fun p => p) := ⟨fun _ _ _ => rfl, fun _ _ => rfl, fun _ _ _ => rfl, fun _ _ e => e⟩

theorem rig_rt : Rig false rt where
  crs p q r := by
    show cross (-p.2) p.1 (-q.2) q.1 (-r.2) r.1 = cross p.1 p.2 q.1 q.2 r.1 r.2
    unfold cross
    grind
  sqr p q := by
    show square (-p.2) p.1 (-q.2) q.1 = square p.1 p.2 q.1 q.2
    unfold square
    grind
  ons p a b := by
    have h : cross (-a.2) a.1 (-b.2) b.1 (-p.2) p.1 = cross a.1 a.2 b.1 b.2 p.1 p.2 := by
      unfold cross
      grind
    show onSeg (-p.2) p.1 (-a.2) a.1 (-b.2) b.1 = onSeg p.1 p.2 a.1 a.2 b.1 b.2
    unfold onSeg
    rw [h, Bool.eq_iff_iff]
    simp only [Bool.and_eq_true, decide_eq_true_eq]
    omega
  inj _ _ e := rt_inj e

theorem rig_mir : Rig true (mir true) where
  crs p q r := by
    show cross (-p.1) p.2 (-q.1) q.2 (-r.1) r.2 = - cross p.1 p.2 q.1 q.2 r.1 r.2
    unfold cross
    grind
  sqr p q := by
    show square (-p.1) p.2 (-q.1) q.2 = square p.1 p.2 q.1 q.2
    unfold square
    grind
  ons p a b := by
    have h : cross (-a.1) a.2 (-b.1) b.2 (-p.1) p.2 = - cross a.1 a.2 b.1 b.2 p.1 p.2 := by
      unfold cross
      grind
    show onSeg (-p.1) p.2 (-a.1) a.2 (-b.1) b.2 = onSeg p.1 p.2 a.1 a.2 b.1 b.2
    unfold onSeg
    rw [h, Bool.eq_iff_iff]
    simp only [Bool.and_eq_true, decide_eq_true_eq]
    omega
  inj _ _ e := mir_inj e

theorem rig_shp (x y : Int) : Rig false (shp x y) where
  crs p q r := by
    show cross (p.1 + x) (p.2 + y) (q.1 + x) (q.2 + y) (r.1 + x) (r.2 + y) = cross p.1 p.2 q.1 q.2 r.1 r.2
    unfold cross
    grind
  sqr p q := by
    show square (p.1 + x) (p.2 + y) (q.1 + x) (q.2 + y) = square p.1 p.2 q.1 q.2
    unfold square
    grind
  ons p a b := by
    have h : cross (a.1 + x) (a.2 + y) (b.1 + x) (b.2 + y) (p.1 + x) (p.2 + y) = cross a.1 a.2 b.1 b.2 p.1 p.2 := by
      unfold cross
      grind
    show onSeg (p.1 + x) (p.2 + y) (a.1 + x) (a.2 + y) (b.1 + x) (b.2 + y) = onSeg p.1 p.2 a.1 a.2 b.1 b.2
    unfold onSeg
    rw [h, Bool.eq_iff_iff]
    simp only [Bool.and_eq_true, decide_eq_true_eq]
    omega
  inj p q e := by
    unfold shp at e
    obtain ⟨p1, p2⟩ := p
    obtain ⟨q1, q2⟩ := q
    simp only [Prod.mk.injEq] at e ⊢
    omega

theorem rig_tn : ∀ k, Rig false (tn k)
  | 0 => rig_id
  | k + 1 => rig_rt.comp (rig_tn k)

theorem rig_mirB (b : Bool) : Rig b (mir b) := by
  cases b
  · exact rig_id
  · exact rig_mir

theorem rig_mv (b : Bool) (t : Nat) (x y : Int) : Rig b (mvP b t x y) := by
  have h := (rig_shp x y).comp ((rig_tn t).comp (rig_mirB b))
  simp only [Bool.false_bne] at h
  exact h

theorem scan_map {g : Int × Int → Int × Int} (hi : ∀ p q, g p = g q → p = q) (f0 f1 f2 f3 : Bool) (a b c d : Int × Int) :
    val ([(f0, (g a).1, (g a).2), (f1, (g b).1, (g b).2), (f2, (g c).1, (g c).2), (f3, (g d).1, (g d).2)].foldl scanStep (some (0, 0, 0))) =
    val ([(f0, a.1, a.2), (f1, b.1, b.2), (f2, c.1, c.2), (f3, d.1, d.2)].foldl scanStep (some (0, 0, 0))) := by
  have e : ∀ p q, ((g p).1 = (g q).1 ∧ (g p).2 = (g q).2) ↔ (p.1 = q.1 ∧ p.2 = q.2) := fun p q =>
    ⟨fun h => by rw [hi p q (Prod.ext h.1 h.2)]; exact ⟨rfl, rfl⟩, fun h => by rw [show p = q from Prod.ext h.1 h.2]; exact ⟨rfl, rfl⟩⟩
  have e1 := e a b
  have e2 := e a c
  have e3 := e a d
  have e4 := e b c
  have e5 := e b d
  have e6 := e c d
  clear e
  generalize (g a).1 = a1, (g a).2 = a2, (g b).1 = b1, (g b).2 = b2, (g c).1 = c1, (g c).2 = c2, (g d).1 = d1, (g d).2 = d2 at *
  cases f0 <;> cases f1 <;> cases f2 <;> cases f3 <;> simp only [List.foldl, scanStep, val, if_true] <;> grind (splits := 30) [scanStep, val]

theorem parted_rig {s : Bool} {g : Int × Int → Int × Int} (hg : Rig s g) (a b c d : Int × Int) :
    parted (g a).1 (g a).2 (g b).1 (g b).2 (g c).1 (g c).2 (g d).1 (g d).2 = parted a.1 a.2 b.1 b.2 c.1 c.2 d.1 d.2 := by
  have h1 := hg.crs a b c
  have h2 := hg.crs a b d
  unfold Go.Proofs.YtdohlggbeagedaaGreat.crs at h1 h2
  unfold parted
  rw [h1, h2]
  cases s
  · rfl
  · simp only [if_true]
    rw [compare_neg, compare_neg, Int.neg_mul_neg]

theorem mts_rig {s : Bool} {g : Int × Int → Int × Int} (hg : Rig s g) (a b c d : Int × Int) : mts (g a) (g b) (g c) (g d) = mts a b c d := by
  unfold mts
  rw [meetS_val, meetS_val, parted_rig hg, parted_rig hg]
  unfold items
  have o1 := hg.ons a c d
  have o2 := hg.ons b c d
  have o3 := hg.ons c a b
  have o4 := hg.ons d a b
  unfold Go.Proofs.YtdohlggbeagedaaGreat.ons at o1 o2 o3 o4
  rw [o1, o2, o3, o4, scan_map hg.inj]

theorem mts_turn (a b c d : Int × Int) : mts c d a b = mts a b c d := meetS_turn ..
theorem mts_swap (a b c d : Int × Int) : mts b a c d = mts a b c d := meetS_swap ..
theorem mts_swap2 (a b c d : Int × Int) : mts b a d c = mts a b c d := by
  rw [mts_swap, ← mts_turn, mts_swap, mts_turn]

theorem crs_anti (p q r : Int × Int) : crs r q p = - crs p q r := by
  unfold crs cross
  grind

end Go.Proofs.YtdohlggbeagedaaGreat

/- Lists of points under motions: sums, the least, outlines (plain). -/
namespace Go.Proofs.YtdohlggbeagedaaGreat
open Go Go.RowKit Go.Proofs

theorem mod2 {a n : Nat} (h : a < 2 * n) : a % n = if a < n then a else a - n := by
  split
  · exact Nat.mod_eq_of_lt ‹_›
  · rw [Nat.mod_eq_sub_mod (by omega), Nat.mod_eq_of_lt (by omega)]

/-! ### sums -/
theorem sum_rot (g : Nat → Int) (n : Nat) : ∀ m, ((List.range n).map fun j => g ((j + m) % n)).sum = ((List.range n).map g).sum
  | 0 => by
    congr 1
    exact List.map_congr_left fun j hj => by rw [Nat.add_zero, Nat.mod_eq_of_lt (List.mem_range.1 hj)]
  | m + 1 => by
    rw [← sum_rot g n m]
    cases n with
    | zero => rfl
    | succ k =>
      rw [← sum_next (fun i => g ((i + m) % (k + 1))) k]
      congr 1
      exact List.map_congr_left fun j _ => by
        show g _ = g _
        congr 1
        rw [Nat.mod_add_mod]
        congr 1
        omega

theorem sum_rev (g : Nat → Int) : ∀ n, ((List.range n).map fun j => g (n - 1 - j)).sum = ((List.range n).map g).sum
  | 0 => rfl
  | n + 1 => by
    have ih := sum_rev g n
    have e : List.map ((fun j => g (n + 1 - 1 - j)) ∘ Nat.succ) (List.range n) = List.map (fun j => g (n - 1 - j)) (List.range n) := List.map_congr_left fun j _ => by
      show g (n + 1 - 1 - (j + 1)) = g (n - 1 - j)
      congr 1
      omega
    have e1 : ((List.range (n + 1)).map fun j => g (n + 1 - 1 - j)).sum = g n + ((List.range n).map fun j => g (n - 1 - j)).sum := by
      rw [List.range_succ_eq_map, List.map_cons, List.sum_cons, List.map_map, e]
      rfl
    have e2 : ((List.range (n + 1)).map g).sum = ((List.range n).map g).sum + g n := by
      rw [List.range_succ, List.map_append, List.sum_append]
      simp
    omega

theorem sumL_rot {L : Pl} {m : Nat} (hm : m < L.length) : sumL (rotL m L) = sumL L := by
  unfold sumL sumD
  rw [rotL_len, ← sum_rot (termD (px L) (py L) L.length) L.length m]
  congr 1
  refine List.map_congr_left fun j hj => ?_
  have hj := List.mem_range.1 hj
  have h1 : ((j + 1) % L.length) < L.length := Nat.mod_lt _ (by omega)
  have e : ((j + 1) % L.length + m) % L.length = ((j + m) % L.length + 1) % L.length := by
    rw [Nat.mod_add_mod, Nat.mod_add_mod]
    congr 1
    omega
  show det ((rotL m L).getD j (0, 0)) ((rotL m L).getD ((j + 1) % L.length) (0, 0)) = det (L.getD ((j + m) % L.length) (0, 0)) (L.getD (((j + m) % L.length + 1) % L.length) (0, 0))
  rw [rotL_getD hm hj, rotL_getD hm h1, e]

theorem sumL_rev (L : Pl) : sumL L.reverse = - sumL L := by
  cases hn : L.length with
  | zero =>
    have := List.eq_nil_of_length_eq_zero hn
    subst this
    rfl
  | succ k =>
    have h1 : sumL L.reverse = ((List.range (k + 1)).map fun j => - (termD (px L) (py L) (k + 1) (k + 1 - 1 - ((j + 1) % (k + 1))))).sum := by
      unfold sumL sumD
      rw [List.length_reverse, hn]
      congr 1
      refine List.map_congr_left fun j hj => ?_
      have hj := List.mem_range.1 hj
      have hlt : (j + 1) % (k + 1) < k + 1 := Nat.mod_lt _ (by omega)
      have e : (k + 1 - 1 - (j + 1) % (k + 1) + 1) % (k + 1) = k + 1 - 1 - j := by
        rw [mod2 (a := j + 1) (by omega)]
        split
        · rw [Nat.mod_eq_of_lt (by omega)]
          omega
        · rw [show k + 1 - 1 - (j + 1 - (k + 1)) + 1 = k + 1 by omega, Nat.mod_self]
          omega
      show det (L.reverse.getD j (0, 0)) (L.reverse.getD ((j + 1) % (k + 1)) (0, 0)) = - det (L.getD (k + 1 - 1 - (j + 1) % (k + 1)) (0, 0)) (L.getD ((k + 1 - 1 - (j + 1) % (k + 1) + 1) % (k + 1)) (0, 0))
      rw [rev_getD (by omega), rev_getD (by omega), hn, e]
      unfold det
      omega
    rw [h1, sum_neg, sum_next (fun i => termD (px L) (py L) (k + 1) (k + 1 - 1 - i)) k, sum_rev (termD (px L) (py L) (k + 1)) (k + 1)]
    unfold sumL sumD
    rw [hn]

theorem sumL_Q (b : Bool) (t : Nat) (x y : Int) {L : Pl} {m : Nat} (hm : m < L.length) : sumL (rotL m (turnL b (mvL b t x y L))) = sumL L := by
  rw [sumL_rot (by rw [turnL_len, mvL_len]; exact hm)]
  cases b
  · show sumL (mvL false t x y L) = _
    rw [sumL_mv]
    rfl
  · show sumL (mvL true t x y L).reverse = _
    rw [sumL_rev, sumL_mv]
    simp

/-! ### the least -/
def lesP (p q : Int × Int) : Prop := p.1 < q.1 ∨ p.1 = q.1 ∧ p.2 < q.2

theorem cmpP_les (a b c d : Int) : cmpP a b c d < 0 ↔ (a < c ∨ a = c ∧ b < d) := by
  rw [cmpP_less]
  unfold lessS
  simp

theorem least_min (xs ys : Nat → Int) : ∀ n k, k < n → ¬ (xs k < xs (leastK xs ys n) ∨ xs k = xs (leastK xs ys n) ∧ ys k < ys (leastK xs ys n))
  | 0, k, h => by omega
  | n + 1, k, h => by
    have ih := least_min xs ys n
    have e : leastK xs ys (n + 1) = if cmpP (xs n) (ys n) (xs (leastK xs ys n)) (ys (leastK xs ys n)) < 0 then n else leastK xs ys n := rfl
    rw [e]
    by_cases hc : cmpP (xs n) (ys n) (xs (leastK xs ys n)) (ys (leastK xs ys n)) < 0
    · rw [if_pos hc]
      rw [cmpP_les] at hc
      by_cases hk : k = n
      · subst hk
        omega
      · have := ih k (by omega)
        omega
    · rw [if_neg hc]
      rw [cmpP_les] at hc
      by_cases hk : k = n
      · subst hk
        exact hc
      · exact ih k (by omega)

theorem leastL_min (L : Pl) {k : Nat} (hk : k < L.length) : ¬ lesP (L.getD k (0, 0)) (L.getD (leastK (px L) (py L) L.length) (0, 0)) := least_min (px L) (py L) L.length k hk

theorem les_anti {p q : Int × Int} (h : ¬ lesP p q) (k : ¬ lesP q p) : p = q := by
  unfold lesP at h k
  refine Prod.ext ?_ ?_ <;> omega

theorem least_only {L : Pl} (hA : Apart L) {m : Nat} (hm : m < L.length) (h : ∀ k, k < L.length → ¬ lesP (L.getD k (0, 0)) (L.getD m (0, 0))) : leastK (px L) (py L) L.length = m := by
  have h1 := leastL_lt (L := L) (by omega)
  exact hA.eq h1 hm (les_anti (h _ h1) (leastL_min L hm))

theorem ext_getD {A B : Pl} (hl : A.length = B.length) (h : ∀ j, j < A.length → A.getD j (0, 0) = B.getD j (0, 0)) : A = B := by
  apply List.ext_getElem?
  intro j
  by_cases hj : j < A.length
  · rw [getD_some hj, getD_some (by omega), h j hj]
  · rw [List.getElem?_eq_none (by omega), List.getElem?_eq_none (by omega)]

theorem place_getD {T : Pl} {j : Nat} (hj : j < T.length) : (placeL T).getD j (0, 0) = T.getD ((j + leastK (px T) (py T) T.length) % T.length) (0, 0) := rotL_getD (leastL_lt (by omega)) hj

theorem least_place {T : Pl} (hA : Apart T) (h0 : 0 < T.length) : leastK (px (placeL T)) (py (placeL T)) (placeL T).length = 0 := by
  have hm := leastL_lt h0
  have hA' : Apart (placeL T) := hA.rot hm
  refine least_only hA' (by rw [placeL_len]; exact h0) fun k hk => ?_
  rw [placeL_len] at hk
  rw [place_getD hk, place_getD h0, Nat.zero_add, Nat.mod_eq_of_lt hm]
  exact leastL_min T (Nat.mod_lt _ h0)

theorem place_same {A B : Pl} (hA : Apart A) (hl : B.length = A.length) (a : Nat) (h : ∀ j, j < A.length → B.getD j (0, 0) = A.getD ((j + a) % A.length) (0, 0)) : placeL B = placeL A := by
  rcases Nat.eq_zero_or_pos A.length with h0 | h0
  · have e1 := List.eq_nil_of_length_eq_zero h0
    have e2 := List.eq_nil_of_length_eq_zero (hl.trans h0)
    rw [e1, e2]
  · have hmB := leastL_lt (L := B) (by omega)
    rw [hl] at hmB
    have e : leastK (px A) (py A) A.length = (leastK (px B) (py B) B.length + a) % A.length := by
      refine least_only hA (Nat.mod_lt _ h0) fun k hk => ?_
      have hB := leastL_min B (k := (k + (A.length - a % A.length)) % A.length) (by rw [hl]; exact Nat.mod_lt _ h0)
      rw [h _ (Nat.mod_lt _ h0), hl, h _ hmB] at hB
      have hk2 : ((k + (A.length - a % A.length)) % A.length + a) % A.length = k := by
        have ha : a % A.length < A.length := Nat.mod_lt _ h0
        rw [Nat.mod_add_mod, ← Nat.add_mod_mod, show k + (A.length - a % A.length) + a % A.length = k + A.length by omega, Nat.add_mod_right, Nat.mod_eq_of_lt hk]
      rw [hk2] at hB
      rw [hl]
      exact hB
    refine ext_getD (by rw [placeL_len, placeL_len, hl]) fun j hj => ?_
    rw [placeL_len, hl] at hj
    rw [place_getD (by omega), place_getD hj, hl, h _ (Nat.mod_lt _ h0), e, hl]
    congr 1
    rw [Nat.mod_add_mod, Nat.add_mod_mod]
    congr 1
    omega

theorem place_out {L : Pl} (h : leastK (px L) (py L) L.length = 0) : placeL L = L := by
  unfold placeL
  rw [h]
  unfold rotL
  simp

/-! ### where a corner comes from -/
def sg (b : Bool) (n m j : Nat) : Nat := if b then n - 1 - (j + m) % n else (j + m) % n

theorem sg_lt {b : Bool} {n m j : Nat} (hn : 0 < n) : sg b n m j < n := by
  have := Nat.mod_lt (j + m) hn
  unfold sg
  split <;> omega

theorem sg_next_f {n m j : Nat} : sg false n m ((j + 1) % n) = (sg false n m j + 1) % n := by
  show ((j + 1) % n + m) % n = ((j + m) % n + 1) % n
  rw [Nat.mod_add_mod, Nat.mod_add_mod]
  congr 1
  omega

theorem sg_next_t {n m j : Nat} (hn : 0 < n) : (sg true n m ((j + 1) % n) + 1) % n = sg true n m j := by
  show (n - 1 - ((j + 1) % n + m) % n + 1) % n = n - 1 - (j + m) % n
  have e : ((j + 1) % n + m) % n = ((j + m) % n + 1) % n := by
    rw [Nat.mod_add_mod, Nat.mod_add_mod]
    congr 1
    omega
  rw [e]
  obtain ⟨r, hr⟩ : ∃ r, (j + m) % n = r := ⟨_, rfl⟩
  have hr1 : r < n := by rw [← hr]; exact Nat.mod_lt _ hn
  rw [hr, mod2 (a := r + 1) (by omega)]
  split
  · rw [Nat.mod_eq_of_lt (by omega)]
    omega
  · rw [show n - 1 - (r + 1 - n) + 1 = n by omega, Nat.mod_self]
    omega

theorem sg_inj {b : Bool} {n m i j : Nat} (hi : i < n) (hj : j < n) (h : sg b n m i = sg b n m j) : i = j := by
  have h1 := Nat.mod_lt (i + m) (show 0 < n by omega)
  have h2 := Nat.mod_lt (j + m) (show 0 < n by omega)
  refine mod_inj (k := m) hi hj ?_
  unfold sg at h
  cases b
  · exact h
  · simp only [if_true] at h
    omega

theorem sg_onto {b : Bool} {n m i : Nat} (hi : i < n) (hm : m < n) : ∃ j, j < n ∧ sg b n m j = i := by
  have key : ∀ r, r < n → ((r + n - m) % n + m) % n = r := fun r hr => by
    rw [Nat.mod_add_mod, show r + n - m + m = r + n by omega, Nat.add_mod_right, Nat.mod_eq_of_lt hr]
  cases b
  · exact ⟨(i + n - m) % n, Nat.mod_lt _ (by omega), key i hi⟩
  · refine ⟨(n - 1 - i + n - m) % n, Nat.mod_lt _ (by omega), ?_⟩
    show n - 1 - ((n - 1 - i + n - m) % n + m) % n = i
    rw [key _ (by omega)]
    omega

theorem place_sg {b : Bool} {M : Pl} {m j : Nat} (hm : m < M.length) (hj : j < M.length) : (rotL m (turnL b M)).getD j (0, 0) = M.getD (sg b M.length m j) (0, 0) := by
  have hl := turnL_len b M
  rw [rotL_getD (by omega) (by omega), hl]
  cases b
  · rfl
  · show M.reverse.getD _ _ = _
    rw [rev_getD (Nat.mod_lt _ (by omega))]
    rfl

theorem prev_of {n a c : Nat} (ha : a < n) (h : (a + 1) % n = c) : a = (c + n - 1) % n := by
  rw [mod2 (by omega)] at h
  subst h
  split
  · rw [mod2 (by omega)]
    split <;> omega
  · rw [mod2 (by omega)]
    split <;> omega

theorem next_prev {n j : Nat} (hj : j < n) : ((j + n - 1) % n + 1) % n = j := by
  rw [Nat.mod_add_mod, show j + n - 1 + 1 = j + n by omega, Nat.add_mod_right, Nat.mod_eq_of_lt hj]

/-! ### edges -/
def eM (L : Pl) (i k : Nat) : Int := mts (L.getD i (0, 0)) (L.getD ((i + 1) % L.length) (0, 0)) (L.getD k (0, 0)) (L.getD ((k + 1) % L.length) (0, 0))
def Adj (n i k : Nat) : Prop := k = (i + 1) % n ∨ i = (k + 1) % n
instance (n i k : Nat) : Decidable (Adj n i k) := by unfold Adj; infer_instance

theorem eM_comm (L : Pl) (i k : Nat) : eM L i k = eM L k i := mts_turn ..
theorem Adj.comm {n i k : Nat} : Adj n i k ↔ Adj n k i := Or.comm

theorem eM_lt {L : Pl} {i k : Nat} (hi : i < k) (hk : k < L.length) : eM L i k = meetK (px L) (py L) L.length i k := by
  unfold eM meetK
  rw [Nat.mod_eq_of_lt (show i + 1 < L.length by omega)]
  rfl

theorem want_adj {n i k : Nat} (hi : i < k) (hk : k < n) : wantS n i k = if Adj n i k then 1 else 0 := by
  have e : (k = i + 1 ∨ (i = 0 ∧ k = n - 1)) ↔ Adj n i k := by
    unfold Adj
    rw [Nat.mod_eq_of_lt (show i + 1 < n by omega), mod2 (a := k + 1) (by omega)]
    split <;> omega
  unfold wantS
  by_cases h : Adj n i k
  · rw [if_pos h, if_pos (e.2 h)]
  · rw [if_neg h, if_neg (fun x => h (e.1 x))]

theorem simple_iff {L : Pl} : simpleS (px L) (py L) L.length = true ↔ ∀ i k, i < L.length → k < L.length → i ≠ k → eM L i k = if Adj L.length i k then 1 else 0 := by
  unfold simpleS
  rw [decide_eq_true_eq]
  constructor
  · intro h i k hi hk hne
    rcases Nat.lt_or_gt_of_ne hne with h1 | h1
    · rw [eM_lt h1 hk, h k hk i h1, want_adj h1 hk]
    · rw [eM_comm, eM_lt h1 hi, h i hi k h1, want_adj h1 hi]
      by_cases ha : Adj L.length k i
      · rw [if_pos ha, if_pos (Adj.comm.1 ha)]
      · rw [if_neg ha, if_neg (fun x => ha (Adj.comm.1 x))]
  · intro h k hk i hi
    rw [← eM_lt hi hk, h i k (by omega) hk (by omega), want_adj hi hk]

theorem simple_of {L Q : Pl} (hl : Q.length = L.length) (e : Nat → Nat) (h1 : ∀ j, j < L.length → e j < L.length) (h2 : ∀ j k, j < L.length → k < L.length → e j = e k → j = k)
    (h3 : ∀ j k, j < L.length → k < L.length → eM Q j k = eM L (e j) (e k)) (h4 : ∀ j k, j < L.length → k < L.length → (Adj L.length (e j) (e k) ↔ Adj L.length j k))
    (hs : simpleS (px L) (py L) L.length = true) : simpleS (px Q) (py Q) Q.length = true := by
  rw [simple_iff] at hs ⊢
  intro i k hi hk hne
  rw [hl] at hi hk ⊢
  rw [h3 i k hi hk, hs _ _ (h1 i hi) (h1 k hk) (fun x => hne (h2 i k hi hk x))]
  by_cases ha : Adj L.length i k
  · rw [if_pos ha, if_pos ((h4 i k hi hk).2 ha)]
  · rw [if_neg ha, if_neg (fun x => ha ((h4 i k hi hk).1 x))]

/-- Q is L, moved by g and laid anew. -/
structure Lies (b : Bool) (g : Int × Int → Int × Int) (m : Nat) (L Q : Pl) : Prop where
  len : Q.length = L.length
  rig : Rig b g
  lt : m < L.length
  get : ∀ j, j < L.length → Q.getD j (0, 0) = g (L.getD (sg b L.length m j) (0, 0))

section
variable {b : Bool} {g : Int × Int → Int × Int} {m : Nat} {L Q : Pl}

theorem Lies.crs (h : Lies b g m L Q) {j : Nat} (hj : j < L.length) :
    crs (Q.getD ((j + L.length - 1) % L.length) (0, 0)) (Q.getD j (0, 0)) (Q.getD ((j + 1) % L.length) (0, 0)) =
    crs (L.getD ((sg b L.length m j + L.length - 1) % L.length) (0, 0)) (L.getD (sg b L.length m j) (0, 0)) (L.getD ((sg b L.length m j + 1) % L.length) (0, 0)) := by
  have h0 : 0 < L.length := by omega
  rw [h.get _ (Nat.mod_lt _ h0), h.get j hj, h.get _ (Nat.mod_lt _ h0), h.rig.crs]
  have np := next_prev hj
  cases b
  · have e1 := sg_next_f (n := L.length) (m := m) (j := j)
    have e2 := sg_next_f (n := L.length) (m := m) (j := (j + L.length - 1) % L.length)
    rw [np] at e2
    rw [e1, prev_of (sg_lt h0) e2.symm]
    rfl
  · have e1 := sg_next_t (n := L.length) (m := m) (j := j) h0
    have e2 := sg_next_t (n := L.length) (m := m) (j := (j + L.length - 1) % L.length) h0
    rw [np] at e2
    rw [← e2, prev_of (sg_lt h0) e1]
    simp only [if_true]
    rw [crs_anti]
    omega

theorem Lies.str (h : Lies b g m L Q) {j : Nat} (hj : j < L.length) : strK (px Q) (py Q) L.length j = strK (px L) (py L) L.length (sg b L.length m j) := by
  have := h.crs hj
  unfold strK strB
  exact congrArg (· == 0) this

theorem Lies.bend (h : Lies b g m L Q) {j : Nat} (hj : j < L.length) : bendS (px Q) (py Q) L.length j = bendS (px L) (py L) L.length (sg b L.length m j) := by
  have := h.crs hj
  unfold bendS
  exact congrArg (fun c => if 0 < c then (1 : Int) else -1) this

theorem Lies.simple (h : Lies b g m L Q) (hs : simpleS (px L) (py L) L.length = true) : simpleS (px Q) (py Q) Q.length = true := by
  rcases Nat.eq_zero_or_pos L.length with h0 | h0
  · have := h.lt
    omega
  have ml : ∀ j, (j + 1) % L.length < L.length := fun j => Nat.mod_lt _ h0
  cases b
  · refine simple_of h.len (sg false L.length m) (fun j _ => sg_lt h0) (fun j k hj hk e => sg_inj hj hk e) (fun j k hj hk => ?_) (fun j k hj hk => ?_) hs
    · unfold eM
      rw [h.len, h.get j hj, h.get _ (ml j), h.get k hk, h.get _ (ml k), mts_rig h.rig, sg_next_f, sg_next_f]
    · unfold Adj
      rw [← sg_next_f, ← sg_next_f]
      constructor
      · rintro (e | e)
        · exact .inl (sg_inj hk (ml j) e)
        · exact .inr (sg_inj hj (ml k) e)
      · rintro (e | e)
        · exact .inl (congrArg _ e)
        · exact .inr (congrArg _ e)
  · refine simple_of h.len (fun j => sg true L.length m ((j + 1) % L.length)) (fun j _ => sg_lt h0) (fun j k hj hk e => mod_inj hj hk (sg_inj (ml j) (ml k) e)) (fun j k hj hk => ?_) (fun j k hj hk => ?_) hs
    · unfold eM
      rw [h.len, h.get j hj, h.get _ (ml j), h.get k hk, h.get _ (ml k), mts_rig h.rig, sg_next_t h0, sg_next_t h0, mts_swap2]
    · unfold Adj

      rw [sg_next_t h0, sg_next_t h0]
      constructor
      · rintro (e | e)
        · exact .inr (sg_inj (ml k) hj e).symm
        · exact .inl (sg_inj (ml j) hk e).symm
      · rintro (e | e)
        · exact .inr (by rw [← e])
        · exact .inl (by rw [← e])

end

/-! ### outlines -/
theorem vPts_iff {L : Pl} : vPts L = true ↔ ∀ k, k < L.length → valid (L.getD k (0, 0)).1 (L.getD k (0, 0)).2 = true := by
  unfold vPts allValid
  rw [List.all_eq_true]
  exact ⟨fun h k hk => h k (List.mem_range.2 hk), fun h k hk => h k (List.mem_range.1 hk)⟩

theorem vOut_iff {L : Pl} : vOut L = true ↔ 3 ≤ L.length ∧ L.length ≤ 24 ∧ vPts L = true ∧ (∀ x, x < L.length → strK (px L) (py L) L.length x = false) ∧ 0 < sumL L ∧ leastK (px L) (py L) L.length = 0 ∧ simpleS (px L) (py L) L.length = true := by
  unfold vOut
  simp only [Bool.and_eq_true, decide_eq_true_eq]
  rw [firstS_neg]
  exact Iff.rfl

theorem Lies.out {b : Bool} {g : Int × Int → Int × Int} {m : Nat} {L Q : Pl} (h : Lies b g m L Q) (hL : vOut L = true) (hv : vPts Q = true) (hs : sumL Q = sumL L) (h0 : leastK (px Q) (py Q) Q.length = 0) : vOut Q = true := by
  rw [vOut_iff] at hL ⊢
  obtain ⟨l3, l24, -, l1, l2, -, l4⟩ := hL
  refine ⟨by rw [h.len]; exact l3, by rw [h.len]; exact l24, hv, fun x hx => ?_, by rw [hs]; exact l2, h0, h.simple l4⟩
  rw [h.len] at hx ⊢
  rw [h.str hx]
  exact l1 _ (sg_lt (by omega))

end Go.Proofs.YtdohlggbeagedaaGreat
