/- The abstract machine, part UA. -/
import Derived.Test.YtpknllbglppjcaaMA
import Derived.Test.YtpknllbglppjcaaGQ
import Derived.Test.YtpknllbglppjcaaMD
/- Points under motions: crosses, squares, meets (plain). -/
namespace Go.Proofs.Ytpknllbglppjcaa
open Go Go.RowKit Go.Proofs

def crs (p q r : Int × Int) : Int := cross p.1 p.2 q.1 q.2 r.1 r.2
def sqr (p q : Int × Int) : Int := square p.1 p.2 q.1 q.2
def ons (p a b : Int × Int) : Bool := onSeg p.1 p.2 a.1 a.2 b.1 b.2
def mts (a b c d : Int × Int) : Int := meetS a.1 a.2 b.1 b.2 c.1 c.2 d.1 d.2
/-- A map that keeps what an outline is made of; s tells whether it turns the sense. -/
structure Rig (s : Bool) (g : Int × Int → Int × Int) : Prop where
  crs : ∀ p q r, crs (g p) (g q) (g r) = if s then - crs p q r else crs p q r
  sqr : ∀ p q, sqr (g p) (g q) = sqr p q
  ons : ∀ p a b, ons (g p) (g a) (g b) = ons p a b
  inj : ∀ p q, g p = g q → p = q

theorem scan_map {g : Int × Int → Int × Int} (hi : ∀ p q, g p = g q → p = q) (f0 f1 f2 f3 : Bool) (a b c d : Int × Int) :
    val ([(f0, (g a).1, (g a).2), (f1, (g b).1, (g b).2), (f2, (g c).1, (g c).2), (f3, (g d).1, (g d).2)].foldl scanStep (some (0, 0, 0))) =
    val ([(f0, a.1, a.2), (f1, b.1, b.2), (f2, c.1, c.2), (f3, d.1, d.2)].foldl scanStep (some (0, 0, 0))) := by
  have e : ∀ p q, ((g p).1 = (g q).1 ∧ (g p).2 = (g q).2) ↔ (p.1 = q.1 ∧ p.2 = q.2) := fun p q =>
    ⟨fun h => by rw [hi p q (Prod.ext h.1 h.2)]; exact ⟨rfl, rfl⟩, fun h => by rw [show p = q from Prod.ext h.1 h.2]; exact ⟨rfl, rfl⟩⟩
  have e1 := e a b
  have e2 := e a c
  have e3 := e a d
  have e4 := e b c
  have e5 := e b d
  have e6 := e c d
  clear e
  generalize (g a).1 = a1, (g a).2 = a2, (g b).1 = b1, (g b).2 = b2, (g c).1 = c1, (g c).2 = c2, (g d).1 = d1, (g d).2 = d2 at *
  cases f0 <;> cases f1 <;> cases f2 <;> cases f3 <;> simp only [List.foldl, scanStep, val, if_true] <;> grind (splits := 30) [scanStep, val]

theorem parted_rig {s : Bool} {g : Int × Int → Int × Int} (hg : Rig s g) (a b c d : Int × Int) :
    parted (g a).1 (g a).2 (g b).1 (g b).2 (g c).1 (g c).2 (g d).1 (g d).2 = parted a.1 a.2 b.1 b.2 c.1 c.2 d.1 d.2 := by
  have h1 := hg.crs a b c
  have h2 := hg.crs a b d
  unfold Go.Proofs.Ytpknllbglppjcaa.crs at h1 h2
  unfold parted
  rw [h1, h2]
  cases s
  · rfl
  · simp only [if_true]
    rw [compare_neg, compare_neg, Int.neg_mul_neg]

theorem mts_rig {s : Bool} {g : Int × Int → Int × Int} (hg : Rig s g) (a b c d : Int × Int) : mts (g a) (g b) (g c) (g d) = mts a b c d := by
  unfold mts
  rw [meetS_val, meetS_val, parted_rig hg, parted_rig hg]
  unfold items
  have o1 := hg.ons a c d
  have o2 := hg.ons b c d
  have o3 := hg.ons c a b
  have o4 := hg.ons d a b
  unfold Go.Proofs.Ytpknllbglppjcaa.ons at o1 o2 o3 o4
  rw [o1, o2, o3, o4, scan_map hg.inj]

theorem mts_turn (a b c d : Int × Int) : mts c d a b = mts a b c d := meetS_turn ..
theorem mts_swap (a b c d : Int × Int) : mts b a c d = mts a b c d := meetS_swap ..
theorem mts_swap2 (a b c d : Int × Int) : mts b a d c = mts a b c d := by
  rw [mts_swap, ← mts_turn, mts_swap, mts_turn]

theorem crs_anti (p q r : Int × Int) : crs r q p = - crs p q r := by
  unfold crs cross
  grind

end Go.Proofs.Ytpknllbglppjcaa

/- Lists of points under motions: sums, the least, outlines (plain). -/
namespace Go.Proofs.Ytpknllbglppjcaa
open Go Go.RowKit Go.Proofs

theorem mod2 {a n : Nat} (h : a < 2 * n) : a % n = if a < n then a else a - n := by
  split
  · exact Nat.mod_eq_of_lt ‹_›
  · rw [Nat.mod_eq_sub_mod (by omega), Nat.mod_eq_of_lt (by omega)]

/-! ### sums -/
theorem sum_rot (g : Nat → Int) (n : Nat) : ∀ m, ((List.range n).map fun j => g ((j + m) % n)).sum = ((List.range n).map g).sum
  | 0 => by
    congr 1
    exact List.map_congr_left fun j hj => by rw [Nat.add_zero, Nat.mod_eq_of_lt (List.mem_range.1 hj)]
  | m + 1 => by
    rw [← sum_rot g n m]
    cases n with
    | zero => rfl
    | succ k =>
      rw [← sum_next (fun i => g ((i + m) % (k + 1))) k]
      congr 1
      exact List.map_congr_left fun j _ => by
        show g _ = g _
        congr 1
        rw [Nat.mod_add_mod]
        congr 1
        omega

theorem sum_rev (g : Nat → Int) : ∀ n, ((List.range n).map fun j => g (n - 1 - j)).sum = ((List.range n).map g).sum
  | 0 => rfl
  | n + 1 => by
    have ih := sum_rev g n
    have e : List.map ((fun j => g (n + 1 - 1 - j)) ∘ Nat.succ) (List.range n) = List.map (fun j => g (n - 1 - j)) (List.range n) := List.map_congr_left fun j _ => by
      show g (n + 1 - 1 - (j + 1)) = g (n - 1 - j)
      congr 1
      omega
    have e1 : ((List.range (n + 1)).map fun j => g (n + 1 - 1 - j)).sum = g n + ((List.range n).map fun j => g (n - 1 - j)).sum := by
      rw [List.range_succ_eq_map, List.map_cons, List.sum_cons, List.map_map, e]
      rfl
    have e2 : ((List.range (n + 1)).map g).sum = ((List.range n).map g).sum + g n := by
      rw [List.range_succ, List.map_append, List.sum_append]
      simp
    omega

/-! ### the least -/
def lesP (p q : Int × Int) : Prop := p.1 < q.1 ∨ p.1 = q.1 ∧ p.2 < q.2

theorem cmpP_les (a b c d : Int) : cmpP a b c d < 0 ↔ (a < c ∨ a = c ∧ b < d) := by
  rw [cmpP_less]
  unfold lessS
  simp

theorem least_min (xs ys : Nat → Int) : ∀ n k, k < n → ¬ (xs k < xs (leastK xs ys n) ∨ xs k = xs (leastK xs ys n) ∧ ys k < ys (leastK xs ys n))
  | 0, k, h => by omega
  | n + 1, k, h => by
    have ih := least_min xs ys n
    have e : leastK xs ys (n + 1) = if cmpP (xs n) (ys n) (xs (leastK xs ys n)) (ys (leastK xs ys n)) < 0 then n else leastK xs ys n := rfl
    rw [e]
    by_cases hc : cmpP (xs n) (ys n) (xs (leastK xs ys n)) (ys (leastK xs ys n)) < 0
    · rw [if_pos hc]
      rw [cmpP_les] at hc
      by_cases hk : k = n
      · subst hk
        omega
      · have := ih k (by omega)
        omega
    · rw [if_neg hc]
      rw [cmpP_les] at hc
      by_cases hk : k = n
      · subst hk
        exact hc
      · exact ih k (by omega)

theorem leastL_min (L : Pl) {k : Nat} (hk : k < L.length) : ¬ lesP (L.getD k (0, 0)) (L.getD (leastK (px L) (py L) L.length) (0, 0)) := least_min (px L) (py L) L.length k hk

/-! ### where a corner comes from -/
def sg (b : Bool) (n m j : Nat) : Nat := if b then n - 1 - (j + m) % n else (j + m) % n

theorem sg_lt {b : Bool} {n m j : Nat} (hn : 0 < n) : sg b n m j < n := by
  have := Nat.mod_lt (j + m) hn
  unfold sg
  split <;> omega

theorem sg_next_f {n m j : Nat} : sg false n m ((j + 1) % n) = (sg false n m j + 1) % n := by
  show ((j + 1) % n + m) % n = ((j + m) % n + 1) % n
  rw [Nat.mod_add_mod, Nat.mod_add_mod]
  congr 1
  omega

theorem sg_next_t {n m j : Nat} (hn : 0 < n) : (sg true n m ((j + 1) % n) + 1) % n = sg true n m j := by
  show (n - 1 - ((j + 1) % n + m) % n + 1) % n = n - 1 - (j + m) % n
  have e : ((j + 1) % n + m) % n = ((j + m) % n + 1) % n := by
    rw [Nat.mod_add_mod, Nat.mod_add_mod]
    congr 1
    omega
  rw [e]
  obtain ⟨r, hr⟩ : ∃ r, (j + m) % n = r := ⟨_, rfl⟩
  have hr1 : r < n := by rw [← hr]; exact Nat.mod_lt _ hn
  rw [hr, mod2 (a := r + 1) (by omega)]
  split
  · rw [Nat.mod_eq_of_lt (by omega)]
    omega
  · rw [show n - 1 - (r + 1 - n) + 1 = n by omega, Nat.mod_self]
    omega

theorem sg_inj {b : Bool} {n m i j : Nat} (hi : i < n) (hj : j < n) (h : sg b n m i = sg b n m j) : i = j := by
  have h1 := Nat.mod_lt (i + m) (show 0 < n by omega)
  have h2 := Nat.mod_lt (j + m) (show 0 < n by omega)
  refine mod_inj (k := m) hi hj ?_
  unfold sg at h
  cases b
  · exact h
  · simp only [if_true] at h
    omega

theorem prev_of {n a c : Nat} (ha : a < n) (h : (a + 1) % n = c) : a = (c + n - 1) % n := by
  rw [mod2 (by omega)] at h
  subst h
  split
  · rw [mod2 (by omega)]
    split <;> omega
  · rw [mod2 (by omega)]
    split <;> omega

theorem next_prev {n j : Nat} (hj : j < n) : ((j + n - 1) % n + 1) % n = j := by
  rw [Nat.mod_add_mod, show j + n - 1 + 1 = j + n by omega, Nat.add_mod_right, Nat.mod_eq_of_lt hj]

/-! ### edges -/
def eM (L : Pl) (i k : Nat) : Int := mts (L.getD i (0, 0)) (L.getD ((i + 1) % L.length) (0, 0)) (L.getD k (0, 0)) (L.getD ((k + 1) % L.length) (0, 0))
def Adj (n i k : Nat) : Prop := k = (i + 1) % n ∨ i = (k + 1) % n
instance (n i k : Nat) : Decidable (Adj n i k) := by unfold Adj; infer_instance

theorem eM_comm (L : Pl) (i k : Nat) : eM L i k = eM L k i := mts_turn ..
theorem Adj.comm {n i k : Nat} : Adj n i k ↔ Adj n k i := Or.comm

theorem eM_lt {L : Pl} {i k : Nat} (hi : i < k) (hk : k < L.length) : eM L i k = meetK (px L) (py L) L.length i k := by
  unfold eM meetK
  rw [Nat.mod_eq_of_lt (show i + 1 < L.length by omega)]
  rfl

theorem want_adj {n i k : Nat} (hi : i < k) (hk : k < n) : wantS n i k = if Adj n i k then 1 else 0 := by
  have e : (k = i + 1 ∨ (i = 0 ∧ k = n - 1)) ↔ Adj n i k := by
    unfold Adj
    rw [Nat.mod_eq_of_lt (show i + 1 < n by omega), mod2 (a := k + 1) (by omega)]
    split <;> omega
  unfold wantS
  by_cases h : Adj n i k
  · rw [if_pos h, if_pos (e.2 h)]
  · rw [if_neg h, if_neg (fun x => h (e.1 x))]

theorem simple_iff {L : Pl} : simpleS (px L) (py L) L.length = true ↔ ∀ i k, i < L.length → k < L.length → i ≠ k → eM L i k = if Adj L.length i k then 1 else 0 := by
  unfold simpleS
  rw [decide_eq_true_eq]
  constructor
  · intro h i k hi hk hne
    rcases Nat.lt_or_gt_of_ne hne with h1 | h1
    · rw [eM_lt h1 hk, h k hk i h1, want_adj h1 hk]
    · rw [eM_comm, eM_lt h1 hi, h i hi k h1, want_adj h1 hi]
      by_cases ha : Adj L.length k i
      · rw [if_pos ha, if_pos (Adj.comm.1 ha)]
      · rw [if_neg ha, if_neg (fun x => ha (Adj.comm.1 x))]
  · intro h k hk i hi
    rw [← eM_lt hi hk, h i k (by omega) hk (by omega), want_adj hi hk]

theorem simple_of {L Q : Pl} (hl : Q.length = L.length) (e : Nat → Nat) (h1 : ∀ j, j < L.length → e j < L.length) (h2 : ∀ j k, j < L.length → k < L.length → e j = e k → j = k)
    (h3 : ∀ j k, j < L.length → k < L.length → eM Q j k = eM L (e j) (e k)) (h4 : ∀ j k, j < L.length → k < L.length → (Adj L.length (e j) (e k) ↔ Adj L.length j k))
    (hs : simpleS (px L) (py L) L.length = true) : simpleS (px Q) (py Q) Q.length = true := by
  rw [simple_iff] at hs ⊢
  intro i k hi hk hne
  rw [hl] at hi hk ⊢
  rw [h3 i k hi hk, hs _ _ (h1 i hi) (h1 k hk) (fun x => hne (h2 i k hi hk x))]
  by_cases ha : Adj L.length i k
  · rw [if_pos ha, if_pos ((h4 i k hi hk).2 ha)]
  · rw [if_neg ha, if_neg (fun x => ha ((h4 i k hi hk).1 x))]

/-- Q is L, moved by g and laid anew. -/
structure Lies (b : Bool) (g : Int × Int → Int × Int) (m : Nat) (L Q : Pl) : Prop where
  len : Q.length = L.length
  rig : Rig b g
  lt : m < L.length
  get : ∀ j, j < L.length → Q.getD j (0, 0) = g (L.getD (sg b L.length m j) (0, 0))

section
variable {b : Bool} {g : Int × Int → Int × Int} {m : Nat} {L Q : Pl}

theorem Lies.crs (h : Lies b g m L Q) {j : Nat} (hj : j < L.length) :
    crs (Q.getD ((j + L.length - 1) % L.length) (0, 0)) (Q.getD j (0, 0)) (Q.getD ((j + 1) % L.length) (0, 0)) =
    crs (L.getD ((sg b L.length m j + L.length - 1) % L.length) (0, 0)) (L.getD (sg b L.length m j) (0, 0)) (L.getD ((sg b L.length m j + 1) % L.length) (0, 0)) := by
  have h0 : 0 < L.length := by omega
  rw [h.get _ (Nat.mod_lt _ h0), h.get j hj, h.get _ (Nat.mod_lt _ h0), h.rig.crs]
  have np := next_prev hj
  cases b
  · have e1 := sg_next_f (n := L.length) (m := m) (j := j)
    have e2 := sg_next_f (n := L.length) (m := m) (j := (j + L.length - 1) % L.length)
    rw [np] at e2
    rw [e1, prev_of (sg_lt h0) e2.symm]
    rfl
  · have e1 := sg_next_t (n := L.length) (m := m) (j := j) h0
    have e2 := sg_next_t (n := L.length) (m := m) (j := (j + L.length - 1) % L.length) h0
    rw [np] at e2
    rw [← e2, prev_of (sg_lt h0) e1]
    simp only [if_true]
    rw [crs_anti]
    omega

theorem Lies.str (h : Lies b g m L Q) {j : Nat} (hj : j < L.length) : strK (px Q) (py Q) L.length j = strK (px L) (py L) L.length (sg b L.length m j) := by
  have := h.crs hj
  unfold strK strB
  exact congrArg (· == 0) this

theorem Lies.bend (h : Lies b g m L Q) {j : Nat} (hj : j < L.length) : bendS (px Q) (py Q) L.length j = bendS (px L) (py L) L.length (sg b L.length m j) := by
  have := h.crs hj
  unfold bendS
  exact congrArg (fun c => if 0 < c then (1 : Int) else -1) this

theorem Lies.simple (h : Lies b g m L Q) (hs : simpleS (px L) (py L) L.length = true) : simpleS (px Q) (py Q) Q.length = true := by
  rcases Nat.eq_zero_or_pos L.length with h0 | h0
  · have := h.lt
    omega
  have ml : ∀ j, (j + 1) % L.length < L.length := fun j => Nat.mod_lt _ h0
  cases b
  · refine simple_of h.len (sg false L.length m) (fun j _ => sg_lt h0) (fun j k hj hk e => sg_inj hj hk e) (fun j k hj hk => ?_) (fun j k hj hk => ?_) hs
    · unfold eM
      rw [h.len, h.get j hj, h.get _ (ml j), h.get k hk, h.get _ (ml k), mts_rig h.rig, sg_next_f, sg_next_f]
    · unfold Adj
      rw [← sg_next_f, ← sg_next_f]
      constructor
      · rintro (e | e)
        · exact .inl (sg_inj hk (ml j) e)
        · exact .inr (sg_inj hj (ml k) e)
      · rintro (e | e)
        · exact .inl (congrArg _ e)
        · exact .inr (congrArg _ e)
  · refine simple_of h.len (fun j => sg true L.length m ((j + 1) % L.length)) (fun j _ => sg_lt h0) (fun j k hj hk e => mod_inj hj hk (sg_inj (ml j) (ml k) e)) (fun j k hj hk => ?_) (fun j k hj hk => ?_) hs
    · unfold eM
      rw [h.len, h.get j hj, h.get _ (ml j), h.get k hk, h.get _ (ml k), mts_rig h.rig, sg_next_t h0, sg_next_t h0, mts_swap2]
    · unfold Adj

      rw [sg_next_t h0, sg_next_t h0]
      constructor
      · rintro (e | e)
        · exact .inr (sg_inj (ml k) hj e).symm
        · exact .inl (sg_inj (ml j) hk e).symm
      · rintro (e | e)
        · exact .inr (by rw [← e])
        · exact .inl (by rw [← e])

end

/-! ### outlines -/
theorem vOut_iff {L : Pl} : vOut L = true ↔ 3 ≤ L.length ∧ L.length ≤ 24 ∧ vPts L = true ∧ (∀ x, x < L.length → strK (px L) (py L) L.length x = false) ∧ 0 < sumL L ∧ leastK (px L) (py L) L.length = 0 ∧ simpleS (px L) (py L) L.length = true := by
  unfold vOut
  simp only [Bool.and_eq_true, decide_eq_true_eq]
  rw [firstS_neg]
  exact Iff.rfl

theorem Lies.out {b : Bool} {g : Int × Int → Int × Int} {m : Nat} {L Q : Pl} (h : Lies b g m L Q) (hL : vOut L = true) (hv : vPts Q = true) (hs : sumL Q = sumL L) (h0 : leastK (px Q) (py Q) Q.length = 0) : vOut Q = true := by
  rw [vOut_iff] at hL ⊢
  obtain ⟨l3, l24, -, l1, l2, -, l4⟩ := hL
  refine ⟨by rw [h.len]; exact l3, by rw [h.len]; exact l24, hv, fun x hx => ?_, by rw [hs]; exact l2, h0, h.simple l4⟩
  rw [h.len] at hx ⊢
  rw [h.str hx]
  exact l1 _ (sg_lt (by omega))

end Go.Proofs.Ytpknllbglppjcaa
