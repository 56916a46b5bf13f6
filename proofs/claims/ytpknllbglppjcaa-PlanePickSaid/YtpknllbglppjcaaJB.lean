/- The abstract machine, part JB. -/
import Derived.Test.YtpknllbglppjcaaJA
/- Closed polygons (plain): the edges to the right of a point, upward less downward, are one more at most. -/
namespace Go.Proofs.Ytpknllbglppjcaa
open Go Go.RowKit Go.Proofs

theorem frac_trans {na nb nc da db dc : Int} (ha : 0 < da) (hb : 0 < db) (hc : 0 < dc) (h1 : na * db ≤ nb * da) (h2 : nb * dc ≤ nc * db) : na * dc ≤ nc * da := by
  have k1 := Int.mul_le_mul_of_nonneg_right h1 (show 0 ≤ dc by omega)
  have k2 := Int.mul_le_mul_of_nonneg_right h2 (show 0 ≤ da by omega)
  have e1 : db * (na * dc) = na * db * dc := by grind
  have e2 : db * (nc * da) = nc * db * da := by grind
  have e3 : nb * da * dc = nb * dc * da := by grind
  exact Int.le_of_mul_le_mul_left (by omega : db * (na * dc) ≤ db * (nc * da)) hb

theorem min_frac (N D : Nat → Int) : ∀ l : List Nat, l ≠ [] → (∀ j ∈ l, 0 < D j) → ∃ e ∈ l, ∀ j ∈ l, N e * D j ≤ N j * D e
  | [], h, _ => absurd rfl h
  | [a], _, _ => ⟨a, by simp, fun j hj => by rw [List.mem_singleton.1 hj]; exact Int.le_refl _⟩
  | a :: b :: l, _, hD => by
    obtain ⟨e, he, hm⟩ := min_frac N D (b :: l) (by simp) (fun j hj => hD j (List.mem_cons_of_mem _ hj))
    have da := hD a (by simp)
    have de := hD e (List.mem_cons_of_mem _ he)
    rcases Int.le_total (N a * D e) (N e * D a) with h | h
    · refine ⟨a, by simp, fun j hj => ?_⟩
      rcases List.mem_cons.1 hj with rfl | hj
      · exact Int.le_refl _
      · exact frac_trans da de (hD j (List.mem_cons_of_mem _ hj)) h (hm j hj)
    · refine ⟨e, List.mem_cons_of_mem _ he, fun j hj => ?_⟩
      rcases List.mem_cons.1 hj with rfl | hj
      · exact h
      · exact hm j hj

theorem FF_anti (A B a b : P2) (y : Int) : FF A B a b y = - FF a b A B y := by
  unfold FF
  omega

section
variable {P : Nat → P2} {n : Nat}

def lo (P : Nat → P2) (n j : Nat) : P2 := if (P j).2 < (P ((j + 1) % n)).2 then P j else P ((j + 1) % n)
def tp (P : Nat → P2) (n j : Nat) : P2 := if (P j).2 < (P ((j + 1) % n)).2 then P ((j + 1) % n) else P j
def dir (P : Nat → P2) (n j : Nat) : Int := if (P j).2 < (P ((j + 1) % n)).2 then 1 else -1
/-- The edge j passes the height y. -/
def Cr (P : Nat → P2) (n : Nat) (y : Int) (j : Nat) : Prop := (lo P n j).2 < y ∧ y < (tp P n j).2
instance (y : Int) (j : Nat) : Decidable (Cr P n y j) := by unfold Cr; infer_instance

/-- No corner has the height y. -/
def Free (P : Nat → P2) (n : Nat) (y : Int) : Prop := ∀ j, j < n → (P j).2 ≠ y

theorem cw_is {p : P2} (hf : Free P n p.2) {j : Nat} (hj : j < n) : cw (P j) (P ((j + 1) % n)) p = if Cr P n p.2 j ∧ 0 < crs (lo P n j) (tp P n j) p then dir P n j else 0 := by
  have f1 := hf j hj
  have f2 := hf ((j + 1) % n) (Nat.mod_lt _ (by omega))
  have s := crs_swap (P j) (P ((j + 1) % n)) p
  unfold cw Cr dir lo tp
  by_cases h : (P j).2 < (P ((j + 1) % n)).2
  · simp only [if_pos h]
    repeat' split
    all_goals omega
  · simp only [if_neg h]
    repeat' split
    all_goals omega

theorem ce_is {A B : P2} {y : Int} (hf : Free P n y) {j : Nat} (hj : j < n) : ce A B y (P j) (P ((j + 1) % n)) = if Cr P n y j ∧ 0 < FF A B (lo P n j) (tp P n j) y then dir P n j else 0 := by
  have f1 := hf j hj
  have f2 := hf ((j + 1) % n) (Nat.mod_lt _ (by omega))
  have s := FF_swap A B (P j) (P ((j + 1) % n)) y
  unfold ce Cr dir lo tp
  by_cases h : (P j).2 < (P ((j + 1) % n)).2
  · simp only [if_pos h]
    repeat' split
    all_goals omega
  · simp only [if_neg h]
    repeat' split
    all_goals omega

theorem MM_is (hS : Sim P n) {e : Nat} (he : e < n) {y : Int} (hc : Cr P n y e) : MM P n (lo P n e) (tp P n e) y = if (P e).2 < (P ((e + 1) % n)).2 then RR P n 0 else RR P n 0 + 1 := by
  unfold Cr lo tp at hc
  unfold lo tp
  by_cases h : (P e).2 < (P ((e + 1) % n)).2
  · simp only [if_pos h] at hc ⊢
    exact MM_up hS he hc.1 hc.2
  · simp only [if_neg h] at hc ⊢
    exact MM_down hS he hc.1 hc.2

theorem dj_orient {a b A B : P2} (h : Dj a b A B) (c d : Bool) : Dj (if c then a else b) (if c then b else a) (if d then A else B) (if d then B else A) := by
  cases c <;> cases d
  · exact h.swap.swapE
  · exact h.swap
  · exact h.swapE
  · exact h

/-- Edges that follow one another are not at one place. -/
theorem tie_next (hS : Sim P n) {e : Nat} (he : e < n) {y : Int} (h1 : Cr P n y e) (h2 : Cr P n y ((e + 1) % n)) : FF (lo P n e) (tp P n e) (lo P n ((e + 1) % n)) (tp P n ((e + 1) % n)) y ≠ 0 := by
  have hl : (e + 1) % n < n := Nat.mod_lt _ (by omega)
  have hb := hS.bend _ hl
  rw [show ((e + 1) % n + n - 1) % n = e from (prev_of he rfl).symm] at hb
  unfold Cr lo tp at h1 h2
  unfold lo tp
  generalize P e = p at *
  generalize P ((e + 1) % n) = q at *
  generalize P (((e + 1) % n + 1) % n) = d at *
  by_cases c1 : p.2 < q.2 <;> by_cases c2 : q.2 < d.2 <;> simp only [if_pos, if_neg, c1, c2, not_false_eq_true] at h1 h2 ⊢
  · omega
  · rw [FF_swap, FF_top]
    intro h
    have : (q.2 - y) * crs p q d = 0 := by omega
    rcases Int.mul_eq_zero.1 this with k | k
    · omega
    · exact hb k
  · rw [FF_swap, FF_low]
    intro h
    have : (y - q.2) * crs q p d = 0 := by omega
    rcases Int.mul_eq_zero.1 this with k | k
    · omega
    · rw [crs_swap] at k
      exact hb (by omega)
  · omega

theorem no_tie (hS : Sim P n) {e j : Nat} (he : e < n) (hj : j < n) (hne : j ≠ e) {y : Int} (h1 : Cr P n y e) (h2 : Cr P n y j) : FF (lo P n e) (tp P n e) (lo P n j) (tp P n j) y ≠ 0 := by
  by_cases a1 : j = (e + 1) % n
  · subst a1
    exact tie_next hS he h1 h2
  · by_cases a2 : e = (j + 1) % n
    · subst a2
      rw [FF_anti]
      have := tie_next hS hj h2 h1
      omega
    · have hd := dj_orient (hS.dis e j he hj hne a1 a2) (decide ((P j).2 < (P ((j + 1) % n)).2)) (decide ((P e).2 < (P ((e + 1) % n)).2))
      simp only [decide_eq_true_eq] at hd
      unfold Cr at h1 h2
      exact sep_ne (a := lo P n j) (b := tp P n j) (A := lo P n e) (B := tp P n e) hd (by omega) (by omega) (by omega) (by omega) (by omega) (by omega)

theorem crs_nm {a b p : P2} : crs a b p = nm a b p.2 - dn a b * p.1 := by
  unfold crs cross nm dn
  grind

theorem sum_zero {f : Nat → Int} {n : Nat} (h : ∀ j, j < n → f j = 0) : ((List.range n).map f).sum = 0 := by
  have e : (List.range n).map f = (List.range n).map fun j => if j = n then (0 : Int) else 0 := List.map_congr_left fun j hj => by
    rw [h j (List.mem_range.1 hj)]
    split <;> rfl
  rw [e, sum_one]
  split <;> rfl

/-- At a height without corners. -/
theorem winds_sign (hS : Sim P n) {p : P2} (hf : Free P n p.2) : NN P n p = 0 ∨ (RR P n 0 = 0 ∧ 0 ≤ NN P n p ∧ NN P n p ≤ 1) ∨ (RR P n 0 = -1 ∧ -1 ≤ NN P n p ∧ NN P n p ≤ 0) := by
  obtain ⟨S, hSd⟩ : ∃ S, (List.range n).filter (fun j => decide (Cr P n p.2 j ∧ 0 < crs (lo P n j) (tp P n j) p)) = S := ⟨_, rfl⟩
  have memS : ∀ j, j ∈ S ↔ j < n ∧ Cr P n p.2 j ∧ 0 < crs (lo P n j) (tp P n j) p := fun j => by
    rw [← hSd, List.mem_filter, List.mem_range, decide_eq_true_eq]
  have hD : ∀ j, Cr P n p.2 j → 0 < dn (lo P n j) (tp P n j) := fun j h => by
    unfold Cr at h
    unfold dn
    omega
  by_cases hE : S = []
  · have : NN P n p = 0 := sum_zero fun j hj => by
      rw [cw_is hf hj, if_neg]
      intro h
      have := (memS j).2 ⟨hj, h⟩
      rw [hE] at this
      cases this
    exact .inl this
  obtain ⟨e, heS, hmin⟩ := min_frac (fun j => nm (lo P n j) (tp P n j) p.2) (fun j => dn (lo P n j) (tp P n j)) S hE (fun j hj => hD j ((memS j).1 hj).2.1)
  obtain ⟨he, hec, her⟩ := (memS e).1 heS
  obtain ⟨C, hCd⟩ : ∃ C, (List.range n).filter (fun j => decide (Cr P n p.2 j)) = C := ⟨_, rfl⟩
  have memC : ∀ j, j ∈ C ↔ j < n ∧ Cr P n p.2 j := fun j => by
    rw [← hCd, List.mem_filter, List.mem_range, decide_eq_true_eq]
  have heC : e ∈ C := (memC e).2 ⟨he, hec⟩
  obtain ⟨m, hmC, hmax⟩ := min_frac (fun j => - nm (lo P n j) (tp P n j) p.2) (fun j => dn (lo P n j) (tp P n j)) C (fun h => by rw [h] at heC; cases heC) (fun j hj => hD j ((memC j).1 hj).2)
  obtain ⟨hm, hmc⟩ := (memC m).1 hmC
  -- nothing lies to the right of m
  have M0 : MM P n (lo P n m) (tp P n m) p.2 = 0 := sum_zero fun j hj => by
    rw [ce_is hf hj, if_neg]
    rintro ⟨h1, h2⟩
    have := hmax j ((memC j).2 ⟨hj, h1⟩)
    unfold FF at h2
    rw [Int.neg_mul, Int.neg_mul] at this
    have e1 := Int.mul_comm (dn (lo P n m) (tp P n m)) (nm (lo P n j) (tp P n j) p.2)
    have e2 := Int.mul_comm (dn (lo P n j) (tp P n j)) (nm (lo P n m) (tp P n m) p.2)
    omega
  rw [MM_is hS hm hmc] at M0
  -- e is the nearest
  have W : NN P n p = dir P n e + MM P n (lo P n e) (tp P n e) p.2 := by
    have eq : NN P n p = ((List.range n).map fun j => (if j = e then dir P n e else 0) + ce (lo P n e) (tp P n e) p.2 (P j) (P ((j + 1) % n))).sum := by
      unfold NN
      congr 1
      refine List.map_congr_left fun j hj => ?_
      have hj := List.mem_range.1 hj
      rw [cw_is hf hj, ce_is hf hj]
      by_cases hje : j = e
      · subst hje
        rw [if_pos ⟨hec, her⟩, if_pos rfl, if_neg (by rw [FF_self]; omega)]
        omega
      · rw [if_neg hje]
        by_cases hjc : Cr P n p.2 j
        · have dj := hD j hjc
          have de := hD e hec
          have nt := no_tie hS he hj hje hec hjc
          have key : 0 < crs (lo P n j) (tp P n j) p ↔ 0 < FF (lo P n e) (tp P n e) (lo P n j) (tp P n j) p.2 := by
            constructor
            · intro h
              have := hmin j ((memS j).2 ⟨hj, hjc, h⟩)
              unfold FF at nt ⊢
              have e1 := Int.mul_comm (dn (lo P n e) (tp P n e)) (nm (lo P n j) (tp P n j) p.2)
              have e2 := Int.mul_comm (dn (lo P n j) (tp P n j)) (nm (lo P n e) (tp P n e) p.2)
              omega
            · intro h
              rw [crs_nm] at her ⊢
              unfold FF at h
              generalize nm (lo P n e) (tp P n e) p.2 = ne at *
              generalize nm (lo P n j) (tp P n j) p.2 = nj at *
              generalize dn (lo P n e) (tp P n e) = de' at *
              generalize dn (lo P n j) (tp P n j) = dj' at *
              have k1 := Int.mul_pos dj her
              have k2 : de' * (nj - dj' * p.1) = (de' * nj - dj' * ne) + dj' * (ne - de' * p.1) := by grind
              exact (pos_mul de).1 (by omega)
          by_cases hr : 0 < crs (lo P n j) (tp P n j) p
          · rw [if_pos ⟨hjc, hr⟩, if_pos ⟨hjc, key.1 hr⟩]
            omega
          · rw [if_neg (fun x => hr x.2), if_neg (fun x => hr (key.2 x.2))]
            rfl
        · rw [if_neg (fun x => hjc x.1), if_neg (fun x => hjc x.1)]
          rfl
    rw [eq, sum_add, sum_one, if_pos he]
    rfl
  rw [MM_is hS he hec] at W
  unfold dir at W
  split at W <;> split at M0 <;> omega

end

/-! ### points at the height of corners -/
def sc (p : P2) : P2 := (10000 * p.1, 10000 * p.2)

theorem sc_crs (a b c : P2) : crs (sc a) (sc b) (sc c) = 100000000 * crs a b c := by
  show cross (10000 * a.1) (10000 * a.2) (10000 * b.1) (10000 * b.2) (10000 * c.1) (10000 * c.2) = 100000000 * cross a.1 a.2 b.1 b.2 c.1 c.2
  unfold cross
  grind

theorem sc_lie {z a b : P2} : lieP (sc z) (sc a) (sc b) ↔ lieP z a b := by
  unfold lieP
  rw [sc_crs]
  show 100000000 * crs a b z = 0 ∧ min (10000 * a.1) (10000 * b.1) ≤ 10000 * z.1 ∧ 10000 * z.1 ≤ max (10000 * a.1) (10000 * b.1) ∧ min (10000 * a.2) (10000 * b.2) ≤ 10000 * z.2 ∧ 10000 * z.2 ≤ max (10000 * a.2) (10000 * b.2) ↔ _
  omega

theorem sc_dj {a b A B : P2} (h : Dj a b A B) : Dj (sc a) (sc b) (sc A) (sc B) where
  cr := by
    have := h.cr
    rw [sc_crs, sc_crs, sc_crs, sc_crs]
    omega
  la := fun x => h.la (sc_lie.1 x)
  lb := fun x => h.lb (sc_lie.1 x)
  lA := fun x => h.lA (sc_lie.1 x)
  lB := fun x => h.lB (sc_lie.1 x)

theorem sc_sim {P : Nat → P2} {n : Nat} (h : Sim P n) : Sim (fun j => sc (P j)) n where
  three := h.three
  dis i k hi hk h1 h2 h3 := sc_dj (h.dis i k hi hk h1 h2 h3)
  bend i hi := by
    have := h.bend i hi
    rw [sc_crs]
    omega

theorem sc_cw {a b p : P2} (hp : ¬ lieP p a b) (h1 : -10000 < b.1 - a.1) (h2 : b.1 - a.1 < 10000) : cw (sc a) (sc b) (10000 * p.1, 10000 * p.2 + 1) = cw a b p := by
  have e : crs (sc a) (sc b) (10000 * p.1, 10000 * p.2 + 1) = 10000 * (10000 * crs a b p + (b.1 - a.1)) := by
    show cross (10000 * a.1) (10000 * a.2) (10000 * b.1) (10000 * b.2) (10000 * p.1) (10000 * p.2 + 1) = 10000 * (10000 * cross a.1 a.2 b.1 b.2 p.1 p.2 + (b.1 - a.1))
    unfold cross
    grind
  have n1 : a.2 ≤ p.2 → p.2 < b.2 → crs a b p ≠ 0 := fun k1 k2 k3 => hp (lie_of (by omega) k3 k1 (by omega))
  have n2 : b.2 ≤ p.2 → p.2 < a.2 → crs a b p ≠ 0 := fun k1 k2 k3 => hp (lie_swap.1 (lie_of (by omega) (by rw [crs_swap]; omega) k1 (by omega)))
  unfold cw
  rw [e]
  show (if 10000 * a.2 ≤ 10000 * p.2 + 1 ∧ 10000 * p.2 + 1 < 10000 * b.2 ∧ 0 < 10000 * (10000 * crs a b p + (b.1 - a.1)) then (1 : Int) else if 10000 * b.2 ≤ 10000 * p.2 + 1 ∧ 10000 * p.2 + 1 < 10000 * a.2 ∧ 10000 * (10000 * crs a b p + (b.1 - a.1)) < 0 then -1 else 0) = _
  repeat' split
  all_goals omega

end Go.Proofs.Ytpknllbglppjcaa

/- Outlines and places (plain): winding and parity tell the same. -/
namespace Go.Proofs.Ytpknllbglppjcaa
open Go Go.RowKit Go.Proofs

theorem ons_lie {z a b : P2} : ons z a b = true ↔ lieP z a b := by
  unfold ons onSeg lieP crs
  simp only [Bool.and_eq_true, decide_eq_true_eq]

theorem scan_none (f0 f1 f2 f3 : Bool) (a b c d : P2) (h : val ([(f0, a.1, a.2), (f1, b.1, b.2), (f2, c.1, c.2), (f3, d.1, d.2)].foldl scanStep (some (0, 0, 0))) = 0) : f0 = false ∧ f1 = false ∧ f2 = false ∧ f3 = false := by
  revert h
  cases f0 <;> cases f1 <;> cases f2 <;> cases f3 <;> simp only [List.foldl, scanStep, val, if_true] <;> grind (splits := 30) [scanStep, val]

theorem opp_parted {a b c d : P2} (h : (0 < crs a b c ∧ crs a b d < 0) ∨ (crs a b c < 0 ∧ 0 < crs a b d)) : parted a.1 a.2 b.1 b.2 c.1 c.2 d.1 d.2 = true := by
  unfold parted Lib.compareInt
  change (0 < cross a.1 a.2 b.1 b.2 c.1 c.2 ∧ cross a.1 a.2 b.1 b.2 d.1 d.2 < 0) ∨ (cross a.1 a.2 b.1 b.2 c.1 c.2 < 0 ∧ 0 < cross a.1 a.2 b.1 b.2 d.1 d.2) at h
  rw [decide_eq_true_eq]
  generalize cross a.1 a.2 b.1 b.2 c.1 c.2 = u at *
  generalize cross a.1 a.2 b.1 b.2 d.1 d.2 = v at *
  rcases h with ⟨h1, h2⟩ | ⟨h1, h2⟩
  · rw [if_neg (by omega), if_pos h1, if_pos h2]
    decide
  · rw [if_pos h1, if_neg (by omega), if_pos h2]
    decide

theorem mts_dj {a b A B : P2} (h : mts A B a b = 0) : Dj a b A B := by
  unfold mts at h
  rw [meetS_val] at h
  by_cases hp : (parted A.1 A.2 B.1 B.2 a.1 a.2 b.1 b.2 && parted a.1 a.2 b.1 b.2 A.1 A.2 B.1 B.2) = true
  · rw [if_pos hp] at h
    cases h
  · rw [if_neg hp] at h
    obtain ⟨h1, h2, h3, h4⟩ := scan_none _ _ _ _ A B a b h
    refine ⟨?_, ?_, ?_, ?_, ?_⟩
    · rintro ⟨k1, k2⟩
      exact hp (by rw [opp_parted k2, opp_parted k1]; rfl)
    · intro x
      have := ons_lie.2 x
      unfold ons at this
      rw [h3] at this
      cases this
    · intro x
      have := ons_lie.2 x
      unfold ons at this
      rw [h4] at this
      cases this
    · intro x
      have := ons_lie.2 x
      unfold ons at this
      rw [h1] at this
      cases this
    · intro x
      have := ons_lie.2 x
      unfold ons at this
      rw [h2] at this
      cases this

abbrev gP (L : Pl) (j : Nat) : P2 := L.getD j (0, 0)

theorem out_sim {L : Pl} (h : vOut L = true) : Sim (gP L) L.length := by
  obtain ⟨h3, -, -, h1, -, -, h2⟩ := vOut_iff.1 h
  rw [simple_iff] at h2
  refine ⟨h3, fun i k hi hk q1 q2 q3 => ?_, fun i hi => ?_⟩
  · have := h2 i k hi hk (Ne.symm q1)
    rw [if_neg (fun x => x.elim q2 q3)] at this
    exact mts_dj this
  · have := h1 i hi
    unfold strK strB at this
    exact (beq_eq_false_iff_ne).1 this

/-- Does the point lie on the edge j? -/
def onB (L : Pl) (p : P2) (j : Nat) : Bool := ons p (gP L j) (gP L ((j + 1) % L.length))
/-- The edges to its right among some. -/
def sumW (L : Pl) (p : P2) (pre : List Nat) : Int := (pre.map fun j => cw (gP L j) (gP L ((j + 1) % L.length)) p).sum

theorem sumW_snoc (L : Pl) (p : P2) (pre : List Nat) (x : Nat) : sumW L p (pre ++ [x]) = sumW L p pre + cw (gP L x) (gP L ((x + 1) % L.length)) p := by simp [sumW]

theorem cw_bound (a b p : P2) : -1 ≤ cw a b p ∧ cw a b p ≤ 1 := by
  unfold cw
  repeat' split
  all_goals omega

theorem sumW_bound (L : Pl) (p : P2) : ∀ pre : List Nat, -(pre.length : Int) ≤ sumW L p pre ∧ sumW L p pre ≤ pre.length
  | [] => by simp [sumW]
  | x :: pre => by
    have ih := sumW_bound L p pre
    have hb := cw_bound (gP L x) (gP L ((x + 1) % L.length)) p
    have e : sumW L p (x :: pre) = cw (gP L x) (gP L ((x + 1) % L.length)) p + sumW L p pre := by simp [sumW]
    rw [e]
    simp only [List.length_cons]
    omega

/-- Where a point lies, by winding. -/
def plV (L : Pl) (p : P2) : Int := if (List.range L.length).any (onB L p) then 0 else if sumW L p (List.range L.length) = 0 then -1 else 1
theorem all_any {L : Pl} {p : P2} (h : ∀ j, j < L.length → onB L p j = false) : (List.range L.length).any (onB L p) = false := by
  rw [List.any_eq_false]
  intro j hj
  rw [h j (List.mem_range.1 hj)]
  simp

theorem some_any {L : Pl} {p : P2} {j : Nat} (hj : j < L.length) (h : onB L p j = true) : (List.range L.length).any (onB L p) = true :=
  List.any_eq_true.2 ⟨j, List.mem_range.2 hj, h⟩

end Go.Proofs.Ytpknllbglppjcaa
