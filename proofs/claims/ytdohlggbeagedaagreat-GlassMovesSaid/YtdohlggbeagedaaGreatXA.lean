/- Exact gauges, plain: what is congruent fits, and wider gauges hold where narrower ones do. -/
import Derived.Test.YtdohlggbeagedaaGreatLS
import Derived.Test.YtdohlggbeagedaaGreatT9
import Derived.Test.YtdohlggbeagedaaGreatLP
namespace Go.Proofs.YtdohlggbeagedaaGreat
open Go Go.RowKit Go.Proofs Go.Abs

/-- Corners and edges. -/
theorem layN_forth {n s i : Nat} (hs : s < n) (hi : i < n) : layN n s false i = fw n s i := by
  have h := layN_int (b := false) hs hi
  have e : layI s false n i = (fw n s i : Int) := by
    unfold layI Plain.ed fw
    simp only [Bool.false_eq_true, if_false]
    (repeat' split) <;> omega
  rw [e] at h
  exact Int.ofNat.inj h
theorem layN_back {n s i : Nat} (hs : s < n) (hi : i < n) : layN n s true i = fw n (kb n s i) 1 % n := by
  have h := layN_int (b := true) hs hi
  have e : layI s true n i = ((fw n (kb n s i) 1 % n : Nat) : Int) := by
    have h1 := kb_lt hs hi
    rw [show fw n (kb n s i) 1 % n = if kb n s i + 1 < n then kb n s i + 1 else 0 by
      unfold fw
      split
      · rw [Nat.mod_eq_of_lt (by omega)]
      · rw [show kb n s i + 1 - n = 0 by omega, Nat.zero_mod]]
    unfold layI Plain.ed kb
    simp only [if_true]
    (repeat' split) <;> omega
  rw [e] at h
  exact Int.ofNat.inj h

theorem layN_kb {n s i : Nat} (_h3 : 3 ≤ n) (hs : s < n) (hi : i < n) : layN n s true i = (kb n s i + 1) % n := by
  rw [layN_back hs hi]
  have h1 := kb_lt hs hi
  unfold fw
  split
  · rfl
  · rw [show kb n s i + 1 - n = 0 by omega, show kb n s i + 1 = n by omega, Nat.mod_self, Nat.zero_mod]
theorem fw_one {n s i : Nat} (h3 : 3 ≤ n) (hs : s < n) (hi : i < n) (c : Nat) (hc : c ≤ 2) : fw n s ((i + c) % n) = (fw n s i + c) % n := by
  have e : (i + c) % n = if i + c < n then i + c else i + c - n := by
    split
    · exact Nat.mod_eq_of_lt (by omega)
    · rw [Nat.mod_eq_sub_mod (by omega), Nat.mod_eq_of_lt (by omega)]
  have h1 := fw_lt hs hi
  have e2 : (fw n s i + c) % n = if fw n s i + c < n then fw n s i + c else fw n s i + c - n := by
    split
    · exact Nat.mod_eq_of_lt (by omega)
    · rw [Nat.mod_eq_sub_mod (by omega), Nat.mod_eq_of_lt (by omega)]
  rw [e, e2]
  unfold fw
  (repeat' split) <;> omega
theorem kb_one {n s i : Nat} (h3 : 3 ≤ n) (hs : s < n) (hi : i < n) : (kb n s ((i + 1) % n) + 1) % n = kb n s i := by
  have e : (i + 1) % n = if i + 1 < n then i + 1 else 0 := by
    split
    · exact Nat.mod_eq_of_lt (by omega)
    · rw [show i + 1 = n by omega, Nat.mod_self]
  have h1 := kb_lt hs hi
  have h2 : (i + 1) % n < n := Nat.mod_lt _ (by omega)
  have h4 := kb_lt hs h2
  have e2 : (kb n s ((i + 1) % n) + 1) % n = if kb n s ((i + 1) % n) + 1 < n then kb n s ((i + 1) % n) + 1 else 0 := by
    split
    · exact Nat.mod_eq_of_lt (by omega)
    · rw [show kb n s ((i + 1) % n) + 1 = n by omega, Nat.mod_self]
  rw [e2, e]
  unfold kb
  (repeat' split) <;> omega
theorem kb_two {n s i : Nat} (h3 : 3 ≤ n) (hs : s < n) (hi : i < n) : (kb n s ((i + 2) % n) + 1) % n = pr n (kb n s i) := by
  have h2 : (i + 1) % n < n := Nat.mod_lt _ (by omega)
  have e : (i + 2) % n = ((i + 1) % n + 1) % n := (mod_forth hi h3).symm
  rw [e, kb_one h3 hs h2]
  have e1 : (i + 1) % n = if i + 1 < n then i + 1 else 0 := by
    split
    · exact Nat.mod_eq_of_lt (by omega)
    · rw [show i + 1 = n by omega, Nat.mod_self]
  rw [e1]
  unfold kb pr
  (repeat' split) <;> omega

theorem sqK_comm (L : List (Int × Int)) (i j : Nat) : sqK L i j = sqK L j i := square_comm _ _ _ _

/-- The measures of the one are those of the other, as the setting lays it. -/
theorem cong_mea {P Q : List (Int × Int)} {s : Nat} {b : Bool} (h3 : 3 ≤ P.length) (hn : P.length = Q.length) (hs : s < P.length) (h : congS (px P) (py P) (px Q) (py Q) P.length s b = true) {i : Nat} (hi : i < P.length) :
    meA Q P.length s b i = m1 P i ∧ meB Q P.length s b i = m2 P i ∧ meC Q P.length s b i = m3 P i := by
  obtain ⟨hb, hq⟩ := cong_all h
  have i1 : (i + 1) % P.length < P.length := Nat.mod_lt _ (by omega)
  have i2 : (i + 2) % P.length < P.length := Nat.mod_lt _ (by omega)
  have q1 : sqK P i ((i + 1) % P.length) = sqK Q (layN P.length s b i) (layN P.length s b ((i + 1) % P.length)) := hq i _ hi i1
  have q2 : sqK P i ((i + 2) % P.length) = sqK Q (layN P.length s b i) (layN P.length s b ((i + 2) % P.length)) := hq i _ hi i2
  have q3 : bendS (px P) (py P) P.length ((i + 1) % P.length) = bendS (px Q) (py Q) P.length (layN P.length s b ((i + 1) % P.length)) := hb _ i1
  unfold meA meB meC m1 m2 m3
  rw [q1, q2, q3, ← hn]
  cases b
  · simp only [Bool.false_eq_true, if_false]
    rw [layN_forth hs hi, layN_forth hs i1, layN_forth hs i2, fw_one h3 hs hi 1 (by omega), fw_one h3 hs hi 2 (by omega)]
    exact ⟨rfl, rfl, rfl⟩
  · simp only [if_true]
    have k1 := kb_lt hs hi
    rw [layN_kb h3 hs hi, layN_kb h3 hs i1, layN_kb h3 hs i2, kb_one h3 hs hi, kb_two h3 hs hi]
    have e1 : (pr P.length (kb P.length s i) + 1) % P.length = kb P.length s i := by
      unfold pr
      split
      · rw [show P.length - 1 + 1 = P.length by omega, Nat.mod_self]; omega
      · rw [show kb P.length s i - 1 + 1 = kb P.length s i by omega, Nat.mod_eq_of_lt k1]
    have e2 : (pr P.length (kb P.length s i) + 2) % P.length = (kb P.length s i + 1) % P.length := by
      have := mod_forth (pr_lt k1) h3
      rw [e1] at this
      exact this.symm
    rw [e1, e2]
    exact ⟨sqK_comm _ _ _, sqK_comm _ _ _, rfl⟩

theorem gz_gaL {L : List (Int × Int)} {i : Nat} (hi : i < L.length) : gz (gaL L) i = gaF L i := by
  unfold gz gaL
  simp [List.getD_eq_getElem?_getD, hi]

/-- What is congruent fits. -/
theorem cong_fit {P Q : List (Int × Int)} {s : Nat} {b : Bool} (h3 : 3 ≤ P.length) (hn : P.length = Q.length) (hs : s < P.length) (h : congS (px P) (py P) (px Q) (py Q) P.length s b = true) : fitP (gaL P) Q Q.length s b = true := by
  rw [fit_eq _ _ _ (by omega)]
  unfold fitR
  rw [List.all_eq_true]
  intro i hi
  have hi' : i < P.length := by have := List.mem_range.1 hi; omega
  obtain ⟨e1, e2, e3⟩ := cong_mea h3 hn hs h hi'
  rw [← hn, gz_gaL hi', e1, e2, e3]
  unfold okM gaF wi
  simp

theorem sq_nn (a : Int) : 0 ≤ a * a := by
  rcases Int.le_total 0 a with h | h
  · exact Int.mul_nonneg h h
  · exact Int.mul_nonneg_of_nonpos_of_nonpos h h
theorem sq_zero {a : Int} (h : a * a = 0) : a = 0 := (Int.mul_eq_zero.1 h).elim (fun x => x) (fun x => x)
theorem straight_no {L : List (Int × Int)} (hv : vOut L = true) : ∀ x, x < L.length → strK (px L) (py L) L.length x = false := by
  unfold vOut at hv
  simp only [Bool.and_eq_true, decide_eq_true_eq] at hv
  exact firstS_neg.1 hv.2.2.2.1

/-- An outline's exact gauges are gauges. -/
theorem gaF_ok {L : List (Int × Int)} (hv : vOut L = true) {k : Nat} (hk : k < L.length) : (gaF L k).ok = true := by
  obtain ⟨h3, h24, hp⟩ := vOut_n hv
  have hval : ∀ j, j < L.length → (0 ≤ px L j ∧ px L j ≤ 4096) ∧ 0 ≤ py L j ∧ py L j ≤ 4096 := by
    intro j hj
    unfold vPts allValid at hp
    rw [List.all_eq_true] at hp
    have := hp j (List.mem_range.2 hj)
    unfold valid at this
    simp only [Bool.and_eq_true, decide_eq_true_eq] at this
    omega
  have hb : ∀ i j, i < L.length → j < L.length → 0 ≤ sqK L i j ∧ sqK L i j ≤ 33554432 := by
    intro i j hi hj
    have a := hval i hi
    have b := hval j hj
    unfold sqK square
    have e1 := mul_le (a := px L j - px L i) (b := px L j - px L i) (A := 4096) (B := 4096) (by omega) (by omega)
    have e2 := mul_le (a := py L j - py L i) (b := py L j - py L i) (A := 4096) (B := 4096) (by omega) (by omega)
    have p1 : 0 ≤ (px L j - px L i) * (px L j - px L i) := sq_nn _
    have p2 : 0 ≤ (py L j - py L i) * (py L j - py L i) := sq_nn _
    omega
  have k1 : (k + 1) % L.length < L.length := Nat.mod_lt _ (by omega)
  have k2 : (k + 2) % L.length < L.length := Nat.mod_lt _ (by omega)
  have hpos : 0 < m1 L k := by
    have h0 := (hb k _ hk k1).1
    by_cases e : m1 L k = 0
    · exfalso
      have hs := (straight_no hv) ((k + 1) % L.length) k1
      unfold m1 sqK square at e
      have p1 : 0 ≤ (px L ((k + 1) % L.length) - px L k) * (px L ((k + 1) % L.length) - px L k) := sq_nn _
      have p2 : 0 ≤ (py L ((k + 1) % L.length) - py L k) * (py L ((k + 1) % L.length) - py L k) := sq_nn _
      have x0 : px L ((k + 1) % L.length) - px L k = 0 := sq_zero (by omega)
      have y0 : py L ((k + 1) % L.length) - py L k = 0 := sq_zero (by omega)
      unfold strK strB cross at hs
      rw [mod_back hk h3] at hs
      rw [x0, y0] at hs
      simp at hs
    · unfold m1 at e ⊢
      omega
  have h1 := hb k _ hk k1
  have h2 := hb k _ hk k2
  have h5 : m3 L k = 1 ∨ m3 L k = -1 := by unfold m3 bendS; split <;> simp
  unfold G5.ok vG gaF wi
  simp only [Bool.and_eq_true, decide_eq_true_eq]
  unfold m1 at hpos ⊢
  unfold m2
  omega

theorem gaL_len (L : List (Int × Int)) : (gaL L).length = L.length := by simp [gaL]

theorem gaL_ok {L : List (Int × Int)} (hv : vOut L = true) : vGs (gaL L) = true := by
  obtain ⟨h3, h24, -⟩ := vOut_n hv
  unfold vGs badG
  rw [Bool.and_eq_true, gaL_len]
  refine ⟨by unfold wi; simp; omega, ?_⟩
  rw [Bool.not_eq_true', List.any_eq_false]
  intro k hk
  rw [gz_gaL (List.mem_range.1 hk), gaF_ok hv (List.mem_range.1 hk)]
  simp

/-- Wider gauges. -/
theorem wG_ok {g : G5} (h : g.ok = true) {y : Int} (hy : 0 ≤ y) : (wG y g).ok = true := by
  unfold G5.ok vG wi at h ⊢
  unfold wG wLo wHi
  simp only [Bool.and_eq_true, decide_eq_true_eq] at h ⊢
  omega

theorem vGs_all {G : List G5} (h : vGs G = true) : (3 ≤ G.length ∧ G.length ≤ 24) ∧ ∀ k, k < G.length → (gz G k).ok = true := by
  unfold vGs at h
  rw [Bool.and_eq_true] at h
  have h3 : badG G = false := by simpa using h.2
  have h1 := h.1
  unfold wi at h1
  simp at h1
  unfold badG at h3
  rw [List.any_eq_false] at h3
  exact ⟨by omega, fun k hk => by simpa using h3 k (List.mem_range.2 hk)⟩

theorem vGs_mk {G : List G5} (h1 : 3 ≤ G.length ∧ G.length ≤ 24) (h2 : ∀ k, k < G.length → (gz G k).ok = true) : vGs G = true := by
  unfold vGs badG wi
  simp only [Bool.and_eq_true, decide_eq_true_eq, Bool.not_eq_true', List.any_eq_false]
  exact ⟨by omega, fun k hk => by simp [h2 k (List.mem_range.1 hk)]⟩

theorem wide_ok {G : List G5} (h : vGs G = true) {y : Int} (hy : 0 ≤ y) : vGs (G.map (wG y)) = true := by
  obtain ⟨h1, h2⟩ := vGs_all h
  refine vGs_mk (by simpa using h1) (fun k hk => ?_)
  have hk' : k < G.length := by simpa using hk
  rw [gz_map G _ hk']
  exact wG_ok (h2 k hk') hy

theorem wide_wide {G : List G5} {a b : Int} (_ha : 0 ≤ a) (hb : 0 ≤ b) : (G.map (wG a)).map (wG b) = G.map (wG (a + b)) := by
  rw [List.map_map]
  congr 1
  funext g
  show wG b (wG a g) = wG (a + b) g
  unfold wG wLo wHi
  simp only [G5.mk.injEq, and_true]
  omega

theorem wide_okM {g : G5} {y u v x : Int} (hy : 0 ≤ y) (hg : 0 < g.a ∧ 0 ≤ g.c ∧ g.b ≤ 33554432 ∧ g.d ≤ 33554432) (h : okM g u v x = true) : okM (wG y g) u v x = true := by
  unfold okM wi at h ⊢
  unfold wG wLo wHi
  simp only [Bool.and_eq_true, Bool.or_eq_true, decide_eq_true_eq] at h ⊢
  omega

theorem ok_sides {g : G5} (h : g.ok = true) : 0 < g.a ∧ 0 ≤ g.c ∧ g.b ≤ 33554432 ∧ g.d ≤ 33554432 := by
  unfold G5.ok vG at h
  simp only [Bool.and_eq_true, decide_eq_true_eq] at h
  omega

/-- What fits, fits with wider gauges. -/
theorem wide_fit {G : List G5} {L : List (Int × Int)} {s : Nat} {b : Bool} {y : Int} (hg : vGs G = true) (hn : G.length = L.length) (hs : s < L.length) (hy : 0 ≤ y) (h : fitP G L L.length s b = true) : fitP (G.map (wG y)) L L.length s b = true := by
  obtain ⟨-, h2⟩ := vGs_all hg
  rw [fit_eq _ _ _ hs] at h ⊢
  unfold fitR at h ⊢
  rw [List.all_eq_true] at h ⊢
  intro i hi
  have hi' : i < G.length := by have := List.mem_range.1 hi; omega
  rw [gz_map G _ hi']
  exact wide_okM hy (ok_sides (h2 i hi')) (h i hi)

end Go.Proofs.YtdohlggbeagedaaGreat
