/- The abstract machine, part JD. -/
import Derived.Test.YtlocdadkhdcedaaJA
import Derived.Test.YtlocdadkhdcedaaMA
import Derived.Test.YtlocdadkhdcedaaJB
import Derived.Test.YtlocdadkhdcedaaZO
import Derived.Test.YtlocdadkhdcedaaXD
import Derived.Test.YtlocdadkhdcedaaXE
/- Leaving straight corners out of a closed polygon, in any order: what is left is one, but for where it begins (plain). -/
namespace Go.Proofs.Ytlocdadkhdcedaa
open Go Go.RowKit Go.Proofs

/-- How a corner turns. -/
def sx (L : Pl) (k : Nat) : Int := crs (L.getD ((k + L.length - 1) % L.length) (0, 0)) (L.getD k (0, 0)) (L.getD ((k + 1) % L.length) (0, 0))

theorem strL_sx (L : Pl) (k : Nat) : strL L k = true ↔ sx L k = 0 := by
  unfold strL strK strB
  exact beq_iff_eq

theorem er_get {L : Pl} {k j : Nat} : (L.eraseIdx k).getD j (0, 0) = L.getD (if j < k then j else j + 1) (0, 0) := by
  rw [List.getD_eq_getElem?_getD, List.getD_eq_getElem?_getD, List.getElem?_eraseIdx]
  split <;> rfl

theorem er_len {L : Pl} {k : Nat} (hk : k < L.length) : (L.eraseIdx k).length = L.length - 1 := List.length_eraseIdx_of_lt hk

/-- The same list, begun elsewhere. -/
structure Rot (A B : Pl) : Prop where
  len : B.length = A.length
  ex : ∃ a, (a = 0 ∨ a < A.length) ∧ ∀ j, j < A.length → B.getD j (0, 0) = A.getD ((j + a) % A.length) (0, 0)

theorem Rot.refl (A : Pl) : Rot A A := ⟨rfl, 0, .inl rfl, fun j hj => by rw [Nat.add_zero, Nat.mod_eq_of_lt hj]⟩

theorem Rot.of {A B : Pl} (hl : B.length = A.length) (a : Nat) (h : ∀ j, j < A.length → B.getD j (0, 0) = A.getD ((j + a) % A.length) (0, 0)) : Rot A B := by
  rcases Nat.eq_zero_or_pos A.length with h0 | h0
  · exact ⟨hl, 0, .inl rfl, fun j hj => by omega⟩
  · exact ⟨hl, a % A.length, .inr (Nat.mod_lt _ h0), fun j hj => by rw [h j hj, Nat.add_mod_mod]⟩

theorem Rot.trans {A B C : Pl} (h : Rot A B) (k : Rot B C) : Rot A C := by
  obtain ⟨hl, a, -, ha⟩ := h
  obtain ⟨kl, b, -, hb⟩ := k
  refine Rot.of (kl.trans hl) (a + b) fun j hj => ?_
  rw [hb j (by omega), hl, ha _ (Nat.mod_lt _ (by omega)), Nat.mod_add_mod]
  congr 2
  omega

theorem Rot.symm {A B : Pl} (h : Rot A B) : Rot B A := by
  obtain ⟨hl, a, ha0, ha⟩ := h
  refine Rot.of hl.symm (A.length - a) fun j hj => ?_
  rw [hl] at hj ⊢
  rw [ha _ (Nat.mod_lt _ (by omega)), Nat.mod_add_mod, show j + (A.length - a) + a = j + A.length by omega, Nat.add_mod_right, Nat.mod_eq_of_lt hj]

theorem Rot.sx {A B : Pl} (h : Rot A B) : ∃ a, (a = 0 ∨ a < A.length) ∧ (∀ j, j < A.length → B.getD j (0, 0) = A.getD ((j + a) % A.length) (0, 0)) ∧ ∀ k, k < A.length → sx B k = sx A ((k + a) % A.length) := by
  obtain ⟨hl, a, ha0, ha⟩ := h
  refine ⟨a, ha0, ha, fun k hk => ?_⟩
  unfold Go.Proofs.Ytlocdadkhdcedaa.sx
  rw [hl, ha _ (Nat.mod_lt _ (by omega)), ha k hk, ha _ (Nat.mod_lt _ (by omega))]
  have e1 : ((k + A.length - 1) % A.length + a) % A.length = ((k + a) % A.length + A.length - 1) % A.length := by
    rw [Nat.mod_add_mod, show (k + a) % A.length + A.length - 1 = (k + a) % A.length + (A.length - 1) by omega, Nat.mod_add_mod]
    congr 1
    omega
  have e2 : ((k + 1) % A.length + a) % A.length = ((k + a) % A.length + 1) % A.length := by
    rw [Nat.mod_add_mod, Nat.mod_add_mod]
    congr 1
    omega
  rw [e1, e2]

/-- Leaving out a corner of the turned list is leaving out one of the list. -/
theorem Rot.step {A B : Pl} (h : Rot A B) {k : Nat} (hk : k < B.length) (hs : Go.Proofs.Ytlocdadkhdcedaa.sx B k = 0) : ∃ k', k' < A.length ∧ Go.Proofs.Ytlocdadkhdcedaa.sx A k' = 0 ∧ Rot (A.eraseIdx k') (B.eraseIdx k) := by
  obtain ⟨a, ha0, ha, hsx⟩ := h.sx
  have hl := h.len
  rw [hl] at hk
  have hm : (k + a) % A.length < A.length := Nat.mod_lt _ (by omega)
  refine ⟨(k + a) % A.length, hm, by rw [← hsx k hk]; exact hs, Rot.of (by rw [er_len hm, er_len (by omega), hl]) (if k + a < A.length then a else a - 1) fun j hj => ?_⟩
  rw [er_len hm] at hj ⊢
  rw [er_get, er_get, ha _ (by split <;> omega)]
  congr 1
  rcases ha0 with rfl | ha1
  · have e0 : (if k + 0 < A.length then 0 else 0 - 1) = 0 := by split <;> rfl
    rw [e0]
    simp only [Nat.add_zero]
    rw [Nat.mod_eq_of_lt hk, Nat.mod_eq_of_lt hj, Nat.mod_eq_of_lt (by split <;> omega)]
  · rw [mod2 (a := k + a) (by omega)]
    by_cases c : k + a < A.length
    · rw [if_pos c, if_pos c, mod2 (a := j + a) (by omega), mod2 (n := A.length) (by split <;> omega)]
      repeat' split
      all_goals omega
    · rw [if_neg c, if_neg c, mod2 (a := j + (a - 1)) (by omega), mod2 (n := A.length) (by split <;> omega)]
      repeat' split
      all_goals omega

/-- A straight corner is left out. -/
def Stp (L M : Pl) : Prop := ∃ k, k < L.length ∧ sx L k = 0 ∧ M = L.eraseIdx k

theorem Rot.stp {A B B' : Pl} (h : Rot A B) (s : Stp B B') : ∃ A', Stp A A' ∧ Rot A' B' := by
  obtain ⟨k, hk, hs, rfl⟩ := s
  obtain ⟨k', h1, h2, h3⟩ := h.step hk hs
  exact ⟨_, ⟨k', h1, h2, rfl⟩, h3⟩

inductive Red : Pl → Pl → Prop
  | refl (L : Pl) : Red L L
  | step {L M N : Pl} (s : Stp L M) (r : Red M N) : Red L N

theorem Red.trans {L M N : Pl} (h : Red L M) (k : Red M N) : Red L N := by
  induction h with
  | refl => exact k
  | step s _ ih => exact .step s (ih k)

theorem Red.rot {B B' : Pl} (r : Red B B') : ∀ {A : Pl}, Rot A B → ∃ A', Red A A' ∧ Rot A' B' := by
  induction r with
  | refl L => exact fun h => ⟨_, .refl _, h⟩
  | step s _ ih =>
    intro A h
    obtain ⟨A1, s1, h1⟩ := h.stp s
    obtain ⟨A2, r2, h2⟩ := ih h1
    exact ⟨A2, .step s1 r2, h2⟩

/-- No corner is straight. -/
def Nrm (L : Pl) : Prop := ∀ k, k < L.length → sx L k ≠ 0

theorem Rot.nrm {A B : Pl} (h : Rot A B) (hA : Nrm A) : Nrm B := by
  intro k hk
  obtain ⟨a, _, _, hs⟩ := h.sx
  rw [h.len] at hk
  rw [hs k hk]
  exact hA _ (Nat.mod_lt _ (by omega))

theorem Stp.len {L M : Pl} (s : Stp L M) : M.length + 1 = L.length := by
  obtain ⟨k, hk, -, rfl⟩ := s
  rw [er_len hk]
  omega

/-- Every list comes to one without straight corners. -/
theorem to_nrm : ∀ (n : Nat) (L : Pl), L.length = n → ∃ N, Red L N ∧ Nrm N
  | n, L, hn => by
    by_cases h : ∃ k, k < L.length ∧ sx L k = 0
    · obtain ⟨k, hk, hs⟩ := h
      have hl := er_len hk
      obtain ⟨N, r, hN⟩ := to_nrm (n - 1) (L.eraseIdx k) (by omega)
      exact ⟨N, .step ⟨k, hk, hs, rfl⟩ r, hN⟩
    · exact ⟨L, .refl L, fun k hk hs => h ⟨k, hk, hs⟩⟩
  termination_by n => n
  decreasing_by omega

/-- Four points on one line. -/
theorem on_line {a p q b : P2} (h1 : crs a p q = 0) (h2 : crs p q b = 0) (hne : p ≠ q) : crs a p b = 0 ∧ crs a q b = 0 := by
  obtain ⟨a1, a2⟩ := a
  obtain ⟨p1, p2⟩ := p
  obtain ⟨q1, q2⟩ := q
  obtain ⟨b1, b2⟩ := b
  unfold crs cross at *
  simp only at *
  have hd : q1 - p1 ≠ 0 ∨ q2 - p2 ≠ 0 := by
    rcases Classical.em (q1 - p1 = 0) with e | e
    · rcases Classical.em (q2 - p2 = 0) with f | f
      · exfalso
        exact hne (by rw [show p1 = q1 by omega, show p2 = q2 by omega])
      · exact .inr f
    · exact .inl e
  have k1 : (q1 - p1) * ((p1 - a1) * (b2 - a2) - (p2 - a2) * (b1 - a1)) = 0 := by grind
  have k2 : (q2 - p2) * ((p1 - a1) * (b2 - a2) - (p2 - a2) * (b1 - a1)) = 0 := by grind
  have z : (p1 - a1) * (b2 - a2) - (p2 - a2) * (b1 - a1) = 0 := by
    rcases hd with e | e
    · exact (Int.mul_eq_zero.1 k1).resolve_left e
    · exact (Int.mul_eq_zero.1 k2).resolve_left e
  exact ⟨z, by grind⟩

theorem er_comm {L : Pl} {i j : Nat} (hij : i < j) (hj : j < L.length) : (L.eraseIdx i).eraseIdx (j - 1) = (L.eraseIdx j).eraseIdx i := by
  have l1 := er_len (L := L) (k := i) (by omega)
  have l2 := er_len (L := L) (k := j) hj
  have l3 := er_len (L := L.eraseIdx i) (k := j - 1) (by omega)
  have l4 := er_len (L := L.eraseIdx j) (k := i) (by omega)
  refine ext_getD (by omega) fun t ht => ?_
  rw [er_get, er_get, er_get, er_get]
  congr 1
  repeat' split
  all_goals omega

theorem same_er {L : Pl} {i : Nat} (hi : i + 1 < L.length) (h : L.getD i (0, 0) = L.getD (i + 1) (0, 0)) : L.eraseIdx i = L.eraseIdx (i + 1) := by
  have l1 := er_len (L := L) (k := i) (by omega)
  have l2 := er_len (L := L) (k := i + 1) (by omega)
  refine ext_getD (by omega) fun t ht => ?_
  rw [er_get, er_get]
  by_cases c : t = i
  · subst c
    rw [if_neg (by omega), if_pos (by omega), h]
  · congr 1
    repeat' split
    all_goals omega

/-- Two straight corners are left out in either order, or it is one which of them is. -/
theorem two_er {L : Pl} {i j : Nat} (hij : i < j) (hj : j < L.length) (si : sx L i = 0) (sj : sx L j = 0) :
    Rot (L.eraseIdx i) (L.eraseIdx j) ∨ (sx (L.eraseIdx i) (j - 1) = 0 ∧ sx (L.eraseIdx j) i = 0) := by
  have l1 := er_len (L := L) (k := i) (by omega)
  have l2 := er_len (L := L) (k := j) hj
  rcases Nat.lt_or_ge 2 L.length with h3 | h2
  · by_cases heq : L.getD i (0, 0) = L.getD j (0, 0) ∧ (j = i + 1 ∨ (i = 0 ∧ j = L.length - 1))
    · obtain ⟨e, rfl | ⟨rfl, rfl⟩⟩ := heq
      · rw [same_er hj e]
        exact .inl (Rot.refl _)
      · refine .inl (Rot.of (by omega) (L.length - 2) fun t ht => ?_)
        by_cases c : t = 0
        · subst c
          rw [er_get, er_get, l1, show 0 + (L.length - 2) = L.length - 2 from Nat.zero_add _, Nat.mod_eq_of_lt (show L.length - 2 < L.length - 1 by omega), if_pos (show 0 < L.length - 1 by omega), if_neg (show ¬ L.length - 2 < 0 by omega), e]
          congr 1
          omega
        · rw [er_get, er_get, l1, mod2 (by omega)]
          congr 1
          repeat' split
          all_goals omega
    · right
      unfold sx at si sj ⊢
      rw [l1, l2]
      simp only [er_get]
      -- the places in the list
      have p1 : (if (j - 1 + (L.length - 1) - 1) % (L.length - 1) < i then (j - 1 + (L.length - 1) - 1) % (L.length - 1) else (j - 1 + (L.length - 1) - 1) % (L.length - 1) + 1) = if j = i + 1 then (i + L.length - 1) % L.length else (j + L.length - 1) % L.length := by
        rw [mod2 (a := j - 1 + (L.length - 1) - 1) (by omega), mod2 (a := i + L.length - 1) (by omega), mod2 (a := j + L.length - 1) (by omega)]
        repeat' split
        all_goals omega
      have p2 : (if j - 1 < i then j - 1 else j - 1 + 1) = j := by split <;> omega
      have p3 : (if (j - 1 + 1) % (L.length - 1) < i then (j - 1 + 1) % (L.length - 1) else (j - 1 + 1) % (L.length - 1) + 1) = if i = 0 ∧ j = L.length - 1 then (i + 1) % L.length else (j + 1) % L.length := by
        rw [mod2 (a := j - 1 + 1) (by omega), mod2 (a := i + 1) (by omega), mod2 (a := j + 1) (by omega)]
        repeat' split
        all_goals omega
      have q1 : (if (i + (L.length - 1) - 1) % (L.length - 1) < j then (i + (L.length - 1) - 1) % (L.length - 1) else (i + (L.length - 1) - 1) % (L.length - 1) + 1) = if i = 0 ∧ j = L.length - 1 then (j + L.length - 1) % L.length else (i + L.length - 1) % L.length := by
        rw [mod2 (a := i + (L.length - 1) - 1) (by omega), mod2 (a := i + L.length - 1) (by omega), mod2 (a := j + L.length - 1) (by omega)]
        repeat' split
        all_goals omega
      have q2 : (if i < j then i else i + 1) = i := if_pos hij
      have q3 : (if (i + 1) % (L.length - 1) < j then (i + 1) % (L.length - 1) else (i + 1) % (L.length - 1) + 1) = if j = i + 1 then (j + 1) % L.length else (i + 1) % L.length := by
        rw [mod2 (a := i + 1) (by omega), mod2 (a := j + 1) (by omega), mod2 (a := i + 1) (by omega)]
        repeat' split
        all_goals omega
      rw [p1, p2, p3, q1, q2, q3]
      by_cases c1 : j = i + 1
      · have hne : L.getD i (0, 0) ≠ L.getD j (0, 0) := fun e => heq ⟨e, .inl c1⟩
        have m1 : (i + 1) % L.length = j := by rw [Nat.mod_eq_of_lt (by omega)]; exact c1.symm
        have m2 : (j + L.length - 1) % L.length = i := by rw [mod2 (by omega)]; split <;> omega
        rw [m1] at si
        rw [m2] at sj
        have := on_line si sj hne
        rw [if_pos c1, if_pos c1, if_neg (by omega), if_neg (by omega)]
        exact ⟨this.2, this.1⟩
      · by_cases c2 : i = 0 ∧ j = L.length - 1
        · have hne : L.getD j (0, 0) ≠ L.getD i (0, 0) := fun e => heq ⟨e.symm, .inr c2⟩
          have m1 : (j + 1) % L.length = i := by rw [show j + 1 = L.length by omega, Nat.mod_self]; omega
          have m2 : (i + L.length - 1) % L.length = j := by rw [mod2 (by omega)]; split <;> omega
          rw [m1] at sj
          rw [m2] at si
          have := on_line sj si hne
          rw [if_neg c1, if_neg c1, if_pos c2, if_pos c2]
          exact ⟨this.1, this.2⟩
        · rw [if_neg c1, if_neg c1, if_neg c2, if_neg c2]
          exact ⟨sj, si⟩
  · right
    obtain rfl : i = 0 := by omega
    obtain rfl : j = 1 := by omega
    have hl : L.length = 2 := by omega
    have e1 : (L.eraseIdx 0).length = 1 := by omega
    have e2 : (L.eraseIdx 1).length = 1 := by omega
    unfold sx
    rw [e1, e2]
    exact ⟨crs_aba _ _, crs_aba _ _⟩

theorem stp_two {L A B : Pl} (h : Stp L A) (k : Stp L B) : Rot A B ∨ ∃ M, Stp A M ∧ Stp B M := by
  obtain ⟨i, hi, si, rfl⟩ := h
  obtain ⟨j, hj, sj, rfl⟩ := k
  have li := er_len hi
  have lj := er_len hj
  rcases Nat.lt_trichotomy i j with c | rfl | c
  · rcases two_er c hj si sj with r | ⟨r1, r2⟩
    · exact .inl r
    · exact .inr ⟨_, ⟨j - 1, by omega, r1, rfl⟩, ⟨i, by omega, r2, er_comm c hj⟩⟩
  · exact .inl (Rot.refl _)
  · rcases two_er c hi sj si with r | ⟨r1, r2⟩
    · exact .inl r.symm
    · exact .inr ⟨_, ⟨j, by omega, r2, er_comm c hi⟩, ⟨i - 1, by omega, r1, rfl⟩⟩

/-- What is left is one, but for where it begins. -/
theorem nrm_one : ∀ (n : Nat) {L A B : Pl}, L.length = n → Red L A → Nrm A → Red L B → Nrm B → Rot A B
  | n, L, A, B, hn, rA, nA, rB, nB => by
    cases rA with
    | refl =>
      cases rB with
      | refl => exact Rot.refl _
      | step s _ =>
        obtain ⟨k, hk, hs, -⟩ := s
        exact absurd hs (nA k hk)
    | step s r =>
      rename_i L1
      cases rB with
      | refl =>
        obtain ⟨k, hk, hs, -⟩ := s
        exact absurd hs (nB k hk)
      | step s' r' =>
        rename_i L2
        have h1 := s.len
        have h2 := s'.len
        rcases stp_two s s' with hr | ⟨M, m1, m2⟩
        · obtain ⟨B', rB', hB'⟩ := r'.rot hr
          exact (nrm_one (n - 1) (by omega) r nA rB' (hB'.symm.nrm nB)).trans hB'
        · obtain ⟨N, rN, nN⟩ := to_nrm _ M rfl
          exact (nrm_one (n - 1) (by omega) r nA (.step m1 rN) nN).trans (nrm_one (n - 1) (by omega) (.step m2 rN) nN r' nB)
  termination_by n => n
  decreasing_by all_goals omega

end Go.Proofs.Ytlocdadkhdcedaa

/- The area of a closed polygon whose edges meet only where they follow one another is not 0 (plain). -/
namespace Go.Proofs.Ytlocdadkhdcedaa
open Go Go.RowKit Go.Proofs

/-! ### stretched -/
def mp (K : Int) (p : P2) : P2 := (K * p.1, 2 * p.2)

theorem mp_crs (K : Int) (a b c : P2) : crs (mp K a) (mp K b) (mp K c) = (2 * K) * crs a b c := by
  show cross (K * a.1) (2 * a.2) (K * b.1) (2 * b.2) (K * c.1) (2 * c.2) = (2 * K) * cross a.1 a.2 b.1 b.2 c.1 c.2
  unfold cross
  grind

theorem lie_alt {z a b : P2} : lieP z a b ↔ crs a b z = 0 ∧ (a.1 ≤ z.1 ∨ b.1 ≤ z.1) ∧ (z.1 ≤ a.1 ∨ z.1 ≤ b.1) ∧ (a.2 ≤ z.2 ∨ b.2 ≤ z.2) ∧ (z.2 ≤ a.2 ∨ z.2 ≤ b.2) := by
  unfold lieP
  omega

theorem mp_lie {K : Int} (hK : 0 < K) {z a b : P2} : lieP (mp K z) (mp K a) (mp K b) ↔ lieP z a b := by
  rw [lie_alt, lie_alt, mp_crs, zero_mul' (show 0 < 2 * K by omega)]
  have h : ∀ u v : Int, K * u ≤ K * v ↔ u ≤ v := fun u v => ⟨fun h => Int.le_of_mul_le_mul_left h hK, fun h => Int.mul_le_mul_of_nonneg_left h (by omega)⟩
  show _ ∧ (K * a.1 ≤ K * z.1 ∨ K * b.1 ≤ K * z.1) ∧ (K * z.1 ≤ K * a.1 ∨ K * z.1 ≤ K * b.1) ∧ (2 * a.2 ≤ 2 * z.2 ∨ 2 * b.2 ≤ 2 * z.2) ∧ (2 * z.2 ≤ 2 * a.2 ∨ 2 * z.2 ≤ 2 * b.2) ↔ _
  rw [h, h, h, h]
  omega

theorem mp_dj {K : Int} (hK : 0 < K) {a b A B : P2} (h : Dj a b A B) : Dj (mp K a) (mp K b) (mp K A) (mp K B) where
  cr := by
    have := h.cr
    have k : 0 < 2 * K := by omega
    rw [mp_crs, mp_crs, mp_crs, mp_crs, pos_mul k, pos_mul k, pos_mul k, pos_mul k, neg_mul' k, neg_mul' k, neg_mul' k, neg_mul' k]
    exact this
  la := fun x => h.la ((mp_lie hK).1 x)
  lb := fun x => h.lb ((mp_lie hK).1 x)
  lA := fun x => h.lA ((mp_lie hK).1 x)
  lB := fun x => h.lB ((mp_lie hK).1 x)

theorem mp_sim {K : Int} (hK : 0 < K) {P : Nat → P2} {n : Nat} (h : Sim P n) : Sim (fun j => mp K (P j)) n where
  three := h.three
  dis i k hi hk h1 h2 h3 := mp_dj hK (h.dis i k hi hk h1 h2 h3)
  bend i hi := by
    have := h.bend i hi
    rw [mp_crs]
    intro e
    exact this ((zero_mul' (show 0 < 2 * K by omega)).1 e)

/-! ### sums -/
theorem sum_swap (f : Nat → Nat → Int) (m : Nat) : ∀ n, ((List.range n).map fun i => ((List.range m).map fun j => f i j).sum).sum = ((List.range m).map fun j => ((List.range n).map fun i => f i j).sum).sum
  | 0 => (sum_zero (f := fun j => ((List.range 0).map fun i => f i j).sum) (n := m) (fun _ _ => rfl)).symm
  | n + 1 => by
    have e : ((List.range m).map fun j => ((List.range (n + 1)).map fun i => f i j).sum).sum = ((List.range m).map fun j => ((List.range n).map fun i => f i j).sum + f n j).sum := by
      congr 1
      refine List.map_congr_left fun j _ => ?_
      rw [List.range_succ, List.map_append, List.sum_append]
      simp
    rw [e, sum_add, ← sum_swap f m n, List.range_succ, List.map_append, List.sum_append]
    simp

theorem sum_below (d X : Int) : ∀ N : Nat, 0 ≤ X → ((List.range N).map fun x : Nat => if (x : Int) < X then d else 0).sum = d * (if (N : Int) ≤ X then (N : Int) else X)
  | 0, h => by rw [if_pos (by omega)]; simp
  | N + 1, h => by
    rw [List.range_succ, List.map_append, List.sum_append, sum_below d X N h]
    simp only [List.map_cons, List.map_nil, List.sum_cons, List.sum_nil, Int.add_zero]
    by_cases c1 : (N : Int) < X
    · rw [if_pos (by omega), if_pos c1, if_pos (by omega)]
      push_cast
      rw [Int.mul_add, Int.mul_one]
    · rw [if_neg c1, Int.add_zero]
      by_cases c2 : (N : Int) ≤ X
      · rw [if_pos c2, if_neg (by omega), show (N : Int) = X by omega]
      · rw [if_neg c2, if_neg (by omega)]

theorem sum_strip (E A B L T : Int) (h0 : 0 ≤ L) (h1 : L ≤ T) : ∀ N : Nat, ((List.range N).map fun h : Nat => if L ≤ (h : Int) ∧ (h : Int) < T then E * (A * (2 * T - (2 * (h : Int) + 1)) + B * ((2 * (h : Int) + 1) - 2 * L)) else 0).sum =
    E * (A * (2 * (T - L) * (if (N : Int) ≤ L then 0 else if (N : Int) ≤ T then N - L else T - L) - (if (N : Int) ≤ L then 0 else if (N : Int) ≤ T then N - L else T - L) * (if (N : Int) ≤ L then 0 else if (N : Int) ≤ T then N - L else T - L)) +
      B * ((if (N : Int) ≤ L then 0 else if (N : Int) ≤ T then N - L else T - L) * (if (N : Int) ≤ L then 0 else if (N : Int) ≤ T then N - L else T - L)))
  | 0 => by
    rw [if_pos (show ((0 : Nat) : Int) ≤ L by simpa using h0)]
    simp
  | N + 1 => by
    rw [List.range_succ, List.map_append, List.sum_append, sum_strip E A B L T h0 h1 N]
    simp only [List.map_cons, List.map_nil, List.sum_cons, List.sum_nil, Int.add_zero]
    by_cases c1 : (N : Int) < L
    · rw [if_pos (show (N : Int) ≤ L by omega), if_pos (show ((N + 1 : Nat) : Int) ≤ L by omega), if_neg (by omega)]
      simp
    · by_cases c2 : (N : Int) < T
      · have e1 : (if (N : Int) ≤ L then 0 else if (N : Int) ≤ T then (N : Int) - L else T - L) = N - L := by split <;> (try split) <;> omega
        have e2 : (if ((N + 1 : Nat) : Int) ≤ L then 0 else if ((N + 1 : Nat) : Int) ≤ T then ((N + 1 : Nat) : Int) - L else T - L) = N - L + 1 := by split <;> (try split) <;> omega
        rw [e1, e2, if_pos ⟨by omega, c2⟩]
        generalize (N : Int) = M
        grind
      · have e1 : (if (N : Int) ≤ L then 0 else if (N : Int) ≤ T then (N : Int) - L else T - L) = T - L := by split <;> (try split) <;> omega
        have e2 : (if ((N + 1 : Nat) : Int) ≤ L then 0 else if ((N + 1 : Nat) : Int) ≤ T then ((N + 1 : Nat) : Int) - L else T - L) = T - L := by split <;> (try split) <;> omega
        rw [e1, e2, if_neg (by omega), Int.add_zero]

theorem sum_strip_all {E A B L T : Int} (h0 : 0 ≤ L) (h1 : L ≤ T) {N : Nat} (h2 : T ≤ N) : ((List.range N).map fun h : Nat => if L ≤ (h : Int) ∧ (h : Int) < T then E * (A * (2 * T - (2 * (h : Int) + 1)) + B * ((2 * (h : Int) + 1) - 2 * L)) else 0).sum = E * (T - L) * (T - L) * (A + B) := by
  rw [sum_strip E A B L T h0 h1 N]
  have e1 : (if (N : Int) ≤ L then 0 else if (N : Int) ≤ T then (N : Int) - L else T - L) = T - L := by split <;> (try split) <;> omega
  rw [e1]
  grind

theorem sum_mul (c : Int) (f : Nat → Int) : ∀ l : List Nat, (l.map fun j => c * f j).sum = c * (l.map f).sum
  | [] => by simp
  | x :: l => by
    simp only [List.map_cons, List.sum_cons, sum_mul c f l, Int.mul_add]

theorem sum_nonneg {f : Nat → Int} : ∀ {l : List Nat}, (∀ j ∈ l, 0 ≤ f j) → 0 ≤ (l.map f).sum
  | [], _ => by simp
  | x :: l, h => by
    have := sum_nonneg (l := l) (f := f) (fun j hj => h j (List.mem_cons_of_mem _ hj))
    have := h x (by simp)
    simp only [List.map_cons, List.sum_cons]
    omega

theorem sum_pos {f : Nat → Int} : ∀ {l : List Nat}, (∀ j ∈ l, 0 ≤ f j) → (∃ j ∈ l, 0 < f j) → 0 < (l.map f).sum
  | [], _, ⟨_, h, _⟩ => by cases h
  | x :: l, h, ⟨j, hj, hp⟩ => by
    have h1 := sum_nonneg (l := l) (f := f) (fun j hj => h j (List.mem_cons_of_mem _ hj))
    have h2 := h x (by simp)
    simp only [List.map_cons, List.sum_cons]
    rcases List.mem_cons.1 hj with rfl | hj
    · omega
    · have := sum_pos (l := l) (f := f) (fun j hj => h j (List.mem_cons_of_mem _ hj)) ⟨j, hj, hp⟩
      omega

/-- A number that all of some divide. -/
theorem all_divide (v : Nat → Int) (hv : ∀ j, 0 < v j) : ∀ n, ∃ K : Int, 0 < K ∧ ∀ j, j < n → ∃ E : Int, 0 < E ∧ E * v j = K
  | 0 => ⟨1, by omega, fun j hj => by omega⟩
  | n + 1 => by
    obtain ⟨K, hK, h⟩ := all_divide v hv n
    refine ⟨K * v n, Int.mul_pos hK (hv n), fun j hj => ?_⟩
    by_cases c : j = n
    · subst c
      exact ⟨K, hK, rfl⟩
    · obtain ⟨E, hE, e⟩ := h j (by omega)
      refine ⟨E * v n, Int.mul_pos hE (hv n), ?_⟩
      rw [← e]
      grind

end Go.Proofs.Ytlocdadkhdcedaa

/- The area of a closed polygon whose edges meet only where they follow one another is not 0 (plain). -/
namespace Go.Proofs.Ytlocdadkhdcedaa
open Go Go.RowKit Go.Proofs

section
variable {P : Nat → P2} {n : Nat} {K : Int}

theorem mp_lo (j : Nat) : lo (fun i => mp K (P i)) n j = mp K (lo P n j) := by
  unfold lo
  show (if 2 * (P j).2 < 2 * (P ((j + 1) % n)).2 then mp K (P j) else mp K (P ((j + 1) % n))) = _
  by_cases h : (P j).2 < (P ((j + 1) % n)).2
  · rw [if_pos (by omega), if_pos h]
  · rw [if_neg (by omega), if_neg h]

theorem mp_tp (j : Nat) : tp (fun i => mp K (P i)) n j = mp K (tp P n j) := by
  unfold tp
  show (if 2 * (P j).2 < 2 * (P ((j + 1) % n)).2 then mp K (P ((j + 1) % n)) else mp K (P j)) = _
  by_cases h : (P j).2 < (P ((j + 1) % n)).2
  · rw [if_pos (by omega), if_pos h]
  · rw [if_neg (by omega), if_neg h]

theorem mp_dir (j : Nat) : dir (fun i => mp K (P i)) n j = dir P n j := by
  unfold dir
  show (if 2 * (P j).2 < 2 * (P ((j + 1) % n)).2 then (1 : Int) else -1) = _
  by_cases h : (P j).2 < (P ((j + 1) % n)).2
  · rw [if_pos (by omega), if_pos h]
  · rw [if_neg (by omega), if_neg h]

/-- Where an edge is at a height. -/
def XX (E : Int) (a b : P2) (y : Int) : Int := E * (a.1 * (2 * b.2 - y) + b.1 * (y - 2 * a.2))

theorem mp_side {E : Int} {a b : P2} (hK : E * dn a b * 2 = K) (x y : Int) : crs (mp K a) (mp K b) (x, y) = 2 * dn a b * (XX E a b y - x) := by
  rw [← hK]
  unfold XX dn
  show cross (E * (b.2 - a.2) * 2 * a.1) (2 * a.2) (E * (b.2 - a.2) * 2 * b.1) (2 * b.2) x y = _
  unfold cross
  grind

theorem mp_FF {E E' : Int} {a b c d : P2} (hK : E * dn a b * 2 = K) (hK' : E' * dn c d * 2 = K) (y : Int) : FF (mp K a) (mp K b) (mp K c) (mp K d) y = 4 * dn a b * dn c d * (XX E' c d y - XX E a b y) := by
  have h1 := mp_side hK 0 y
  have h2 := mp_side hK' 0 y
  rw [crs_nm] at h1 h2
  have e1 : nm (mp K a) (mp K b) y = 2 * dn a b * XX E a b y := by
    simp only [Int.mul_zero, Int.sub_zero] at h1
    exact h1
  have e2 : nm (mp K c) (mp K d) y = 2 * dn c d * XX E' c d y := by
    simp only [Int.mul_zero, Int.sub_zero] at h2
    exact h2
  unfold FF
  rw [e1, e2, show dn (mp K a) (mp K b) = 2 * dn a b by show 2 * b.2 - 2 * a.2 = 2 * (b.2 - a.2); omega, show dn (mp K c) (mp K d) = 2 * dn c d by show 2 * d.2 - 2 * c.2 = 2 * (d.2 - c.2); omega]
  grind

/-- As many edges go up as down. -/
theorem dir_sum (y : Int) : ((List.range n).map fun j => if 2 * (lo P n j).2 < 2 * y + 1 ∧ 2 * y + 1 < 2 * (tp P n j).2 then dir P n j else 0).sum = 0 := by
  have h := sum_tele (fun j => if (P j).2 ≤ y then (1 : Int) else 0) n
  rw [← h]
  congr 1
  refine List.map_congr_left fun j _ => ?_
  unfold lo tp dir
  by_cases c : (P j).2 < (P ((j + 1) % n)).2
  · simp only [if_pos c]
    repeat' split
    all_goals omega
  · simp only [if_neg c]
    repeat' split
    all_goals omega

theorem lo_le (j : Nat) : (lo P n j).2 ≤ (tp P n j).2 := by
  unfold lo tp
  split <;> omega

theorem lo_tp_in {j : Nat} (hj : j < n) (hc : ∀ j, j < n → (0 ≤ (P j).1 ∧ (P j).1 ≤ 4096) ∧ 0 ≤ (P j).2 ∧ (P j).2 ≤ 4096) :
    ((0 ≤ (lo P n j).1 ∧ (lo P n j).1 ≤ 4096) ∧ 0 ≤ (lo P n j).2 ∧ (lo P n j).2 ≤ 4096) ∧ ((0 ≤ (tp P n j).1 ∧ (tp P n j).1 ≤ 4096) ∧ 0 ≤ (tp P n j).2 ∧ (tp P n j).2 ≤ 4096) := by
  have h1 := hc j hj
  have h2 := hc ((j + 1) % n) (Nat.mod_lt _ (by omega))
  unfold lo tp
  split <;> exact ⟨by assumption, by assumption⟩

theorem XX_in {E : Int} {a b : P2} (hE : 0 < E) (hK : E * dn a b * 2 = K) (ha : 0 ≤ a.1 ∧ a.1 ≤ 4096) (hb : 0 ≤ b.1 ∧ b.1 ≤ 4096) {y : Int} (h1 : 2 * a.2 ≤ y) (h2 : y ≤ 2 * b.2) : 0 ≤ XX E a b y ∧ XX E a b y ≤ 4096 * K := by
  have m1 := Int.mul_nonneg ha.1 (show 0 ≤ 2 * b.2 - y by omega)
  have m2 := Int.mul_nonneg hb.1 (show 0 ≤ y - 2 * a.2 by omega)
  have m3 := Int.mul_nonneg (show 0 ≤ 4096 - a.1 by omega) (show 0 ≤ 2 * b.2 - y by omega)
  have m4 := Int.mul_nonneg (show 0 ≤ 4096 - b.1 by omega) (show 0 ≤ y - 2 * a.2 by omega)
  have e : 4096 * K - XX E a b y = E * ((4096 - a.1) * (2 * b.2 - y) + (4096 - b.1) * (y - 2 * a.2)) := by
    rw [← hK]
    unfold XX dn
    grind
  have n1 := Int.mul_nonneg (show 0 ≤ E by omega) (show 0 ≤ a.1 * (2 * b.2 - y) + b.1 * (y - 2 * a.2) by omega)
  have n2 := Int.mul_nonneg (show 0 ≤ E by omega) (show 0 ≤ (4096 - a.1) * (2 * b.2 - y) + (4096 - b.1) * (y - 2 * a.2) by omega)
  rw [← e] at n2
  unfold XX at n2 ⊢
  omega

/-- Twice the area, over the edges. -/
def AA (P : Nat → P2) (n : Nat) : Int := ((List.range n).map fun j => (P j).1 * (P ((j + 1) % n)).2 - (P ((j + 1) % n)).1 * (P j).2).sum

theorem AA_strips : AA P n = ((List.range n).map fun j => dir P n j * (dn (lo P n j) (tp P n j) * ((lo P n j).1 + (tp P n j).1))).sum := by
  have h := sum_tele (fun j => (P j).1 * (P j).2) n
  have e : ((List.range n).map fun j => dir P n j * (dn (lo P n j) (tp P n j) * ((lo P n j).1 + (tp P n j).1))).sum = ((List.range n).map fun j => ((P j).1 * (P ((j + 1) % n)).2 - (P ((j + 1) % n)).1 * (P j).2) - ((P j).1 * (P j).2 - (P ((j + 1) % n)).1 * (P ((j + 1) % n)).2)).sum := by
    congr 1
    refine List.map_congr_left fun j _ => ?_
    unfold dir lo tp dn
    split <;> grind
  rw [e, sum_sub, h]
  unfold AA
  omega

end

/-- The sign of the area tells on which side of the way the inside lies. -/
theorem area_ne {P : Nat → P2} {n : Nat} (hS : Sim P n) (hc : ∀ j, j < n → (0 ≤ (P j).1 ∧ (P j).1 ≤ 4096) ∧ 0 ≤ (P j).2 ∧ (P j).2 ≤ 4096) : AA P n ≠ 0 := by
  have h3 := hS.three
  obtain ⟨K0, hK0, hdiv⟩ := all_divide (fun j => if 0 < dn (lo P n j) (tp P n j) then dn (lo P n j) (tp P n j) else 1) (fun j => by show 0 < (if 0 < dn (lo P n j) (tp P n j) then dn (lo P n j) (tp P n j) else 1); split <;> omega) n
  obtain ⟨K, hKd⟩ : ∃ K, K0 * 2 = K := ⟨_, rfl⟩
  have hK : 0 < K := by omega
  have hE : ∃ E : Nat → Int, ∀ j, j < n → 0 < E j ∧ (0 < dn (lo P n j) (tp P n j) → E j * dn (lo P n j) (tp P n j) * 2 = K) := by
    have spec : ∀ j, ∃ e : Int, j < n → 0 < e ∧ (0 < dn (lo P n j) (tp P n j) → e * dn (lo P n j) (tp P n j) * 2 = K) := by
      intro j
      by_cases hj : j < n
      · obtain ⟨e, h1, h2⟩ := hdiv j hj
        refine ⟨e, fun _ => ⟨h1, fun hd => ?_⟩⟩
        have h2 : e * (if 0 < dn (lo P n j) (tp P n j) then dn (lo P n j) (tp P n j) else 1) = K0 := h2
        rw [if_pos hd] at h2
        rw [h2, hKd]
      · exact ⟨1, fun h => absurd h hj⟩
    exact ⟨fun j => Classical.choose (spec j), fun j hj => Classical.choose_spec (spec j) hj⟩
  obtain ⟨E, hE⟩ := hE
  clear hdiv
  have hS' := mp_sim hK hS
  have hfree : ∀ h : Nat, Free (fun j => mp K (P j)) n (2 * (h : Int) + 1) := fun h j _ => by
    show 2 * (P j).2 ≠ 2 * (h : Int) + 1
    omega
  -- what is counted at a point
  have cnt : ∀ (h : Nat) (x : Int), NN (fun j => mp K (P j)) n (x, 2 * (h : Int) + 1) = ((List.range n).map fun j => if (lo P n j).2 ≤ (h : Int) ∧ (h : Int) < (tp P n j).2 then (if x < XX (E j) (lo P n j) (tp P n j) (2 * (h : Int) + 1) then dir P n j else 0) else 0).sum := by
    intro h x
    unfold NN
    congr 1
    refine List.map_congr_left fun j hj => ?_
    have hj := List.mem_range.1 hj
    refine (cw_is (P := fun j => mp K (P j)) (p := (x, 2 * (h : Int) + 1)) (hfree h) hj).trans ?_
    have i1 : Cr (fun j => mp K (P j)) n (2 * (h : Int) + 1) j ↔ (lo P n j).2 ≤ (h : Int) ∧ (h : Int) < (tp P n j).2 := by
      unfold Cr
      rw [mp_lo, mp_tp]
      show 2 * (lo P n j).2 < 2 * (h : Int) + 1 ∧ 2 * (h : Int) + 1 < 2 * (tp P n j).2 ↔ _
      omega
    have i2 : (lo P n j).2 ≤ (h : Int) ∧ (h : Int) < (tp P n j).2 → (0 < crs (lo (fun j => mp K (P j)) n j) (tp (fun j => mp K (P j)) n j) (x, 2 * (h : Int) + 1) ↔ x < XX (E j) (lo P n j) (tp P n j) (2 * (h : Int) + 1)) := by
      intro c
      have d : 0 < dn (lo P n j) (tp P n j) := by unfold dn; omega
      rw [mp_lo, mp_tp, mp_side ((hE j hj).2 d), pos_mul (show 0 < 2 * dn (lo P n j) (tp P n j) by omega)]
      omega
    by_cases c : (lo P n j).2 ≤ (h : Int) ∧ (h : Int) < (tp P n j).2
    · rw [if_pos c]
      by_cases c2 : x < XX (E j) (lo P n j) (tp P n j) (2 * (h : Int) + 1)
      · rw [if_pos c2, if_pos ⟨i1.2 c, (i2 c).2 c2⟩, mp_dir]
      · rw [if_neg c2, if_neg fun q => c2 ((i2 c).1 q.2)]
    · rw [if_neg c, if_neg fun q => c (i1.1 q.1)]
  obtain ⟨N2, hN2⟩ : ∃ N2 : Nat, N2 = 4096 := ⟨_, rfl⟩
  obtain ⟨N1, hN1⟩ : ∃ N1 : Nat, (N1 : Int) = 4096 * K + 1 := ⟨(4096 * K + 1).toNat, by omega⟩
  -- all of it together
  have total : 2 * ((List.range N2).map fun h : Nat => ((List.range N1).map fun x : Nat => NN (fun j => mp K (P j)) n ((x : Int), 2 * (h : Int) + 1)).sum).sum = K * AA P n := by
    have e1 : ((List.range N2).map fun h : Nat => ((List.range N1).map fun x : Nat => NN (fun j => mp K (P j)) n ((x : Int), 2 * (h : Int) + 1)).sum).sum =
        ((List.range N2).map fun h : Nat => ((List.range n).map fun j => if (lo P n j).2 ≤ (h : Int) ∧ (h : Int) < (tp P n j).2 then dir P n j * XX (E j) (lo P n j) (tp P n j) (2 * (h : Int) + 1) else 0).sum).sum := by
      congr 1
      refine List.map_congr_left fun h _ => ?_
      have e2 : ((List.range N1).map fun x : Nat => NN (fun j => mp K (P j)) n ((x : Int), 2 * (h : Int) + 1)) = (List.range N1).map fun x : Nat => ((List.range n).map fun j => if (lo P n j).2 ≤ (h : Int) ∧ (h : Int) < (tp P n j).2 then (if (x : Int) < XX (E j) (lo P n j) (tp P n j) (2 * (h : Int) + 1) then dir P n j else 0) else 0).sum :=
        List.map_congr_left fun x _ => cnt h x
      rw [e2, sum_swap (fun (x j : Nat) => if (lo P n j).2 ≤ (h : Int) ∧ (h : Int) < (tp P n j).2 then (if (x : Int) < XX (E j) (lo P n j) (tp P n j) (2 * (h : Int) + 1) then dir P n j else 0) else 0) n N1]
      congr 1
      refine List.map_congr_left fun j hj => ?_
      have hj := List.mem_range.1 hj
      by_cases c : (lo P n j).2 ≤ (h : Int) ∧ (h : Int) < (tp P n j).2
      · have d : 0 < dn (lo P n j) (tp P n j) := by unfold dn; omega
        obtain ⟨i1, i2⟩ := lo_tp_in hj hc
        have hX := XX_in (hE j hj).1 ((hE j hj).2 d) i1.1 i2.1 (y := 2 * (h : Int) + 1) (by omega) (by omega)
        simp only [if_pos c]
        rw [sum_below _ _ N1 hX.1, if_neg (by omega)]
      · simp only [if_neg c]
        exact sum_zero fun _ _ => rfl
    rw [e1, sum_swap (fun (h j : Nat) => if (lo P n j).2 ≤ (h : Int) ∧ (h : Int) < (tp P n j).2 then dir P n j * XX (E j) (lo P n j) (tp P n j) (2 * (h : Int) + 1) else 0) n N2, AA_strips, ← sum_mul, ← sum_mul]
    congr 1
    refine List.map_congr_left fun j hj => ?_
    have hj := List.mem_range.1 hj
    obtain ⟨i1, i2⟩ := lo_tp_in hj hc
    have ll := lo_le (P := P) (n := n) j
    have e3 : ((List.range N2).map fun h : Nat => if (lo P n j).2 ≤ (h : Int) ∧ (h : Int) < (tp P n j).2 then dir P n j * XX (E j) (lo P n j) (tp P n j) (2 * (h : Int) + 1) else 0).sum =
        dir P n j * (E j * ((tp P n j).2 - (lo P n j).2) * ((tp P n j).2 - (lo P n j).2) * ((lo P n j).1 + (tp P n j).1)) := by
      rw [← sum_strip_all (E := E j) (A := (lo P n j).1) (B := (tp P n j).1) i1.2.1 ll (N := N2) (by omega), ← sum_mul]
      congr 1
      refine List.map_congr_left fun h _ => ?_
      unfold XX
      split <;> simp
    rw [e3]
    by_cases d : 0 < dn (lo P n j) (tp P n j)
    · have := (hE j hj).2 d
      rw [← this]
      unfold dn
      grind
    · have : (tp P n j).2 - (lo P n j).2 = 0 := by unfold dn at d; omega
      have e4 : dn (lo P n j) (tp P n j) = 0 := this
      rw [this, e4]
      simp
  -- an edge that is not level
  have hup : ∃ j, j < n ∧ (lo P n j).2 < (tp P n j).2 := by
    have hb := hS.bend 0 (by omega)
    rw [show (0 + n - 1) % n = n - 1 by rw [Nat.mod_eq_of_lt (by omega)]; omega] at hb
    by_cases c : (P 0).2 = (P ((0 + 1) % n)).2
    · refine ⟨n - 1, by omega, ?_⟩
      have e : (n - 1 + 1) % n = 0 := by rw [show n - 1 + 1 = n by omega, Nat.mod_self]
      have hne : (P (n - 1)).2 ≠ (P 0).2 := fun x => hb (by
        unfold crs cross
        rw [x, ← c]
        simp)
      unfold lo tp
      rw [e]
      split <;> omega
    · refine ⟨0, by omega, ?_⟩
      unfold lo tp
      split <;> omega
  obtain ⟨j0, hj0, hup⟩ := hup
  obtain ⟨i1, i2⟩ := lo_tp_in hj0 hc
  obtain ⟨h, hh⟩ : ∃ h : Nat, (h : Int) = (lo P n j0).2 := ⟨(lo P n j0).2.toNat, by omega⟩
  -- a point right of the leftmost edge
  obtain ⟨C, hCd⟩ : ∃ C, (List.range n).filter (fun j => decide ((lo P n j).2 ≤ (h : Int) ∧ (h : Int) < (tp P n j).2)) = C := ⟨_, rfl⟩
  have memC : ∀ j, j ∈ C ↔ j < n ∧ (lo P n j).2 ≤ (h : Int) ∧ (h : Int) < (tp P n j).2 := fun j => by
    rw [← hCd, List.mem_filter, List.mem_range, decide_eq_true_eq]
  obtain ⟨e, heC, hmin⟩ := min_frac (fun j => XX (E j) (lo P n j) (tp P n j) (2 * (h : Int) + 1)) (fun _ => 1) C (fun x => by
    have : j0 ∈ C := (memC j0).2 ⟨hj0, by omega, by omega⟩
    rw [x] at this
    cases this) (fun _ _ => by omega)
  obtain ⟨he, hec⟩ := (memC e).1 heC
  have de : 0 < dn (lo P n e) (tp P n e) := by unfold dn; omega
  obtain ⟨k1, k2⟩ := lo_tp_in he hc
  have hXe := XX_in (hE e he).1 ((hE e he).2 de) k1.1 k2.1 (y := 2 * (h : Int) + 1) (by omega) (by omega)
  obtain ⟨x, hx⟩ : ∃ x : Nat, (x : Int) = XX (E e) (lo P n e) (tp P n e) (2 * (h : Int) + 1) := ⟨_, Int.toNat_of_nonneg hXe.1⟩
  have one : NN (fun j => mp K (P j)) n ((x : Int), 2 * (h : Int) + 1) = - dir P n e := by
    have ds := dir_sum (P := P) (n := n) (h : Int)
    have e5 : ((List.range n).map fun j => if (lo P n j).2 ≤ (h : Int) ∧ (h : Int) < (tp P n j).2 then (if (x : Int) < XX (E j) (lo P n j) (tp P n j) (2 * (h : Int) + 1) then dir P n j else 0) else 0).sum =
        ((List.range n).map fun j => (if 2 * (lo P n j).2 < 2 * (h : Int) + 1 ∧ 2 * (h : Int) + 1 < 2 * (tp P n j).2 then dir P n j else 0) + if j = e then - dir P n e else 0).sum := by
      congr 1
      refine List.map_congr_left fun j hj => ?_
      have hj := List.mem_range.1 hj
      by_cases c : (lo P n j).2 ≤ (h : Int) ∧ (h : Int) < (tp P n j).2
      · have c' : 2 * (lo P n j).2 < 2 * (h : Int) + 1 ∧ 2 * (h : Int) + 1 < 2 * (tp P n j).2 := by omega
        rw [if_pos c, if_pos c']
        by_cases je : j = e
        · have nx : ¬ ((x : Int) < XX (E j) (lo P n j) (tp P n j) (2 * (h : Int) + 1)) := by
            rw [je]
            omega
          rw [if_neg nx, if_pos je, je]
          omega
        · have dj : 0 < dn (lo P n j) (tp P n j) := by unfold dn; omega
          have nt := no_tie hS' he hj je (y := 2 * (h : Int) + 1) (by
            unfold Cr
            rw [mp_lo, mp_tp]
            show 2 * (lo P n e).2 < 2 * (h : Int) + 1 ∧ 2 * (h : Int) + 1 < 2 * (tp P n e).2
            omega) (by
            unfold Cr
            rw [mp_lo, mp_tp]
            show 2 * (lo P n j).2 < 2 * (h : Int) + 1 ∧ 2 * (h : Int) + 1 < 2 * (tp P n j).2
            omega)
          rw [mp_lo, mp_tp, mp_lo, mp_tp, mp_FF ((hE e he).2 de) ((hE j hj).2 dj)] at nt
          have hm := hmin j ((memC j).2 ⟨hj, c⟩)
          simp only [Int.mul_one] at hm
          have hne : XX (E j) (lo P n j) (tp P n j) (2 * (h : Int) + 1) ≠ XX (E e) (lo P n e) (tp P n e) (2 * (h : Int) + 1) := fun q => nt (by rw [q, Int.sub_self, Int.mul_zero])
          have lx : (x : Int) < XX (E j) (lo P n j) (tp P n j) (2 * (h : Int) + 1) := by omega
          rw [if_pos lx, if_neg je]
          omega
      · have c' : ¬ (2 * (lo P n j).2 < 2 * (h : Int) + 1 ∧ 2 * (h : Int) + 1 < 2 * (tp P n j).2) := by omega
        rw [if_neg c, if_neg c']
        by_cases je : j = e
        · subst je
          exact absurd hec c
        · rw [if_neg je]
          rfl
    rw [cnt h (x : Int), e5, sum_add, ds, sum_one, if_pos he]
    omega
  have dne : dir P n e = 1 ∨ dir P n e = -1 := by
    unfold dir
    split
    · exact .inl rfl
    · exact .inr rfl
  have hx1 : x < N1 := by omega
  have hh1 : h < N2 := by omega
  have sg : ∀ (h x : Nat), NN (fun j => mp K (P j)) n ((x : Int), 2 * (h : Int) + 1) = 0 ∨ (RR (fun j => mp K (P j)) n 0 = 0 ∧ 0 ≤ NN (fun j => mp K (P j)) n ((x : Int), 2 * (h : Int) + 1)) ∨ (RR (fun j => mp K (P j)) n 0 = -1 ∧ NN (fun j => mp K (P j)) n ((x : Int), 2 * (h : Int) + 1) ≤ 0) := fun h x => by
    have := winds_sign hS' (p := ((x : Int), 2 * (h : Int) + 1)) (hfree h)
    omega
  intro hz
  rw [hz, Int.mul_zero] at total
  rcases sg h x with q | ⟨q, _⟩ | ⟨q, _⟩
  · omega
  · have : 0 < ((List.range N2).map fun h : Nat => ((List.range N1).map fun x : Nat => NN (fun j => mp K (P j)) n ((x : Int), 2 * (h : Int) + 1)).sum).sum := by
      refine sum_pos (fun h' _ => sum_nonneg fun x' _ => ?_) ⟨h, List.mem_range.2 hh1, sum_pos (fun x' _ => ?_) ⟨x, List.mem_range.2 hx1, ?_⟩⟩
      · have := sg h' x'
        omega
      · have := sg h x'
        omega
      · have := sg h x
        omega
    omega
  · have : 0 < ((List.range N2).map fun h : Nat => ((List.range N1).map fun x : Nat => - NN (fun j => mp K (P j)) n ((x : Int), 2 * (h : Int) + 1)).sum).sum := by
      refine sum_pos (fun h' _ => sum_nonneg fun x' _ => ?_) ⟨h, List.mem_range.2 hh1, sum_pos (fun x' _ => ?_) ⟨x, List.mem_range.2 hx1, ?_⟩⟩
      · have := sg h' x'
        omega
      · have := sg h x'
        omega
      · have := sg h x
        omega
    have e6 : ((List.range N2).map fun h : Nat => ((List.range N1).map fun x : Nat => - NN (fun j => mp K (P j)) n ((x : Int), 2 * (h : Int) + 1)).sum).sum = - ((List.range N2).map fun h : Nat => ((List.range N1).map fun x : Nat => NN (fun j => mp K (P j)) n ((x : Int), 2 * (h : Int) + 1)).sum).sum := by
      rw [← sum_neg]
      congr 1
      exact List.map_congr_left fun h _ => sum_neg _ _
    omega

end Go.Proofs.Ytlocdadkhdcedaa

/- Outline of a polygon that was turned round or begun elsewhere is one (plain). -/
namespace Go.Proofs.Ytlocdadkhdcedaa
open Go Go.RowKit Go.Proofs

/-! ### leaving corners out -/
theorem rep_sx {L : Pl} {k : Nat} (h : repK L k = true) : sx L k = 0 := by
  have e := repK_eq h
  unfold sx
  rw [← e]
  exact crs_abb _ _

theorem erN_red {kind : Pl → Nat → Bool} (h : ∀ L k, kind L k = true → sx L k = 0) : ∀ f L, Red L (eraseN kind f L)
  | 0, L => .refl L
  | f + 1, L => by
    show Red L (match (List.range L.length).find? (kind L) with | none => L | some k => eraseN kind f (L.eraseIdx k))
    cases hf : (List.range L.length).find? (kind L) with
    | none => exact .refl L
    | some k => exact .step ⟨k, List.mem_range.1 (List.mem_of_find?_eq_some hf), h L k (List.find?_some hf), rfl⟩ (erN_red h f _)

theorem erN_nrm : ∀ f L, L.length ≤ f → Nrm (eraseN strL f L)
  | 0, L, hl => fun k hk => by
    have : k < L.length := hk
    omega
  | f + 1, L, hl => by
    show Nrm (match (List.range L.length).find? (strL L) with | none => L | some k => eraseN strL f (L.eraseIdx k))
    cases hf : (List.range L.length).find? (strL L) with
    | none =>
      intro k hk hs
      have := List.find?_eq_none.1 hf k (List.mem_range.2 hk)
      exact this ((strL_sx L k).2 hs)
    | some k =>
      have hk := List.mem_range.1 (List.mem_of_find?_eq_some hf)
      refine erN_nrm f _ ?_
      rw [er_len hk]
      omega

theorem left_red (L : Pl) : Red L (leftL L) := (erN_red (fun _ _ h => rep_sx h) _ L).trans (erN_red (fun L k h => (strL_sx L k).1 h) _ _)
theorem left_nrm (L : Pl) : Nrm (leftL L) := erN_nrm _ _ (Nat.le_refl _)

theorem Red.mem {L M : Pl} (r : Red L M) : ∀ x ∈ M, x ∈ L := by
  induction r with
  | refl => exact fun _ h => h
  | step s _ ih =>
    obtain ⟨k, -, -, rfl⟩ := s
    exact fun x h => List.mem_of_mem_eraseIdx (ih x h)

theorem vPts_mem {L : Pl} : vPts L = true ↔ ∀ x ∈ L, valid x.1 x.2 = true := by
  rw [vPts_iff]
  constructor
  · intro h x hx
    obtain ⟨k, hk, rfl⟩ := List.mem_iff_getElem.1 hx
    have := h k hk
    rw [List.getD_eq_getElem?_getD, List.getElem?_eq_getElem hk] at this
    exact this
  · intro h k hk
    exact h _ (List.mem_of_getElem? (getD_some hk))

/-! ### the same list, begun elsewhere -/
theorem Rot.eq {A B : Pl} (h : Rot A B) (h0 : 0 < A.length) : ∃ a, a < A.length ∧ B = rotL a A := by
  obtain ⟨hl, a, ha, hg⟩ := h
  have ha : a < A.length := by omega
  refine ⟨a, ha, ext_getD (by rw [rotL_len]; exact hl) fun j hj => ?_⟩
  rw [hl] at hj
  rw [hg j hj, rotL_getD ha hj]

theorem rot_rotL {A : Pl} {a : Nat} (ha : a < A.length) : Rot A (rotL a A) := Rot.of (rotL_len _ _) a fun _ hj => rotL_getD ha hj

theorem Rot.rev {A B : Pl} (h : Rot A B) : Rot A.reverse B.reverse := by
  obtain ⟨hl, a, ha, hg⟩ := h
  rcases Nat.eq_zero_or_pos A.length with h0 | h0
  · have e1 := List.eq_nil_of_length_eq_zero h0
    have e2 := List.eq_nil_of_length_eq_zero (hl.trans h0)
    rw [e1, e2]
    exact Rot.refl _
  have ha : a < A.length := by omega
  refine Rot.of (by rw [List.length_reverse, List.length_reverse, hl]) (A.length - a) fun j hj => ?_
  rw [List.length_reverse] at hj ⊢
  rw [rev_getD (by omega), hl, hg _ (by omega), rev_getD (Nat.mod_lt _ h0)]
  congr 1
  rw [mod2 (by omega), mod2 (by omega)]
  repeat' split
  all_goals omega

theorem sx_rev {L : Pl} {k : Nat} (hk : k < L.length) : sx L.reverse (L.length - 1 - k) = - sx L k := by
  have h0 : 0 < L.length := by omega
  unfold sx
  rw [List.length_reverse, rev_getD (Nat.mod_lt _ h0), rev_getD (by omega), rev_getD (Nat.mod_lt _ h0), ← crs_anti]
  have e1 : L.length - 1 - (L.length - 1 - k + L.length - 1) % L.length = (k + 1) % L.length := by
    rw [mod2 (by omega), mod2 (by omega)]
    repeat' split
    all_goals omega
  have e2 : L.length - 1 - (L.length - 1 - k + 1) % L.length = (k + L.length - 1) % L.length := by
    rw [mod2 (by omega), mod2 (by omega)]
    repeat' split
    all_goals omega
  rw [e1, e2, show L.length - 1 - (L.length - 1 - k) = k by omega]

theorem Nrm.rev {L : Pl} (h : Nrm L) : Nrm L.reverse := by
  intro k hk
  rw [List.length_reverse] at hk
  have e := sx_rev (L := L) (k := L.length - 1 - k) (by omega)
  rw [show L.length - 1 - (L.length - 1 - k) = k by omega] at e
  have := h (L.length - 1 - k) (by omega)
  omega

theorem Stp.rev {L M : Pl} (s : Stp L M) : Stp L.reverse M.reverse := by
  obtain ⟨k, hk, hs, rfl⟩ := s
  have hl := er_len hk
  refine ⟨L.length - 1 - k, by rw [List.length_reverse]; omega, by rw [sx_rev hk, hs]; rfl, ?_⟩
  have hl2 := er_len (L := L.reverse) (k := L.length - 1 - k) (by rw [List.length_reverse]; omega)
  rw [List.length_reverse] at hl2
  refine ext_getD (by rw [List.length_reverse, hl, hl2]) fun j hj => ?_
  rw [List.length_reverse, hl] at hj
  rw [rev_getD (by omega), hl, er_get, er_get]
  by_cases c : j < L.length - 1 - k
  · rw [if_pos c, if_neg (by omega), rev_getD (by omega)]
    congr 1
    omega
  · rw [if_neg c, if_pos (by omega), rev_getD (by omega)]
    congr 1
    omega

theorem Red.rev {L M : Pl} (r : Red L M) : Red L.reverse M.reverse := by
  induction r with
  | refl => exact .refl _
  | step s _ ih => exact .step s.rev ih

/-- What is left of a list that is turned, or begun elsewhere. -/
theorem left_turn {L B : Pl} (b : Bool) (h : Rot (turnL b L) B) : Rot (turnL b (leftL L)) (leftL B) := by
  obtain ⟨A', r, hr⟩ := (left_red B).rot h
  have n1 : Nrm A' := hr.symm.nrm (left_nrm B)
  have r2 : Red (turnL b L) (turnL b (leftL L)) := by
    cases b
    · exact left_red L
    · exact (left_red L).rev
  have n2 : Nrm (turnL b (leftL L)) := by
    cases b
    · exact left_nrm L
    · exact (left_nrm L).rev
  exact (nrm_one _ rfl r2 n2 r n1).trans hr

/-! ### simple -/
theorem simple_sg {L Q : Pl} (b : Bool) (m : Nat) (hl : Q.length = L.length) (h0 : 0 < L.length) (get : ∀ j, j < L.length → Q.getD j (0, 0) = L.getD (sg b L.length m j) (0, 0))
    (hs : simpleS (px L) (py L) L.length = true) : simpleS (px Q) (py Q) Q.length = true := by
  have ml : ∀ j, (j + 1) % L.length < L.length := fun j => Nat.mod_lt _ h0
  cases b
  · refine simple_of hl (sg false L.length m) (fun j _ => sg_lt h0) (fun j k hj hk e => sg_inj hj hk e) (fun j k hj hk => ?_) (fun j k hj hk => ?_) hs
    · unfold eM
      rw [hl, get j hj, get _ (ml j), get k hk, get _ (ml k), sg_next_f, sg_next_f]
    · unfold Adj
      rw [← sg_next_f, ← sg_next_f]
      constructor
      · rintro (e | e)
        · exact .inl (sg_inj hk (ml j) e)
        · exact .inr (sg_inj hj (ml k) e)
      · rintro (e | e)
        · exact .inl (congrArg _ e)
        · exact .inr (congrArg _ e)
  · refine simple_of hl (fun j => sg true L.length m ((j + 1) % L.length)) (fun j _ => sg_lt h0) (fun j k hj hk e => mod_inj hj hk (sg_inj (ml j) (ml k) e)) (fun j k hj hk => ?_) (fun j k hj hk => ?_) hs
    · unfold eM
      rw [hl, get j hj, get _ (ml j), get k hk, get _ (ml k), sg_next_t h0, sg_next_t h0, mts_swap2]
    · unfold Adj
      rw [sg_next_t h0, sg_next_t h0]
      constructor
      · rintro (e | e)
        · exact .inr (sg_inj (ml k) hj e).symm
        · exact .inl (sg_inj (ml j) hk e).symm
      · rintro (e | e)
        · exact .inr (by rw [← e])
        · exact .inl (by rw [← e])

/-- A polygon as Outline leaves it, before it is laid. -/
structure Okm (M : Pl) : Prop where
  three : 3 ≤ M.length
  sim : simpleS (px M) (py M) M.length = true
  nrm : Nrm M
  pts : vPts M = true

theorem str_sx {M : Pl} {k : Nat} : strK (px M) (py M) M.length k = false ↔ sx M k ≠ 0 := by
  have := strL_sx M k
  unfold strL at this
  cases h : strK (px M) (py M) M.length k
  · simp only [h] at this
    simpa using this
  · simp only [h] at this
    simpa using this

theorem Okm.apart {M : Pl} (h : Okm M) : Apart M := by
  intro i k hi hk e
  refine no_two h.sim (fun x hx => str_sx.2 (h.nrm x hx)) hi hk ?_
  unfold px py
  rw [e]
  exact ⟨rfl, rfl⟩

theorem Okm.area {M : Pl} (h : Okm M) : sumL M ≠ 0 := by
  have hS : Sim (gP M) M.length := by
    refine ⟨h.three, fun i k hi hk q1 q2 q3 => ?_, fun i hi => h.nrm i hi⟩
    have := (simple_iff.1 h.sim) i k hi hk (Ne.symm q1)
    rw [if_neg (fun x => x.elim q2 q3)] at this
    exact mts_dj this
  refine area_ne hS fun j hj => ?_
  have := vPts_iff.1 h.pts j hj
  unfold valid at this
  simp only [Bool.and_eq_true, decide_eq_true_eq] at this
  exact ⟨⟨this.1.1.1, this.1.1.2⟩, this.1.2, this.2⟩

theorem Okm.turn {M : Pl} (h : Okm M) (b : Bool) : Okm (turnL b M) := by
  have h0 : 0 < M.length := by have := h.three; omega
  refine ⟨by rw [turnL_len]; exact h.three, simple_sg b 0 (turnL_len b M) h0 (fun j hj => ?_) h.sim, ?_, ?_⟩
  · cases b
    · show M.getD j _ = M.getD ((j + 0) % M.length) _
      rw [Nat.add_zero, Nat.mod_eq_of_lt hj]
    · show M.reverse.getD j _ = M.getD (M.length - 1 - (j + 0) % M.length) _
      rw [rev_getD hj, Nat.add_zero, Nat.mod_eq_of_lt hj]
  · cases b
    · exact h.nrm
    · exact h.nrm.rev
  · cases b
    · exact h.pts
    · rw [vPts_mem]
      exact fun x hx => vPts_mem.1 h.pts x (List.mem_reverse.1 hx)

theorem Okm.rot {M N : Pl} (h : Okm M) (r : Rot M N) : Okm N := by
  have h0 : 0 < M.length := by have := h.three; omega
  have hl := r.len
  obtain ⟨a, ha, rfl⟩ := r.eq h0
  refine ⟨by rw [rotL_len]; exact h.three, simple_sg false a (rotL_len _ _) h0 (fun j hj => rotL_getD ha hj) h.sim, r.nrm h.nrm, ?_⟩
  rw [vPts_mem]
  intro x hx
  refine vPts_mem.1 h.pts x ?_
  unfold rotL at hx
  rcases List.mem_append.1 hx with q | q
  · exact List.mem_of_mem_drop q
  · exact List.mem_of_mem_take q

theorem Rot.sum {A B : Pl} (h : Rot A B) : sumL B = sumL A := by
  rcases Nat.eq_zero_or_pos A.length with h0 | h0
  · have e1 := List.eq_nil_of_length_eq_zero h0
    have e2 := List.eq_nil_of_length_eq_zero (h.len.trans h0)
    rw [e1, e2]
  · obtain ⟨a, ha, rfl⟩ := h.eq h0
    exact sumL_rot ha

theorem Rot.place {A B : Pl} (h : Rot A B) (hA : Apart A) : placeL B = placeL A := by
  obtain ⟨hl, a, -, hg⟩ := h
  exact place_same hA hl a hg

/-- The outline is one, however the polygon is turned and wherever it begins. -/
theorem norm_turn {M N : Pl} (h : Okm M) (b : Bool) (r : Rot (turnL b M) N) : normL N = normL M := by
  have hs := h.area
  have hN := r.sum
  unfold normL
  cases b
  · have hN : sumL N = sumL M := hN
    have r : Rot M N := r
    rw [hN]
    by_cases c : sumL M < 0
    · rw [if_pos c, if_pos c]
      exact r.rev.place h.apart.rev
    · rw [if_neg c, if_neg c]
      exact r.place h.apart
  · have hN : sumL N = - sumL M := hN.trans (sumL_rev M)
    have r : Rot M.reverse N := r
    rw [hN]
    by_cases c : sumL M < 0
    · rw [if_neg (by omega), if_pos c]
      exact r.place h.apart.rev
    · rw [if_pos (by omega), if_neg c]
      have := r.rev
      rw [List.reverse_reverse] at this
      exact this.place h.apart

theorem norm_okm {M : Pl} (h : Okm M) : Okm (normL M) ∧ 0 < sumL (normL M) ∧ leastK (px (normL M)) (py (normL M)) (normL M).length = 0 := by
  have hs := h.area
  obtain ⟨c, hc⟩ : ∃ c, decide (sumL M < 0) = c := ⟨_, rfl⟩
  have e : normL M = placeL (turnL c M) := by
    unfold normL
    cases c
    · rw [if_neg (of_decide_eq_false hc)]
      rfl
    · rw [if_pos (of_decide_eq_true hc)]
      rfl
  have ht := h.turn c
  have h0 : 0 < (turnL c M).length := by have := ht.three; omega
  have r : Rot (turnL c M) (placeL (turnL c M)) := rot_rotL (leastL_lt h0)
  rw [e]
  refine ⟨ht.rot r, ?_, least_place ht.apart h0⟩
  rw [r.sum]
  cases c
  · have := of_decide_eq_false hc
    show 0 < sumL M
    omega
  · have := of_decide_eq_true hc
    show 0 < sumL M.reverse
    rw [sumL_rev]
    omega

theorem norm_out {M : Pl} (h : Okm M) (h24 : M.length ≤ 24) : vOut (normL M) = true := by
  obtain ⟨h1, h2, h3⟩ := norm_okm h
  rw [vOut_iff]
  exact ⟨h1.three, by rw [normL_len]; exact h24, h1.pts, fun x hx => str_sx.2 (h1.nrm x hx), h2, h3, h1.sim⟩

theorem out_okm {A : Pl} (h : vOut A = true) : Okm A := by
  obtain ⟨h3, -, hv, h1, -, -, h2⟩ := vOut_iff.1 h
  exact ⟨h3, h2, fun x hx => str_sx.1 (h1 x hx), hv⟩

theorem out_norm {A : Pl} (h : vOut A = true) : normL A = A := by
  obtain ⟨-, -, -, -, hs, hl, -⟩ := vOut_iff.1 h
  unfold normL
  rw [if_neg (by omega)]
  exact place_out hl

/-! ### flat lists -/
theorem flat_all {L : Pl} (h : flatS L = true) : ∀ i j k, i < L.length → j < L.length → k < L.length → crs (L.getD i (0, 0)) (L.getD j (0, 0)) (L.getD k (0, 0)) = 0 := by
  intro i j k hi hj hk
  unfold flatS at h
  cases hf : (List.range L.length).find? (fun k => !(px L k == px L 0 && py L k == py L 0)) with
  | none =>
    have all : ∀ m, m < L.length → L.getD m (0, 0) = L.getD 0 (0, 0) := fun m hm => by
      have := List.find?_eq_none.1 hf m (List.mem_range.2 hm)
      unfold px py at this
      simp only [Bool.not_eq_true, Bool.not_eq_false', Bool.and_eq_true, beq_iff_eq] at this
      exact Prod.ext this.1 this.2
    rw [all i hi, all j hj, all k hk]
    exact crs_abb _ _
  | some q =>
    rw [hf] at h
    have hq0 := List.find?_some hf
    have hq : (!(px L q == px L 0 && py L q == py L 0)) = true := hq0
    have on : ∀ m, m < L.length → crs (L.getD 0 (0, 0)) (L.getD q (0, 0)) (L.getD m (0, 0)) = 0 := fun m hm => by
      have := (List.all_eq_true.1 h) m (List.mem_range.2 hm)
      exact beq_iff_eq.1 this
    have hne : ¬ ((L.getD q (0, 0)).1 = (L.getD 0 (0, 0)).1 ∧ (L.getD q (0, 0)).2 = (L.getD 0 (0, 0)).2) := by
      intro hx
      have e : (px L q == px L 0 && py L q == py L 0) = true := by
        unfold px py
        rw [hx.1, hx.2]
        simp
      rw [e] at hq
      cases hq
    have h1 := on i hi
    have h2 := on j hj
    have h3 := on k hk
    generalize L.getD 0 (0, 0) = o at *
    generalize L.getD q (0, 0) = d at *
    generalize L.getD i (0, 0) = a at *
    generalize L.getD j (0, 0) = b at *
    generalize L.getD k (0, 0) = c at *
    unfold crs cross at *
    have k1 : (d.1 - o.1) * ((b.1 - a.1) * (c.2 - a.2) - (b.2 - a.2) * (c.1 - a.1)) = 0 := by grind
    have k2 : (d.2 - o.2) * ((b.1 - a.1) * (c.2 - a.2) - (b.2 - a.2) * (c.1 - a.1)) = 0 := by grind
    rcases Int.mul_eq_zero.1 k1 with q1 | q1
    · rcases Int.mul_eq_zero.1 k2 with q2 | q2
      · exact absurd ⟨by omega, by omega⟩ hne
      · exact q2
    · exact q1

theorem out_flat {A : Pl} (h : Okm A) : flatS A = false := by
  have h3 := h.three
  by_cases c : flatS A = true
  · exact absurd (flat_all c _ _ _ (Nat.mod_lt _ (by omega)) (by omega) (Nat.mod_lt _ (by omega))) (h.nrm 0 (by omega))
  · simpa using c

/-! ### a point put into an edge -/
/-- The list with a point put behind the i-th. -/
def putL (A : Pl) (i : Nat) (m : Int × Int) : Pl := A.take (i + 1) ++ m :: A.drop (i + 1)

theorem putL_len {A : Pl} {i : Nat} (hi : i < A.length) (m : Int × Int) : (putL A i m).length = A.length + 1 := by
  unfold putL
  rw [List.length_append, List.length_take, List.length_cons, List.length_drop]
  omega

theorem putL_at {A : Pl} {i : Nat} (hi : i < A.length) (m : Int × Int) : (putL A i m).getD (i + 1) (0, 0) = m := by
  unfold putL
  rw [List.getD_eq_getElem?_getD, List.getElem?_append_right (by rw [List.length_take]; omega), List.length_take, show i + 1 - min (i + 1) A.length = 0 by omega]
  rfl

theorem putL_lo {A : Pl} {i j : Nat} (hi : i < A.length) (m : Int × Int) (hj : j ≤ i) : (putL A i m).getD j (0, 0) = A.getD j (0, 0) := by
  unfold putL
  rw [List.getD_eq_getElem?_getD, List.getD_eq_getElem?_getD, List.getElem?_append_left (by rw [List.length_take]; omega), List.getElem?_take_of_lt (by omega)]

theorem putL_hi {A : Pl} {i j : Nat} (hi : i < A.length) (m : Int × Int) (hj : i < j) : (putL A i m).getD (j + 1) (0, 0) = A.getD j (0, 0) := by
  unfold putL
  rw [List.getD_eq_getElem?_getD, List.getD_eq_getElem?_getD, List.getElem?_append_right (by rw [List.length_take]; omega), List.length_take, show j + 1 - min (i + 1) A.length = j - i - 1 + 1 by omega, List.getElem?_cons_succ, List.getElem?_drop, show i + 1 + (j - i - 1) = j by omega]

theorem putL_er {A : Pl} {i : Nat} (hi : i < A.length) (m : Int × Int) : (putL A i m).eraseIdx (i + 1) = A := by
  have hl := putL_len hi m
  have he := er_len (L := putL A i m) (k := i + 1) (by omega)
  refine ext_getD (by omega) fun j hj => ?_
  rw [er_get]
  by_cases c : j < i + 1
  · rw [if_pos c, putL_lo hi m (by omega)]
  · rw [if_neg c, putL_hi hi m (by omega)]

theorem putL_stp {A : Pl} {i : Nat} (hi : i < A.length) (m : Int × Int) (hc : crs (A.getD i (0, 0)) (A.getD ((i + 1) % A.length) (0, 0)) m = 0) : Stp (putL A i m) A := by
  have hl := putL_len hi m
  refine ⟨i + 1, by omega, ?_, (putL_er hi m).symm⟩
  unfold sx
  have e1 : (i + 1 + (putL A i m).length - 1) % (putL A i m).length = i := by
    rw [show i + 1 + (putL A i m).length - 1 = i + (putL A i m).length by omega, Nat.add_mod_right, Nat.mod_eq_of_lt (by omega)]
  have e2 : (putL A i m).getD ((i + 1 + 1) % (putL A i m).length) (0, 0) = A.getD ((i + 1) % A.length) (0, 0) := by
    by_cases c : i + 1 = A.length
    · rw [hl, show i + 1 + 1 = A.length + 1 by omega, Nat.mod_self, c, Nat.mod_self, putL_lo hi m (by omega)]
    · rw [Nat.mod_eq_of_lt (by omega), Nat.mod_eq_of_lt (by omega), putL_hi hi m (by omega)]
  rw [e1, e2, putL_at hi, putL_lo hi m (Nat.le_refl _)]
  have := crs_anti (A.getD i (0, 0)) m (A.getD ((i + 1) % A.length) (0, 0))
  have h2 := crs_cyc (A.getD i (0, 0)) (A.getD ((i + 1) % A.length) (0, 0)) m
  have h3 := crs_swap (A.getD ((i + 1) % A.length) (0, 0)) m (A.getD i (0, 0))
  have h4 := crs_cyc m (A.getD ((i + 1) % A.length) (0, 0)) (A.getD i (0, 0))
  have h5 := crs_cyc (A.getD ((i + 1) % A.length) (0, 0)) (A.getD i (0, 0)) m
  have h6 := crs_swap (A.getD i (0, 0)) m (A.getD ((i + 1) % A.length) (0, 0))
  omega

/-- What Outline leaves of an outline into which a straight corner is put. -/
theorem put_left {A : Pl} (h : vOut A = true) {i : Nat} (hi : i < A.length) (m : Int × Int) (hc : crs (A.getD i (0, 0)) (A.getD ((i + 1) % A.length) (0, 0)) m = 0) :
    Okm (leftL (putL A i m)) ∧ (leftL (putL A i m)).length = A.length ∧ normL (leftL (putL A i m)) = A ∧ flatS (putL A i m) = false := by
  have ok := out_okm h
  have s := putL_stp hi m hc
  have r : Rot A (leftL (putL A i m)) := nrm_one _ rfl (.step s (.refl A)) ok.nrm (left_red _) (left_nrm _)
  refine ⟨ok.rot r, r.len, (norm_turn ok false r).trans (out_norm h), ?_⟩
  have h3 := ok.three
  by_cases c : flatS (putL A i m) = true
  · exfalso
    have all := flat_all c
    have hl := putL_len hi m
    have mem : ∀ j, j < A.length → ∃ j', j' < (putL A i m).length ∧ (putL A i m).getD j' (0, 0) = A.getD j (0, 0) := fun j hj => by
      by_cases cj : j ≤ i
      · exact ⟨j, by omega, putL_lo hi m cj⟩
      · exact ⟨j + 1, by omega, putL_hi hi m (by omega)⟩
    obtain ⟨a, ha, ea⟩ := mem ((0 + A.length - 1) % A.length) (Nat.mod_lt _ (by omega))
    obtain ⟨b, hb, eb⟩ := mem 0 (by omega)
    obtain ⟨d, hd, ed⟩ := mem ((0 + 1) % A.length) (Nat.mod_lt _ (by omega))
    have := all a b d ha hb hd
    rw [ea, eb, ed] at this
    exact ok.nrm 0 (by omega) this
  · simpa using c

end Go.Proofs.Ytlocdadkhdcedaa

/- Walks: turnedList. -/
namespace Go.Proofs.Ytlocdadkhdcedaa
open Go Go.RowKit Go.Proofs Go.Abs Go.Plain

/-- Which element of the list is the turned list's i-th. -/
def trnK (back : Bool) (n k i : Nat) : Nat := if back then (k + n - i) % n else (k + i) % n
theorem px_selN {xs ys : Nat → Int} {f : Nat → Nat} {s j : Nat} (hj : j < s) : px (selL xs ys f s) j = xs (f j) ∧ py (selL xs ys f s) j = ys (f j) := by
  unfold px py selL
  simp [List.getD_eq_getElem?_getD, hj]

/-- The list turned. -/
def trnL (back : Bool) (L : Pl) (k : Nat) : Pl := selL (px L) (py L) (trnK back L.length k) L.length

theorem trn_len (back : Bool) (L : Pl) (k : Nat) : (trnL back L k).length = L.length := selL_len _ _ _ _

theorem trn_at {back : Bool} {L : Pl} {k i : Nat} (hi : i < L.length) : (trnL back L k).getD i (0, 0) = L.getD (trnK back L.length k i) (0, 0) := by
  have h := px_selN (xs := px L) (ys := py L) (f := trnK back L.length k) (s := L.length) hi
  exact Prod.ext h.1 h.2

theorem trn_rot (back : Bool) {L : Pl} {k : Nat} (hk : k < L.length) : Rot (turnL back L) (trnL back L k) := by
  cases back
  · refine Rot.of (trn_len _ _ _) k fun j hj => ?_
    have hj : j < L.length := hj
    rw [trn_at hj]
    show L.getD ((k + j) % L.length) _ = L.getD ((j + k) % L.length) _
    rw [Nat.add_comm]
  · refine Rot.of (by rw [trn_len]; exact List.length_reverse.symm) (L.length - 1 - k) fun j hj => ?_
    have hj : j < L.length := by rw [turnL_len] at hj; exact hj
    rw [trn_at hj]
    rw [turnL_len]
    show L.getD ((k + L.length - j) % L.length) _ = L.reverse.getD ((j + (L.length - 1 - k)) % L.length) _
    rw [rev_getD (Nat.mod_lt _ (by omega))]
    congr 1
    rw [mod2 (by omega), mod2 (by omega)]
    repeat' split
    all_goals omega

set_option maxRecDepth 100000 in
set_option maxHeartbeats 4000000 in
theorem turnedList_any (b off n cap k : Nat) (back : Bool) (xs ys : Nat → Int) (w : World) (hn : n ≤ 1000) (hk : k < n)
    (hc : ∀ k, k < n → w.cell? ⟨b, off + k * 2, none⟩ = some (.int .i64 (xs k)) ∧ w.cell? ⟨b, off + k * 2 + 1, none⟩ = some (.int .i64 (ys k))) :
    Calls Try.prog 63 #[.slice (some ⟨b, off, none⟩) n cap, .int .i64 (k : Nat), .bool back] w fun e w' => ∃ v, e = .returned v ∧ w'.ownsRow w.heap.size 23 2 v n (ptCells (selL xs ys (trnK back n k) n)) ∧ Below w.heap.size w w' := by
  obtain ⟨i0, hi, hz0, hz1, hz2⟩ := info_parts info23
  have HC := Lib.hid hc
  clear hc
  go_enter Try.func63, Try.ntmps63
  go_wp2_with fail
  go_loopw [7, 8] (fun t i wr => ∃ (q : Nat) (v : Value), q ≤ n ∧ i = .int .i64 q ∧ t = v ∧ wr.ownsRow w.heap.size 23 2 v q (ptCells (selL xs ys (trnK back n k) q)) ∧ Below w.heap.size w wr) (fun _ i _ => n - (intOf i).toNat)
  case atStart => exact ⟨0, _, Nat.zero_le _, rfl, rfl, World.ownsRow_nil _ _ _ _, Below.refl _ _⟩
  case round =>
    obtain ⟨q, v, hq, rfl, rfl, hown, hbel⟩ := hrel
    by_cases hlt : q < n
    · have j1 : (q : Int) < (n : Int) := by omega
      have fk : trnK back n k q < n := by unfold trnK; split <;> exact Nat.mod_lt _ (by omega)
      have p0 := keep_cell hbel (HC.out _ fk).1
      have p1 := keep_cell hbel (HC.out _ fk).2
      have j2 : (trnK back n k q : Int) < (n : Int) := by omega
      have hsuc := Lib.hid (selL_succ xs ys (trnK back n k) q)
      have hptc := Lib.hid (ptCells_snoc (selL xs ys (trnK back n k) q) (xs (trnK back n k q)) (ys (trnK back n k q)))
      have n0 : ¬ n = 0 := by omega
      have T1 : ((k : Int) + q).tmod n = (((k + q) % n : Nat) : Int) := by rw [Int.tmod_eq_emod_of_nonneg (by omega), Int.natCast_emod]; congr 1
      have T2 : ((k : Int) + n - q).tmod n = (((k + n - q) % n : Nat) : Int) := by rw [Int.tmod_eq_emod_of_nonneg (by omega), Int.natCast_emod]; congr 1; omega
      cases back
      · rw [show (k + q) % n = trnK false n k q from rfl] at T1
        clear T2
        generalize xs (trnK false n k q) = x at *
        generalize ys (trnK false n k q) = y at *
        obtain ⟨r, hr⟩ : ∃ r, trnK false n k q = r := ⟨_, rfl⟩
        rw [hr] at p0 p1 j2 T1
        clear hr
        go_wp2_with (at_builtin; refine wpList_append_own _ rfl _ _ 32 rfl w.heap.size 23 i0 (pt 0 0) 2 16 Try.underlying32 hi hz0 hz1 hz2 rfl (by decide) _ _ _ rfl (hown.alloc _) _ 1 1 [.int .i64 x, .int .i64 y] rfl rfl (two_new _ _ _) (two_cells _ _) (by unfold maxLen; omega) (by omega) (by have := hbel.size; simp; omega) ?_; intro v1 w3 hown1 hgrow _)
        refine ⟨⟨q + 1, v1, by omega, by simp, rfl, ?_, (hbel.alloc hbel.size _).grown hgrow (by have := hbel.size; simp; omega) (fun j e => (hown.lt j e).1)⟩, by simp [intOf]; omega⟩
        rw [hsuc.out, hptc.out]
        exact hown1
      · rw [show (k + n - q) % n = trnK true n k q from rfl] at T2
        generalize xs (trnK true n k q) = x at *
        generalize ys (trnK true n k q) = y at *
        obtain ⟨r, hr⟩ : ∃ r, trnK true n k q = r := ⟨_, rfl⟩
        rw [hr] at p0 p1 j2 T2
        clear hr
        go_wp2_with (at_builtin; refine wpList_append_own _ rfl _ _ 32 rfl w.heap.size 23 i0 (pt 0 0) 2 16 Try.underlying32 hi hz0 hz1 hz2 rfl (by decide) _ _ _ rfl (hown.alloc _) _ 1 1 [.int .i64 x, .int .i64 y] rfl rfl (two_new _ _ _) (two_cells _ _) (by unfold maxLen; omega) (by omega) (by have := hbel.size; simp; omega) ?_; intro v1 w3 hown1 hgrow _)
        refine ⟨⟨q + 1, v1, by omega, by simp, rfl, ?_, (hbel.alloc hbel.size _).grown hgrow (by have := hbel.size; simp; omega) (fun j e => (hown.lt j e).1)⟩, by simp [intOf]; omega⟩
        rw [hsuc.out, hptc.out]
        exact hown1
    · obtain rfl : q = n := by omega
      go_wp2
      go_ret
      exact ⟨_, rfl, hown, hbel⟩

end Go.Proofs.Ytlocdadkhdcedaa
