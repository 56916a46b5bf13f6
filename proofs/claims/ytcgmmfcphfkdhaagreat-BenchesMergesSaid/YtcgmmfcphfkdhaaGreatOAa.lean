/- Plain: the union as the reference makes it, note by note. -/
import Derived.Test.YtcgmmfcphfkdhaaGreatGrO7
namespace Go.Proofs.YtcgmmfcphfkdhaaGreat
open Go Go.RowKit Go.Proofs Go.Abs

def ltn (x y : Nt) : Prop := x.b < y.b ∨ x.b = y.b ∧ x.n < y.n
theorem Ord.at {A : List Nt} (h : Ord A) {i j : Nat} (hij : i < j) (hj : j < A.length) : ltn (A[i]'(by omega)) A[j] := by
 unfold Ord at h
 rw [List.pairwise_iff_getElem] at h
 exact h i j (by omega) hj hij
theorem Ord.before {A : List Nt} (h : Ord A) {i : Nat} (hi : i < A.length) : ∀ x ∈ A.take i, ltn x A[i] := fun x hx => by
 obtain ⟨k, hk, rfl⟩ := List.getElem_of_mem hx
 rw [List.length_take] at hk
 rw [List.getElem_take]
 exact h.at (by omega) hi

structure RmR (A B : List Nt) (i k : Nat) (O : List Nt) (fk : Bool) : Prop where
 ab : ∀ x ∈ A.take i, ∀ j, k ≤ j → ∀ h : j < B.length, ltn x B[j]
 ba : ∀ y ∈ B.take k, ∀ j, i ≤ j → ∀ h : j < A.length, ltn y A[j]
 fo : fk = true ↔ Fork (A.take i) (B.take k)
 perm : fk = false → O.Perm (ext (A.take i) (B.take k))
 ord : fk = false → Ord O
 len : O.length ≤ i + k

theorem RmR.start (A B : List Nt) : RmR A B 0 0 [] false :=
 ⟨fun x hx => by simp at hx, fun x hx => by simp at hx, ⟨fun h => (by cases h), fun ⟨x, hx, _⟩ => (by simp at hx)⟩, fun _ => by simp [ext], fun _ => List.Pairwise.nil, by simp⟩

theorem ext_cases {A B : List Nt} {x : Nt} (h : x ∈ ext A B) : x ∈ A ∨ x ∈ B := ext_mem h

theorem ord_snoc {O : List Nt} {y : Nt} (h : Ord O) (hy : ∀ x ∈ O, ltn x y) : Ord (O ++ [y]) := by
 unfold Ord
 rw [List.pairwise_append]
 exact ⟨h, List.pairwise_singleton _ _, fun a ha b hb => by simp only [List.mem_singleton] at hb; subst hb; exact hy a ha⟩

theorem ext_snocA (A B : List Nt) (x : Nt) (hx : ∀ y ∈ B, ¬ sn x y) : (ext (A ++ [x]) B).Perm (ext A B ++ [x]) := by
 have e : (B.filter fun y => !hasN (A ++ [x]) y) = B.filter fun y => !hasN A y := by
  apply List.filter_congr
  intro y hy
  have h1 : hasN (A ++ [x]) y = hasN A y := by
   unfold hasN
   rw [List.any_append]
   have : ((x.b == y.b && x.n == y.n)) = false := by
    rw [Bool.eq_false_iff]
    intro h
    simp only [Bool.and_eq_true, beq_iff_eq] at h
    exact hx y hy h
   simp [this]
  rw [h1]
 unfold ext
 rw [e, List.append_assoc, List.append_assoc]
 exact List.Perm.append_left A List.perm_append_comm

theorem fork_mono {A A' B B' : List Nt} (hA : ∀ x ∈ A, x ∈ A') (hB : ∀ x ∈ B, x ∈ B') (h : Fork A B) : Fork A' B' := by
 obtain ⟨x, hx, y, hy, h⟩ := h
 exact ⟨x, hA x hx, y, hB y hy, h⟩
theorem lt_ns {x y : Nt} (h : ltn x y) : ¬ sn x y := fun e => by unfold ltn at h; unfold sn at e; omega
theorem lt_sn {x y : Nt} (h : ltn x y) : ¬ sn y x := fun e => by unfold ltn at h; unfold sn at e; omega

theorem RmR.takeA {A B O : List Nt} {i k : Nat} {fk : Bool} (h : RmR A B i k O fk) (oA : Ord A) (oB : Ord B) (hi : i < A.length) (hk : ∀ hk : k < B.length, ltn A[i] B[k]) : RmR A B (i + 1) k (O ++ [A[i]]) fk := by
 have hb : ∀ y ∈ B.take k, ltn y A[i] := fun y hy => h.ba y hy i (Nat.le_refl _) hi
 refine ⟨fun x hx j hj hjl => ?_, fun y hy j hj hjl => h.ba y hy j (by omega) hjl, ?_, fun hf => ?_, fun hf => ?_, by rw [List.length_append, List.length_singleton]; have := h.len; omega⟩
 ·rw [take_one A hi, List.mem_append, List.mem_singleton] at hx
  rcases hx with hx | rfl
  ·exact h.ab x hx j hj hjl
  ·have h1 := hk (by omega)
   rcases Nat.lt_or_ge k j with g | g
   ·have h2 := oB.at g hjl
    unfold ltn at *
    omega
   ·have : k = j := by omega
    subst this
    exact h1
 ·rw [h.fo, take_one A hi]
  constructor
  ·exact fork_mono (fun x hx => List.mem_append_left _ hx) (fun x hx => hx)
  ·rintro ⟨x, hx, y, hy, hs, hne⟩
   rw [List.mem_append, List.mem_singleton] at hx
   rcases hx with hx | rfl
   ·exact ⟨x, hx, y, hy, hs, hne⟩
   ·exact absurd hs (lt_sn (hb y hy))
 ·rw [take_one A hi]
  exact (List.Perm.append_right _ (h.perm hf)).trans (ext_snocA _ _ _ (fun y hy => lt_sn (hb y hy))).symm
 ·refine ord_snoc (h.ord hf) (fun x hx => ?_)
  rcases ext_cases ((h.perm hf).mem_iff.1 hx) with g | g
  ·exact oA.before hi x g
  ·exact hb x g

theorem RmR.takeB {A B O : List Nt} {i k : Nat} {fk : Bool} (h : RmR A B i k O fk) (oA : Ord A) (oB : Ord B) (hk : k < B.length) (hi : ∀ hi : i < A.length, ltn B[k] A[i]) : RmR A B i (k + 1) (O ++ [B[k]]) fk := by
 have ha : ∀ x ∈ A.take i, ltn x B[k] := fun x hx => h.ab x hx k (Nat.le_refl _) hk
 have hn : ¬ hasN (A.take i) B[k] = true := by
  rw [hasN_iff]
  rintro ⟨x, hx, hs⟩
  exact lt_ns (ha x hx) hs
 refine ⟨fun x hx j hj hjl => h.ab x hx j (by omega) hjl, fun y hy j hj hjl => ?_, ?_, fun hf => ?_, fun hf => ?_, by rw [List.length_append, List.length_singleton]; have := h.len; omega⟩
 ·rw [take_one B hk, List.mem_append, List.mem_singleton] at hy
  rcases hy with hy | rfl
  ·exact h.ba y hy j hj hjl
  ·have h1 := hi (by omega)
   rcases Nat.lt_or_ge i j with g | g
   ·have h2 := oA.at g hjl
    unfold ltn at *
    omega
   ·have : i = j := by omega
    subst this
    exact h1
 ·rw [h.fo, take_one B hk]
  constructor
  ·exact fork_mono (fun x hx => hx) (fun x hx => List.mem_append_left _ hx)
  ·rintro ⟨x, hx, y, hy, hs, hne⟩
   rw [List.mem_append, List.mem_singleton] at hy
   rcases hy with hy | rfl
   ·exact ⟨x, hx, y, hy, hs, hne⟩
   ·exact absurd hs (lt_ns (ha x hx))
 ·rw [take_one B hk, ext_snoc, if_neg hn]
  exact List.Perm.append_right _ (h.perm hf)
 ·refine ord_snoc (h.ord hf) (fun x hx => ?_)
  rcases ext_cases ((h.perm hf).mem_iff.1 hx) with g | g
  ·exact ha x g
  ·exact oB.before hk x g

open Classical in
theorem RmR.both {A B O : List Nt} {i k : Nat} {fk : Bool} (h : RmR A B i k O fk) (oA : Ord A) (oB : Ord B) (hi : i < A.length) (hk : k < B.length) (hs : sn A[i] B[k]) (fk' : Bool) (hf' : fk' = true ↔ fk = true ∨ ¬ A[i] = B[k]) : RmR A B (i + 1) (k + 1) (O ++ [B[k]]) fk' := by
 have ha : ∀ x ∈ A.take i, ltn x B[k] := fun x hx => h.ab x hx k (Nat.le_refl _) hk
 have hb : ∀ y ∈ B.take k, ltn y A[i] := fun y hy => h.ba y hy i (Nat.le_refl _) hi
 refine ⟨fun x hx j hj hjl => ?_, fun y hy j hj hjl => ?_, ?_, fun hf => ?_, fun hf => ?_, by rw [List.length_append, List.length_singleton]; have := h.len; omega⟩
 ·rw [take_one A hi, List.mem_append, List.mem_singleton] at hx
  rcases hx with hx | rfl
  ·exact h.ab x hx j (by omega) hjl
  ·have h2 := oB.at (show k < j by omega) hjl
   unfold ltn sn at *
   omega
 ·rw [take_one B hk, List.mem_append, List.mem_singleton] at hy
  rcases hy with hy | rfl
  ·exact h.ba y hy j (by omega) hjl
  ·have h2 := oA.at (show i < j by omega) hjl
   unfold ltn sn at *
   omega
 ·rw [hf', h.fo, take_one A hi, take_one B hk]
  constructor
  ·rintro (g | g)
   ·exact fork_mono (fun x hx => List.mem_append_left _ hx) (fun x hx => List.mem_append_left _ hx) g
   ·exact ⟨A[i], List.mem_append_right _ (List.mem_singleton.2 rfl), B[k], List.mem_append_right _ (List.mem_singleton.2 rfl), hs, g⟩
  ·rintro ⟨x, hx, y, hy, hss, hne⟩
   rw [List.mem_append, List.mem_singleton] at hx hy
   rcases hx with hx | rfl
   ·rcases hy with hy | rfl
    ·exact .inl ⟨x, hx, y, hy, hss, hne⟩
    ·exact absurd hss (lt_ns (ha x hx))
   ·rcases hy with hy | rfl
    ·exact absurd hss (lt_sn (hb y hy))
    ·exact .inr hne
 ·have h0 : ¬ (fk = true ∨ ¬ A[i] = B[k]) := fun e => by rw [hf'.2 e] at hf; cases hf
  have hfk : fk = false := by
   cases hfk : fk with
   | false => rfl
   | true => exact absurd (Or.inl hfk) h0
  have heq : A[i] = B[k] := by
   by_cases e : A[i] = B[k]
   ·exact e
   ·exact absurd (Or.inr e) h0
  rw [take_one A hi, take_one B hk, ext_snoc, if_pos (hasN_iff.2 ⟨A[i], List.mem_append_right _ (List.mem_singleton.2 rfl), hs⟩), ← heq]
  exact (List.Perm.append_right _ (h.perm hfk)).trans (ext_snocA _ _ _ (fun y hy => lt_sn (hb y hy))).symm
 ·have hfk : fk = false := by
   cases hfk : fk with
   | false => rfl
   | true => rw [hf'.2 (.inl hfk)] at hf; cases hf
  refine ord_snoc (h.ord hfk) (fun x hx => ?_)
  rcases ext_cases ((h.perm hfk).mem_iff.1 hx) with g | g
  ·exact ha x g
  ·exact oB.before hk x g

theorem RmR.done {A B O : List Nt} {fk : Bool} (h : RmR A B A.length B.length O fk) (hA : StOk A) (hB : StOk B) : (fk = true → MgR A B [] 91) ∧ (fk = false → 400 < O.length → MgR A B [] 2) ∧ (fk = false → O.length ≤ 400 → MgR A B O 0) := by
 have h1 := h.fo
 have h2 := h.perm
 rw [List.take_length, List.take_length] at h1 h2
 refine ⟨fun hf => .inr (.inl ⟨⟨hA, hB⟩, h1.1 hf, rfl, rfl⟩), fun hf hl => ?_, fun hf hl => ?_⟩
 ·have hno : ¬ Fork A B := fun e => by rw [h1.2 e] at hf; cases hf
  exact .inr (.inr (.inl ⟨⟨hA, hB⟩, hno, by rw [← (h2 hf).length_eq]; exact hl, rfl, rfl⟩))
 ·have hno : ¬ Fork A B := fun e => by rw [h1.2 e] at hf; cases hf
  exact .inr (.inr (.inr ⟨⟨hA, hB⟩, hno, by rw [← (h2 hf).length_eq]; exact hl, rfl, h2 hf, h.ord hf⟩))

end Go.Proofs.YtcgmmfcphfkdhaaGreat
