/- Plain: merging is commutative, associative and idempotent. -/
import Derived.Test.YtcgmmfcphfkdhaaGreatOAa
namespace Go.Proofs.YtcgmmfcphfkdhaaGreat
open Go Go.RowKit Go.Proofs Go.Abs

theorem fork_swap {A B : List Nt} (h : Fork A B) : Fork B A := by
 obtain ⟨x, hx, y, hy, hs, hne⟩ := h
 exact ⟨y, hy, x, hx, ⟨hs.1.symm, hs.2.symm⟩, fun e => hne e.symm⟩

theorem ext_iff {A B : List Nt} (hf : ¬ Fork A B) {x : Nt} : x ∈ ext A B ↔ x ∈ A ∨ x ∈ B := by
 refine ⟨ext_mem, fun h => ?_⟩
 unfold ext
 rw [List.mem_append]
 rcases h with h | h
 ·exact .inl h
 ·by_cases hh : hasN A x = true
  ·obtain ⟨y, hy, hs⟩ := hasN_iff.1 hh
   by_cases e : y = x
   ·subst e; exact .inl hy
   ·exact absurd ⟨y, hy, x, h, hs, e⟩ hf
  ·exact .inr (List.mem_filter.2 ⟨h, by simpa using hh⟩)

theorem nodup_ext {A B : List Nt} (oA : Ord A) (oB : Ord B) : (ext A B).Nodup := by
 have h := ext_nodup oA oB
 unfold List.Nodup at h ⊢
 rw [List.pairwise_map] at h
 exact h.imp fun {a b} h e => h (by rw [e])

theorem ext_swap {A B : List Nt} (oA : Ord A) (oB : Ord B) (hf : ¬ Fork A B) : (ext A B).Perm (ext B A) :=
 (List.perm_ext_iff_of_nodup (nodup_ext oA oB) (nodup_ext oB oA)).2 fun x => by
  rw [ext_iff hf, ext_iff (fun h => hf (fork_swap h))]
  exact Or.comm

theorem mg_swap {A B K : List Nt} {e : Int} (h : MgR B A K e) : MgR A B K e := by
 rcases h with ⟨a1, a2, a3⟩ | ⟨a1, a2, a3, a4⟩ | ⟨a1, a2, a3, a4, a5⟩ | ⟨a1, a2, a3, a4, a5, a6⟩
 ·exact .inl ⟨fun h => a1 ⟨h.2, h.1⟩, a2, a3⟩
 ·exact .inr (.inl ⟨⟨a1.2, a1.1⟩, fork_swap a2, a3, a4⟩)
 ·have hp := ext_swap (st_ord a1.1) (st_ord a1.2) a2
  exact .inr (.inr (.inl ⟨⟨a1.2, a1.1⟩, fun h => a2 (fork_swap h), by rw [← hp.length_eq]; exact a3, a4, a5⟩))
 ·have hp := ext_swap (st_ord a1.1) (st_ord a1.2) a2
  exact .inr (.inr (.inr ⟨⟨a1.2, a1.1⟩, fun h => a2 (fork_swap h), by rw [← hp.length_eq]; exact a3, a4, a5.trans hp, a6⟩))

theorem mg_zero {A B K : List Nt} (h : MgR A B K 0) : StOk A ∧ StOk B ∧ ¬ Fork A B ∧ (ext A B).length ≤ 400 ∧ K.Perm (ext A B) ∧ Ord K := by
 rcases h with ⟨-, a2, -⟩ | ⟨-, -, a3, -⟩ | ⟨-, -, -, a4, -⟩ | ⟨a1, a2, a3, a4, a5, a6⟩
 ·omega
 ·omega
 ·omega
 ·exact ⟨a1.1, a1.2, a2, a3, a5, a6⟩
theorem mg_len {A B K : List Nt} {e : Int} (h : MgR A B K e) : K.length ≤ 400 := by
 rcases h with ⟨-, -, rfl⟩ | ⟨-, -, -, rfl⟩ | ⟨-, -, -, -, rfl⟩ | ⟨-, -, a3, -, a5, -⟩
 ·simp
 ·simp
 ·simp
 ·rw [a5.length_eq]; exact a3
theorem mg_mem {A B K : List Nt} {e : Int} (h : MgR A B K e) {x : Nt} (hx : x ∈ K) : x ∈ A ∨ x ∈ B := by
 rcases h with ⟨-, -, rfl⟩ | ⟨-, -, -, rfl⟩ | ⟨-, -, -, -, rfl⟩ | ⟨-, -, a3, -, a5, -⟩
 ·cases hx
 ·cases hx
 ·cases hx
 ·exact ext_mem (a5.mem_iff.1 hx)

theorem ext_sub {A B : List Nt} (h : ∀ y ∈ B, y ∈ A) : ext A B = A := by
 unfold ext
 have : (B.filter fun y => !hasN A y) = [] := by
  rw [List.filter_eq_nil_iff]
  intro y hy
  have : hasN A y = true := hasN_iff.2 ⟨y, h y hy, rfl, rfl⟩
  simp [this]
 rw [this, List.append_nil]

theorem mg_self {A K : List Nt} (h : MgR A A K 0) : K = A := by
 obtain ⟨h1, -, -, -, h5, h6⟩ := mg_zero h
 rw [ext_sub (fun y hy => hy)] at h5
 exact ord_perm h6 (st_ord h1) h5

theorem csF_ok (L : List Nt) : ∀ (d q : Nat) (b n : Int), (∀ i, i < d → Gd (nz L (q + i))) → (0 < d → b < (nz L q).b ∨ b = (nz L q).b ∧ n < (nz L q).n) → (∀ i, i + 1 < d → (nz L (q + i)).b < (nz L (q + i + 1)).b ∨ (nz L (q + i)).b = (nz L (q + i + 1)).b ∧ (nz L (q + i)).n < (nz L (q + i + 1)).n) → (csF L d q b n).1 = 0
 | 0, _, _, _, _, _, _ => rfl
 | d + 1, q, b, n, hg, h0, hs => by
  unfold csF
  have g := hg 0 (by omega)
  rw [Nat.add_zero] at g
  have h00 := h0 (by omega)
  have hc0 : ¬ cmR (nz L q).b (nz L q).n b n = 0 := by
   unfold cmR or2 Lib.compareInt
   repeat' split
   all_goals omega
  have hc1 : ¬ cmR (nz L q).b (nz L q).n b n < 0 := by
   unfold cmR or2 Lib.compareInt
   repeat' split
   all_goals omega
  rw [if_neg (by rw [(gdE_zero _).2 g]; simp), if_neg hc0, if_neg hc1]
  refine csF_ok L d (q + 1) _ _ (fun i hi => by have := hg (i + 1) (by omega); rwa [show q + (i + 1) = q + 1 + i by omega] at this) (fun hd => ?_) (fun i hi => ?_)
  ·have := hs 0 (by omega)
   rwa [Nat.add_zero] at this
  ·have := hs (i + 1) (by omega)
   rwa [show q + (i + 1) = q + 1 + i by omega] at this

theorem gd_pos {N : Nt} (h : Gd N) : 1 ≤ N.b := by
 have h1 := h.1
 unfold vSt vRf wi at h1
 simp only [Bool.and_eq_true, decide_eq_true_eq] at h1
 omega

theorem st_of {K : List Nt} (hl : K.length ≤ 400) (hg : ∀ x ∈ K, Gd x) (ho : Ord K) : StOk K := by
 have e : ∀ i (h : i < K.length), nz K i = K[i] := fun i h => by unfold nz; simp [List.getD, h]
 refine ⟨hl, csF_ok K K.length 0 0 0 (fun i hi => ?_) (fun hd => ?_) (fun i hi => ?_)⟩
 ·rw [Nat.zero_add, e i hi]
  exact hg _ (List.getElem_mem hi)
 ·rw [e 0 hd]
  have := gd_pos (hg _ (List.getElem_mem hd))
  omega
 ·rw [Nat.zero_add, e i (by omega), e (i + 1) hi]
  exact ho.at (by omega) hi

theorem mg_set {A B K : List Nt} (h : MgR A B K 0) : StOk K := by
 obtain ⟨h1, h2, h3, h4, h5, h6⟩ := mg_zero h
 refine st_of (by rw [h5.length_eq]; exact h4) (fun x hx => ?_) h6
 rcases ext_mem (h5.mem_iff.1 hx) with g | g
 ·exact st_good h1 x g
 ·exact st_good h2 x g

theorem mg_iff {A B K : List Nt} (h : MgR A B K 0) {x : Nt} : x ∈ K ↔ x ∈ A ∨ x ∈ B := by
 obtain ⟨-, -, h3, -, h5, -⟩ := mg_zero h
 rw [h5.mem_iff, ext_iff h3]

theorem fork_left {A B C K : List Nt} (h : MgR A B K 0) (hbc : ¬ Fork B C) : Fork K C ↔ Fork A C := by
 constructor
 ·rintro ⟨x, hx, y, hy, r⟩
  rcases (mg_iff h).1 hx with g | g
  ·exact ⟨x, g, y, hy, r⟩
  ·exact absurd ⟨x, g, y, hy, r⟩ hbc
 ·rintro ⟨x, hx, y, hy, r⟩
  exact ⟨x, (mg_iff h).2 (.inl hx), y, hy, r⟩
theorem fork_right {A B C K : List Nt} (h : MgR B C K 0) (hab : ¬ Fork A B) : Fork A K ↔ Fork A C := by
 constructor
 ·rintro ⟨x, hx, y, hy, r⟩
  rcases (mg_iff h).1 hy with g | g
  ·exact absurd ⟨x, hx, y, g, r⟩ hab
  ·exact ⟨x, hx, y, g, r⟩
 ·rintro ⟨x, hx, y, hy, r⟩
  exact ⟨x, hx, y, (mg_iff h).2 (.inr hy), r⟩

theorem mg_assoc {A B C K1 K4 X Y : List Nt} {i k : Int} (h1 : MgR A B K1 0) (h4 : MgR B C K4 0) (hx : MgR K1 C X i) (hy : MgR A K4 Y k) : i = k ∧ X = Y := by
 have s1 := mg_set h1
 have s4 := mg_set h4
 obtain ⟨sA, -, fAB, -, -, o1⟩ := mg_zero h1
 obtain ⟨-, sC, fBC, -, -, o4⟩ := mg_zero h4
 have f1 := fork_left h1 fBC
 have f4 := fork_right h4 fAB
 have hp : ¬ Fork A C → (ext K1 C).Perm (ext A K4) := fun hn =>
  (List.perm_ext_iff_of_nodup (nodup_ext o1 (st_ord sC)) (nodup_ext (st_ord sA) o4)).2 fun x => by
   rw [ext_iff (fun h => hn (f1.1 h)), ext_iff (fun h => hn (f4.1 h)), mg_iff h1, mg_iff h4]
   exact or_assoc
 rcases hx with ⟨a1, -, -⟩ | ⟨-, a2, a3, a4⟩ | ⟨-, a2, a3, a4, a5⟩ | ⟨-, a2, a3, a4, a5, a6⟩
 ·exact absurd ⟨s1, sC⟩ a1
 ·rcases hy with ⟨b1, -, -⟩ | ⟨-, b2, b3, b4⟩ | ⟨-, b2, b3, b4, b5⟩ | ⟨-, b2, b3, b4, b5, b6⟩
  ·exact absurd ⟨sA, s4⟩ b1
  ·exact ⟨a3.trans b3.symm, a4.trans b4.symm⟩
  ·exact absurd (f4.2 (f1.1 a2)) b2
  ·exact absurd (f4.2 (f1.1 a2)) b2
 ·have hp := hp (fun h => a2 (f1.2 h))
  rcases hy with ⟨b1, -, -⟩ | ⟨-, b2, b3, b4⟩ | ⟨-, b2, b3, b4, b5⟩ | ⟨-, b2, b3, b4, b5, b6⟩
  ·exact absurd ⟨sA, s4⟩ b1
  ·exact absurd (f1.2 (f4.1 b2)) a2
  ·exact ⟨a4.trans b4.symm, a5.trans b5.symm⟩
  ·have := hp.length_eq; omega
 ·have hp := hp (fun h => a2 (f1.2 h))
  rcases hy with ⟨b1, -, -⟩ | ⟨-, b2, b3, b4⟩ | ⟨-, b2, b3, b4, b5⟩ | ⟨-, b2, b3, b4, b5, b6⟩
  ·exact absurd ⟨sA, s4⟩ b1
  ·exact absurd (f1.2 (f4.1 b2)) a2
  ·have := hp.length_eq; omega
  ·exact ⟨a4.trans b4.symm, ord_perm a6 b6 (a5.trans (hp.trans b5.symm))⟩

theorem mg_again {A B C K1 X Z : List Nt} {m : Int} (h1 : MgR A B K1 0) (hx : MgR K1 C X 0) (hz : MgR X A Z m) : m = 0 ∧ Z = X := by
 have sX := mg_set hx
 obtain ⟨sA, -, fAB, -, -, -⟩ := mg_zero h1
 obtain ⟨-, -, fKC, -, -, oX⟩ := mg_zero hx
 have sub : ∀ y ∈ A, y ∈ X := fun y hy => (mg_iff hx).2 (.inl ((mg_iff h1).2 (.inl hy)))
 have nf : ¬ Fork X A := by
  rintro ⟨x, hx', y, hy, hs, hne⟩
  exact hne (oX.uniq hx' (sub y hy) hs)
 have he := ext_sub sub
 rcases hz with ⟨a1, -, -⟩ | ⟨-, a2, -, -⟩ | ⟨-, -, a3, -, -⟩ | ⟨-, -, -, a4, a5, a6⟩
 ·exact absurd ⟨sX, sA⟩ a1
 ·exact absurd a2 nf
 ·rw [he] at a3
  have := sX.1
  omega
 ·rw [he] at a5
  exact ⟨a4, ord_perm a6 oX a5⟩

end Go.Proofs.YtcgmmfcphfkdhaaGreat
