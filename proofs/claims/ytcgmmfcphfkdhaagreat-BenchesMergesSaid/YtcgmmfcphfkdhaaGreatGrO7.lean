/- The abstract machine, part GrO7. -/
import Derived.Test.YtcgmmfcphfkdhaaGreatGrO6
import Derived.Test.YtcgmmfcphfkdhaaGreatOA
/- Plain: what a set of notes is; how long a good note's encoding is. -/
namespace Go.Proofs.YtcgmmfcphfkdhaaGreat
open Go Go.RowKit Go.Proofs Go.Abs

theorem cmR_pos (b n b' n' : Int) (h0 : ¬ cmR b n b' n' = 0) (h1 : ¬ cmR b n b' n' < 0) : b' < b ∨ b' = b ∧ n' < n := by
 unfold cmR or2 Lib.compareInt at h0 h1
 revert h0 h1
 repeat' split
 all_goals intros
 all_goals omega

theorem csF_good (L : List Nt) : ∀ (d q : Nat) (b n : Int), (csF L d q b n).1 = 0 → ∀ i, i < d → Gd (nz L (q + i)) ∧ (0 < i → (nz L (q + i - 1)).b < (nz L (q + i)).b ∨ (nz L (q + i - 1)).b = (nz L (q + i)).b ∧ (nz L (q + i - 1)).n < (nz L (q + i)).n) ∧ (i = 0 → b < (nz L q).b ∨ b = (nz L q).b ∧ n < (nz L q).n)
 | 0, _, _, _, _, i, hi => by omega
 | d + 1, q, b, n, h, i, hi => by
  unfold csF at h
  split at h
  ·simp at h
  ·rename_i h1
   split at h
   ·simp at h
   ·rename_i h2
    split at h
    ·simp at h
    ·rename_i h3
     have hg : Gd (nz L q) := (gdE_zero _).1 (by simpa using h1)
     have hc := cmR_pos _ _ _ _ h2 h3
     cases i with
     | zero => exact ⟨hg, fun k => by omega, fun _ => hc⟩
     | succ i =>
      obtain ⟨g1, g2, g3⟩ := csF_good L d (q + 1) _ _ h i (by omega)
      have e : q + 1 + i = q + (i + 1) := by omega
      rw [e] at g1 g2
      refine ⟨g1, fun _ => ?_, fun k => by omega⟩
      cases i with
      | zero =>
       have := g3 rfl
       rw [show q + 1 = q + (0 + 1) by omega] at this
       rw [show q + (0 + 1) - 1 = q by omega]
       exact this
      | succ i => exact g2 (by omega)

theorem st_good {L : List Nt} (h : StOk L) : ∀ x ∈ L, Gd x := fun x hx => by
 obtain ⟨i, hi, rfl⟩ := List.getElem_of_mem hx
 have := (csF_good L L.length 0 0 0 h.2 i hi).1
 rw [Nat.zero_add] at this
 have e : nz L i = L[i] := by unfold nz; simp [List.getD, hi]
 rwa [e] at this

theorem st_ord {L : List Nt} (h : StOk L) : Ord L := by
 have adj : ∀ i, i + 1 < L.length → (nz L i).b < (nz L (i + 1)).b ∨ (nz L i).b = (nz L (i + 1)).b ∧ (nz L i).n < (nz L (i + 1)).n := fun i hi => by
  have := (csF_good L L.length 0 0 0 h.2 (i + 1) hi).2.1 (by omega)
  rw [Nat.zero_add, show i + 1 - 1 = i by omega] at this
  exact this
 have all : ∀ d i, i + 1 + d < L.length → (nz L i).b < (nz L (i + 1 + d)).b ∨ (nz L i).b = (nz L (i + 1 + d)).b ∧ (nz L i).n < (nz L (i + 1 + d)).n := by
  intro d
  induction d with
  | zero => exact adj
  | succ d ih =>
   intro i hi
   have h1 := ih i (by omega)
   have h2 := adj (i + 1 + d) (by omega)
   rw [show i + 1 + d + 1 = i + 1 + (d + 1) by omega] at h2
   omega
 unfold Ord
 rw [List.pairwise_iff_getElem]
 intro i j hi hj hij
 have := all (j - i - 1) i (by omega)
 rw [show i + 1 + (j - i - 1) = j by omega] at this
 have e1 : nz L i = L[i] := by unfold nz; simp [List.getD, hi]
 have e2 : nz L j = L[j] := by unfold nz; simp [List.getD, hj]
 rwa [e1, e2] at this

def Nt.bs (n : Nt) : Prop := n.P.length ≤ 64 ∧ n.Q.length ≤ 64 ∧ n.D.length ≤ 4 ∧ (∀ p ∈ n.D, p.G.length ≤ 24 ∧ p.M.length ≤ 32) ∧ n.X.P.length ≤ 64 ∧ n.X.C.length ≤ 16 ∧ n.X.S.length ≤ 16

theorem Nt.bs.bd {n : Nt} (h : n.bs) : n.bd := by
 obtain ⟨h1, h2, h3, h4, h5, h6, h7⟩ := h
 exact ⟨by omega, by omega, by omega, fun p hp => by have := h4 p hp; omega, by omega, by omega, by omega⟩

theorem ris_len {L : List Int} {m : Nat} (h : Ris L m) : L.length ≤ m := by
 have key : ∀ j, j < L.length → (j : Int) + 1 ≤ iz L j := by
  intro j
  induction j with
  | zero => intro hj; have := (h 0 hj).1; omega
  | succ j ih =>
   intro hj
   have h1 := ih (by omega)
   have h2 := (h (j + 1) hj).2.2 (by omega)
   rw [show j + 1 - 1 = j by omega] at h2
   omega
 rcases Nat.eq_zero_or_pos L.length with h0 | h0
 ·omega
 ·have h1 := key (L.length - 1) (by omega)
  have h2 := (h (L.length - 1) (by omega)).2.1
  omega

theorem dat_len {D : List Pc} (h : Dat D) : ∀ p ∈ D, p.G.length ≤ 24 ∧ p.M.length ≤ 32 := fun p hp => by
 obtain ⟨i, hi, rfl⟩ := List.getElem_of_mem hp
 have h1 := h.1 i hi
 have e : pz D i = D[i] := by unfold pz; simp [List.getD, hi]
 rw [e] at h1
 unfold pOk vP vGs vMs wi at h1
 simp only [Bool.and_eq_true, decide_eq_true_eq] at h1
 omega

theorem blI_len {X : It} (h : blI X = true) : X.P.length = 0 ∧ X.C.length = 0 ∧ X.S.length = 0 := by
 unfold blI at h
 simp only [Bool.and_eq_true, beq_iff_eq] at h
 omega
theorem blN_len {N : Nt} (h : blN N = true) : N.P.length = 0 ∧ N.Q.length = 0 ∧ N.D.length = 0 ∧ blI N.X = true := by
 unfold blN at h
 simp only [Bool.and_eq_true, beq_iff_eq] at h
 exact ⟨by omega, by omega, by omega, h.2⟩

theorem nil_of {α : Type} {L : List α} (h : L.length = 0) : L = [] := List.eq_nil_of_length_eq_zero h

theorem con_bs {N : Nt} {k : Int} (h : Con N k) : N.bs := by
 unfold Nt.bs
 rcases h with ⟨-, h⟩ | ⟨-, h⟩ | ⟨-, h⟩ | ⟨-, h⟩ | ⟨-, h⟩ | ⟨-, h⟩ | ⟨-, h⟩ | ⟨-, h⟩
 ·obtain ⟨⟨h1, h2⟩, h3⟩ := h
  obtain ⟨b1, b2, -, b4⟩ := blN_len h3
  obtain ⟨b5, b6, b7⟩ := blI_len b4
  simp only at b1 b2 b5 b6 b7
  exact ⟨by omega, by omega, by omega, dat_len h2, by omega, by omega, by omega⟩
 ·obtain ⟨h1, h2⟩ := h
  obtain ⟨b1, b2, b3, -⟩ := blN_len h2
  simp only at b1 b2 b3
  unfold vRc at h1
  simp only [Bool.and_eq_true, decide_eq_true_eq] at h1
  exact ⟨by omega, by omega, by omega, fun p hp => (by rw [nil_of b3] at hp; cases hp), by omega, by omega, by omega⟩
 ·obtain ⟨⟨-, h1⟩, h2⟩ := h
  obtain ⟨b1, -, b3, b4⟩ := blN_len h2
  obtain ⟨b5, b6, b7⟩ := blI_len b4
  simp only at b1 b3 b5 b6 b7
  have := ris_len (m := 64) h1
  exact ⟨by omega, by omega, by omega, fun p hp => (by rw [nil_of b3] at hp; cases hp), by omega, by omega, by omega⟩
 ·obtain ⟨⟨⟨h0, -⟩, -⟩, h2⟩ := h
  obtain ⟨-, b2, b3, b4⟩ := blN_len h2
  obtain ⟨b5, b6, b7⟩ := blI_len b4
  simp only at b2 b3 b5 b6 b7
  unfold wi at h0
  simp only [Bool.and_eq_true, decide_eq_true_eq] at h0
  exact ⟨by omega, by omega, by omega, fun p hp => (by rw [nil_of b3] at hp; cases hp), by omega, by omega, by omega⟩
 ·obtain ⟨b1, b2, b3, b4⟩ := blN_len h.2
  obtain ⟨b5, b6, b7⟩ := blI_len b4
  simp only at b1 b2 b3 b5 b6 b7
  exact ⟨by omega, by omega, by omega, fun p hp => (by rw [nil_of b3] at hp; cases hp), by omega, by omega, by omega⟩
 ·obtain ⟨b1, b2, b3, b4⟩ := blN_len h.2
  obtain ⟨b5, b6, b7⟩ := blI_len b4
  simp only at b1 b2 b3 b5 b6 b7
  exact ⟨by omega, by omega, by omega, fun p hp => (by rw [nil_of b3] at hp; cases hp), by omega, by omega, by omega⟩
 ·obtain ⟨b1, b2, b3, b4⟩ := blN_len h.2
  obtain ⟨b5, b6, b7⟩ := blI_len b4
  simp only at b1 b2 b3 b5 b6 b7
  exact ⟨by omega, by omega, by omega, fun p hp => (by rw [nil_of b3] at hp; cases hp), by omega, by omega, by omega⟩
 ·obtain ⟨⟨⟨-, h1⟩, h2⟩, h3⟩ := h
  obtain ⟨b1, b2, -, b4⟩ := blN_len h3
  obtain ⟨b5, b6, b7⟩ := blI_len b4
  simp only at b1 b2 b5 b6 b7
  unfold wi at h1
  simp only [Bool.and_eq_true, decide_eq_true_eq] at h1
  exact ⟨by omega, by omega, by omega, dat_len h2, by omega, by omega, by omega⟩

theorem gd_bs {N : Nt} (h : Gd N) : N.bs := by
 obtain ⟨-, hk, -⟩ := h
 rcases hk with ⟨-, h⟩ | ⟨-, h⟩
 ·exact con_bs h.2
 ·rcases h.2 with ⟨-, -, h⟩ | ⟨-, -, h⟩
  ·obtain ⟨b1, b2, b3, b4⟩ := blN_len h
   obtain ⟨b5, b6, b7⟩ := blI_len b4
   simp only at b1 b2 b3 b5 b6 b7
   exact ⟨by omega, by omega, by omega, fun p hp => (by rw [nil_of b3] at hp; cases hp), by omega, by omega, by omega⟩
  ·have := con_bs h
   exact ⟨this.1, this.2.1, this.2.2.1, this.2.2.2.1, this.2.2.2.2.1, this.2.2.2.2.2.1, this.2.2.2.2.2.2⟩

theorem vb_len : ∀ (k n : Nat), n < 128 ^ k → 0 < k → (vb n).length ≤ k
 | 0, _, _, h0 => by omega
 | k + 1, n, h, _ => by
  rw [vb]
  split
  ·simp
  ·rename_i hn
   simp only [List.length_cons]
   have hk : 0 < k := by
    rcases Nat.eq_zero_or_pos k with e | e
    ·subst e; simp at h; omega
    ·exact e
   have := vb_len k (n / 128) (by rw [Nat.pow_succ] at h; exact (Nat.div_lt_iff_lt_mul (by decide)).2 h) hk
   omega
theorem num_len {x : Int} (h : I64 x) : (num x).length ≤ 10 := vb_len 10 (zz x) (Nat.lt_of_lt_of_le (zz_lt h) (by decide)) (by decide)
theorem nat_len {n : Nat} (h : n ≤ 1000000) : (num (n : Int)).length ≤ 10 := num_len ⟨by omega, by omega⟩
theorem fl_len {α : Type} {f : α → List Nat} {c : Nat} : ∀ (L : List α), (∀ x ∈ L, (f x).length ≤ c) → (L.flatMap f).length ≤ L.length * c
 | [], _ => by simp
 | x :: l, h => by
  have h1 := h x (by simp)
  have h2 := fl_len l (fun y hy => h y (by simp [hy]))
  rw [List.flatMap_cons, List.length_append, List.length_cons, Nat.succ_mul]
  omega
theorem lst_len {α : Type} {f : α → List Nat} {c k : Nat} {L : List α} (h : ∀ x ∈ L, (f x).length ≤ c) (hk : L.length ≤ k) (hk2 : k ≤ 1000) : (lst f L).length ≤ 10 + k * c := by
 have h1 := fl_len L h
 have h2 := nat_len (n := L.length) (by omega)
 have h3 : L.length * c ≤ k * c := Nat.mul_le_mul_right c hk
 unfold lst
 rw [List.length_append]
 omega
theorem encG_len {g : G5} (h : g.rg) : (encG g).length ≤ 50 := by
 have h0 := num_len h.1
 have h1 := num_len h.2.1
 have h2 := num_len h.2.2.1
 have h3 := num_len h.2.2.2.1
 have h4 := num_len h.2.2.2.2
 simp only [encG, List.length_append]
 omega
theorem encM_len {g : M3} (h : g.rg) : (encM g).length ≤ 30 := by
 have h0 := num_len h.1
 have h1 := num_len h.2.1
 have h2 := num_len h.2.2
 simp only [encM, List.length_append]
 omega
theorem encS_len {s : S8} (h : s.rg) : (encS s).length ≤ 80 := by
 have h0 := num_len h.1
 have h1 := num_len h.2.1
 have h2 := num_len h.2.2.1
 have h3 := num_len h.2.2.2.1
 have h4 := num_len h.2.2.2.2.1
 have h5 := num_len h.2.2.2.2.2.1
 have h6 := num_len h.2.2.2.2.2.2.1
 have h7 := num_len h.2.2.2.2.2.2.2
 simp only [encS, List.length_append]
 omega
theorem all_of {α : Type} {d : α} {L : List α} {P : α → Prop} (h : ∀ k, k < L.length → P (L.getD k d)) : ∀ x ∈ L, P x := fun x hx => by
 obtain ⟨i, hi, rfl⟩ := List.getElem_of_mem hx
 have := h i hi
 simpa [List.getD, hi] using this
theorem encP_len {p : Pc} (h : p.rg) (hG : p.G.length ≤ 24) (hM : p.M.length ≤ 32) : (encP p).length ≤ 3000 := by
 obtain ⟨h0, h1, h2, h3, h4, h5, h6⟩ := h
 have h0 := num_len h0
 have h1 := num_len h1
 have h2 := num_len h2
 have h3 := num_len h3
 have h4 := num_len h4
 have h5 := lst_len (f := encG) (fun g hg => encG_len (all_of h5 g hg)) hG (by decide)
 have h6 := lst_len (f := encM) (fun g hg => encM_len (all_of h6 g hg)) hM (by decide)
 simp only [encP, List.length_append]
 omega
theorem encX_len {x : It} (h : x.rg) (hP : x.P.length ≤ 64) (hC : x.C.length ≤ 16) (hS : x.S.length ≤ 16) : (encX x).length ≤ 3000 := by
 obtain ⟨h0, h1, h2, h3, h4, h5, h6, h7, h8, h9, h10, h11⟩ := h
 have h0 := num_len h0
 have h1 := num_len h1
 have h2 := num_len h2
 have h3 := num_len h3
 have h4 := num_len h4
 have h5 := num_len h5
 have h6 := num_len h6
 have h7 := lst_len (f := num) (fun g hg => num_len (all_of h7 g hg)) hP (by decide)
 have h8 := lst_len (f := num) (fun g hg => num_len (all_of h8 g hg)) hC (by decide)
 have h9 := num_len h9
 have h10 := num_len h10
 have h11 := lst_len (f := encS) (fun g hg => encS_len (all_of h11 g hg)) hS (by decide)
 simp only [encX, List.length_append]
 omega
theorem bit_i64 (b : Bool) : I64 (bit b) := by
 cases b
 ·exact ⟨by decide, by decide⟩
 ·exact ⟨by decide, by decide⟩
set_option maxHeartbeats 1000000 in
theorem encN_len {n : Nt} (h : n.rg) (hb : n.bs) : (encN n).length ≤ 10000000 := by
 obtain ⟨h0, h1, h2, h3, h4, h5, h6, h7⟩ := h
 obtain ⟨b1, b2, b3, b4, b5, b6, b7⟩ := hb
 have q0 := h0 0 (by decide)
 rw [show iz (heads n) 0 = n.b from rfl] at q0
 replace q0 := num_len q0
 have q1 := h0 1 (by decide)
 rw [show iz (heads n) 1 = n.n from rfl] at q1
 replace q1 := num_len q1
 have q2 := h0 2 (by decide)
 rw [show iz (heads n) 2 = n.c from rfl] at q2
 replace q2 := num_len q2
 have q3 := h0 3 (by decide)
 rw [show iz (heads n) 3 = n.y from rfl] at q3
 replace q3 := num_len q3
 have q4 := h0 4 (by decide)
 rw [show iz (heads n) 4 = n.k from rfl] at q4
 replace q4 := num_len q4
 have q5 := h0 5 (by decide)
 rw [show iz (heads n) 5 = n.f from rfl] at q5
 replace q5 := num_len q5
 have q6 := h0 6 (by decide)
 rw [show iz (heads n) 6 = n.p from rfl] at q6
 replace q6 := num_len q6
 have q7 := h0 7 (by decide)
 rw [show iz (heads n) 7 = n.q from rfl] at q7
 replace q7 := num_len q7
 have q8 := h0 8 (by decide)
 rw [show iz (heads n) 8 = n.o from rfl] at q8
 replace q8 := num_len q8
 have q9 := h0 9 (by decide)
 rw [show iz (heads n) 9 = n.t from rfl] at q9
 replace q9 := num_len q9
 have h1 := num_len h1
 have h2 := num_len h2
 have h3 := num_len h3
 have hbk : (num (bit n.bk)).length ≤ 10 := num_len (bit_i64 n.bk)
 have h4 := lst_len (f := num) (fun g hg => num_len (all_of h4 g hg)) b1 (by decide)
 have h5 := lst_len (f := num) (fun g hg => num_len (all_of h5 g hg)) b2 (by decide)
 have h6 := lst_len (f := encP) (fun g hg => encP_len (all_of h6 g hg) (b4 g hg).1 (b4 g hg).2) b3 (by decide)
 have h7 := encX_len h7 b5 b6 b7
 clear b1 b2 b3 b4 b5 b6 b7 h0
 simp only [encN, List.length_append]
 generalize (num n.b).length = l0 at *
 generalize (num n.n).length = l1 at *
 generalize (lst encP n.D).length = l2 at *
 generalize (encX n.X).length = l3 at *
 generalize (lst num n.P).length = l4 at *
 generalize (lst num n.Q).length = l5 at *
 omega

end Go.Proofs.YtcgmmfcphfkdhaaGreat

/- Plain: the union of two sets of notes. -/
namespace Go.Proofs.YtcgmmfcphfkdhaaGreat
open Go Go.RowKit Go.Proofs Go.Abs

def sn (x y : Nt) : Prop := x.b = y.b ∧ x.n = y.n
def hasN (A : List Nt) (y : Nt) : Bool := A.any fun x => x.b == y.b && x.n == y.n
def ext (A B : List Nt) : List Nt := A ++ B.filter fun y => !hasN A y
def Fork (A B : List Nt) : Prop := ∃ x ∈ A, ∃ y ∈ B, sn x y ∧ x ≠ y

theorem hasN_iff {A : List Nt} {y : Nt} : hasN A y = true ↔ ∃ x ∈ A, sn x y := by
 unfold hasN sn
 simp [List.any_eq_true]

theorem Ord.uniq {A : List Nt} (h : Ord A) {x y : Nt} (hx : x ∈ A) (hy : y ∈ A) (hs : sn x y) : x = y := by
 obtain ⟨i, hi, rfl⟩ := List.getElem_of_mem hx
 obtain ⟨j, hj, rfl⟩ := List.getElem_of_mem hy
 unfold Ord at h
 rw [List.pairwise_iff_getElem] at h
 unfold sn at hs
 rcases Nat.lt_trichotomy i j with g | g | g
 ·have := h i j hi hj g; omega
 ·subst g; rfl
 ·have := h j i hj hi g; omega
theorem Ord.new {A : List Nt} (h : Ord A) {k : Nat} (hk : k < A.length) : ∀ x ∈ A.take k, ¬ sn x A[k] := fun x hx hs => by
 obtain ⟨i, hi, rfl⟩ := List.getElem_of_mem hx
 rw [List.length_take] at hi
 rw [List.getElem_take] at hs
 unfold Ord at h
 rw [List.pairwise_iff_getElem] at h
 have := h i k (by omega) hk (by omega)
 unfold sn at hs
 omega

theorem take_one (A : List Nt) {k : Nat} (hk : k < A.length) : A.take (k + 1) = A.take k ++ [A[k]] := by
 rw [List.take_add_one]
 simp [hk]

structure MrR (A B : List Nt) (k : Nat) (L : List Nv) : Prop where
 m : L.map Nv.N = ext A (B.take k)
 f : ∀ y ∈ B.take k, ∀ x ∈ A, sn x y → x = y

theorem upd_new {L : List Nv} {x : Nv} (h : ∀ y ∈ L, ¬ sn y.N x.N) : upd L x = L ++ [x] := by
 unfold upd
 cases hh : at? x.N.b x.N.n 0 L with
 | none => rfl
 | some p =>
  obtain ⟨-, h2, h3, h4⟩ := at_some hh
  exact absurd ⟨h3, h4⟩ (h p.2 (List.mem_of_getElem? h2))

theorem ext_snoc (A B : List Nt) (y : Nt) : ext A (B ++ [y]) = if hasN A y = true then ext A B else ext A B ++ [y] := by
 unfold ext
 rw [List.filter_append]
 by_cases h : hasN A y = true
 ·rw [if_pos h]; simp [h]
 ·rw [if_neg h]
  simp only [Bool.not_eq_true] at h
  simp [h]

theorem MrR.start (A B : List Nt) (L : List Nv) (h : L.map Nv.N = A) : MrR A B 0 L := ⟨by unfold ext; simpa using h, fun y hy => by simp at hy⟩

theorem MrR.none {A B : List Nt} {k : Nat} {L : List Nv} (h : MrR A B k L) (hk : k < B.length) (y : Nv) (hy : y.N = B[k]) (hn : at? y.N.b y.N.n 0 L = none) : MrR A B (k + 1) (upd L y) := by
 have h0 : ∀ x ∈ L, ¬ sn x.N y.N := fun x hx => at_none hn x hx
 have hA : hasN A y.N = false := by
  rw [← Bool.not_eq_true, hasN_iff]
  rintro ⟨x, hx, hs⟩
  have : x ∈ L.map Nv.N := by rw [h.m]; unfold ext; simp [hx]
  obtain ⟨z, hz, rfl⟩ := List.mem_map.1 this
  exact h0 z hz hs
 refine ⟨?_, fun z hz x hx hs => ?_⟩
 ·rw [upd_new h0, List.map_append, h.m, take_one B hk, ← hy, ext_snoc, if_neg (by rw [hA]; simp)]
  rfl
 ·rw [take_one B hk, ← hy, List.mem_append, List.mem_singleton] at hz
  rcases hz with hz | rfl
  ·exact h.f z hz x hx hs
  ·have : hasN A y.N = true := hasN_iff.2 ⟨x, hx, hs⟩
   rw [hA] at this; cases this

theorem MrR.some {A B : List Nt} {k : Nat} {L : List Nv} (h : MrR A B k L) (oB : Ord B) (hk : k < B.length) (y : Nv) (hy : y.N = B[k]) {p : Nat × Nv} (hn : at? y.N.b y.N.n 0 L = Option.some p) : p.2 ∈ L ∧ p.2.N ∈ A ∧ sn p.2.N y.N := by
 obtain ⟨-, h2, h3, h4⟩ := at_some hn
 have hm := List.mem_of_getElem? h2
 refine ⟨hm, ?_, h3, h4⟩
 have : p.2.N ∈ L.map Nv.N := List.mem_map.2 ⟨_, hm, rfl⟩
 rw [h.m] at this
 unfold ext at this
 rcases List.mem_append.1 this with g | g
 ·exact g
 ·have g1 := (List.mem_filter.1 g).1
  exact absurd (show sn p.2.N B[k] by rw [← hy]; exact ⟨h3, h4⟩) (oB.new hk _ g1)

theorem MrR.same {A B : List Nt} {k : Nat} {L : List Nv} (h : MrR A B k L) (oA : Ord A) (oB : Ord B) (hk : k < B.length) (y : Nv) (hy : y.N = B[k]) {p : Nat × Nv} (hn : at? y.N.b y.N.n 0 L = Option.some p) (he : y.N = p.2.N) : MrR A B (k + 1) (upd L y) := by
 obtain ⟨hm, hA, hs⟩ := h.some oB hk y hy hn
 obtain ⟨-, h2, -, -⟩ := at_some hn
 rw [Nat.sub_zero] at h2
 have hmap : (upd L y).map Nv.N = L.map Nv.N := by
  unfold upd
  rw [hn]
  apply List.ext_getElem?
  intro j
  simp only [List.getElem?_map, List.getElem?_set]
  by_cases e : p.1 = j
  ·subst e
   rw [if_pos rfl, if_pos (List.getElem?_eq_some_iff.1 h2).1, h2]
   simp [he]
  ·rw [if_neg e]
 have hh : hasN A y.N = true := hasN_iff.2 ⟨p.2.N, hA, hs⟩
 refine ⟨?_, fun z hz x hx hsx => ?_⟩
 ·rw [hmap, h.m, take_one B hk, ← hy, ext_snoc, if_pos hh]
 ·rw [take_one B hk, ← hy, List.mem_append, List.mem_singleton] at hz
  rcases hz with hz | rfl
  ·exact h.f z hz x hx hsx
  ·rw [he]
   exact oA.uniq hx hA ⟨hsx.1.trans hs.1.symm, hsx.2.trans hs.2.symm⟩

theorem MrR.fork {A B : List Nt} {k : Nat} {L : List Nv} (h : MrR A B k L) (oB : Ord B) (hk : k < B.length) (y : Nv) (hy : y.N = B[k]) {p : Nat × Nv} (hn : at? y.N.b y.N.n 0 L = Option.some p) (he : ¬ y.N = p.2.N) : Fork A B := by
 obtain ⟨-, hA, hs⟩ := h.some oB hk y hy hn
 exact ⟨_, hA, y.N, by rw [hy]; exact List.getElem_mem hk, hs, fun e => he e.symm⟩

theorem MrR.no {A B : List Nt} {L : List Nv} (h : MrR A B B.length L) : ¬ Fork A B := by
 rintro ⟨x, hx, y, hy, hs, hne⟩
 exact hne (h.f y (by rw [List.take_length]; exact hy) x hx hs)

def nn (x : Nt) : Int × Int := (x.b, x.n)
theorem Ord.nodup {A : List Nt} (h : Ord A) : (A.map nn).Nodup := by
 unfold List.Nodup
 rw [List.pairwise_map]
 refine h.imp fun {a b} h e => ?_
 unfold nn at e
 simp only [Prod.mk.injEq] at e
 omega
theorem ext_nodup {A B : List Nt} (oA : Ord A) (oB : Ord B) : ((ext A B).map nn).Nodup := by
 unfold ext
 rw [List.map_append, List.nodup_append]
 refine ⟨oA.nodup, (oB.nodup).sublist ((List.filter_sublist).map nn), fun a ha b hb e => ?_⟩
 obtain ⟨x, hx, rfl⟩ := List.mem_map.1 ha
 obtain ⟨y, hy, rfl⟩ := List.mem_map.1 hb
 have hy2 := (List.mem_filter.1 hy).2
 have : hasN A y = true := hasN_iff.2 ⟨x, hx, by unfold nn at e; simp only [Prod.mk.injEq] at e; exact e⟩
 rw [this] at hy2
 cases hy2
theorem MrR.nodup {A B : List Nt} {k : Nat} {L : List Nv} (h : MrR A B k L) (oA : Ord A) (oB : Ord B) : (L.map nm).Nodup := by
 have e : L.map nm = (L.map Nv.N).map nn := by rw [List.map_map]; rfl
 rw [e, h.m]
 exact ext_nodup oA (oB.sublist (List.take_sublist _ _))
theorem ext_mem {A B : List Nt} {x : Nt} (h : x ∈ ext A B) : x ∈ A ∨ x ∈ B := by
 unfold ext at h
 rcases List.mem_append.1 h with g | g
 ·exact .inl g
 ·exact .inr (List.mem_filter.1 g).1

def MgR (A B K : List Nt) (ec : Int) : Prop :=
 (¬ (StOk A ∧ StOk B) ∧ ec = 1 ∧ K = []) ∨ ((StOk A ∧ StOk B) ∧ Fork A B ∧ ec = 91 ∧ K = []) ∨
 ((StOk A ∧ StOk B) ∧ ¬ Fork A B ∧ 400 < (ext A B).length ∧ ec = 2 ∧ K = []) ∨ ((StOk A ∧ StOk B) ∧ ¬ Fork A B ∧ (ext A B).length ≤ 400 ∧ ec = 0 ∧ K.Perm (ext A B) ∧ Ord K)

theorem ord_perm {K K' : List Nt} (h : Ord K) (h' : Ord K') (hp : K.Perm K') : K = K' := by
 refine List.Perm.eq_of_pairwise (le := fun x y => x = y ∨ x.b < y.b ∨ x.b = y.b ∧ x.n < y.n) ?_ (h.imp fun {a b} h => .inr h) (h'.imp fun {a b} h => .inr h) hp
 intro a b _ _ h1 h2
 rcases h1 with rfl | h1
 ·rfl
 ·rcases h2 with rfl | h2
  ·rfl
  ·omega

theorem mg_eq {A B K K' : List Nt} {ec ec' : Int} (h : MgR A B K ec) (h' : MgR A B K' ec') : ec = ec' ∧ K = K' := by
 rcases h with ⟨a1, a2, a3⟩ | ⟨a1, a2, a3, a4⟩ | ⟨a1, a2, a3, a4, a5⟩ | ⟨a1, a2, a3, a4, a5, a6⟩ <;>
 rcases h' with ⟨b1, b2, b3⟩ | ⟨b1, b2, b3, b4⟩ | ⟨b1, b2, b3, b4, b5⟩ | ⟨b1, b2, b3, b4, b5, b6⟩
 all_goals first
  | (exact absurd b1 a1)
  | (exact absurd a1 b1)
  | (exact absurd a2 b2)
  | (exact absurd b2 a2)
  | (exfalso; omega)
  | (subst a2; subst b2; subst a3; subst b3; exact ⟨rfl, rfl⟩)
  | (subst a3; subst b3; subst a4; subst b4; exact ⟨rfl, rfl⟩)
  | (subst a4; subst b4; subst a5; subst b5; exact ⟨rfl, rfl⟩)
  | (exact ⟨a4.trans b4.symm, ord_perm a6 b6 (a5.trans b5.symm)⟩)

end Go.Proofs.YtcgmmfcphfkdhaaGreat
