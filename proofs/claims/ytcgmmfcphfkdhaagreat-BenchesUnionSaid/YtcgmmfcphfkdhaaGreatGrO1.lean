/- The abstract machine, part GrO1. -/
import Derived.Test.YtcgmmfcphfkdhaaGreatGrN1
import Derived.Test.YtcgmmfcphfkdhaaGreatD2
import Derived.Laws.Bits64
/- Plain: the encoding of a note, and that it is one to one. -/
namespace Go.Proofs.YtcgmmfcphfkdhaaGreat
open Go

def vb (n : Nat) : List Nat := if n < 128 then [n] else (n % 128 + 128) :: vb (n / 128)

def Pf {α : Type} (f : α → List Nat) : Prop := ∀ x y a b, f x ++ a = f y ++ b → x = y ∧ a = b

theorem vb_pf : Pf vb := by
 intro x
 induction x using Nat.strongRecOn with
 | _ x ih =>
  intro y a b h
  rw [vb, vb.eq_1 y] at h
  by_cases hx : x < 128
  ·by_cases hy : y < 128
   ·rw [if_pos hx, if_pos hy] at h
    simp only [List.cons_append, List.nil_append, List.cons.injEq] at h
    exact h
   ·rw [if_pos hx, if_neg hy] at h
    simp only [List.cons_append, List.nil_append, List.cons.injEq] at h
    omega
  ·by_cases hy : y < 128
   ·rw [if_neg hx, if_pos hy] at h
    simp only [List.cons_append, List.nil_append, List.cons.injEq] at h
    omega
   ·rw [if_neg hx, if_neg hy] at h
    simp only [List.cons_append, List.cons.injEq] at h
    obtain ⟨h1, h2⟩ := h
    obtain ⟨h3, h4⟩ := ih (x / 128) (by omega) (y / 128) a b h2
    exact ⟨by omega, h4⟩

def zz (v : Int) : Nat := if 0 ≤ v then (2 * v).toNat else (-2 * v - 1).toNat
theorem zz_inj {v u : Int} (h : zz v = zz u) : v = u := by
 unfold zz at h
 split at h <;> split at h <;> omega

def num (v : Int) : List Nat := vb (zz v)
theorem num_pf : Pf num := fun x y a b h => by
 obtain ⟨h1, h2⟩ := vb_pf _ _ a b h
 exact ⟨zz_inj h1, h2⟩

theorem pf_flat {α : Type} {f : α → List Nat} (hf : Pf f) : ∀ (l l' : List α) (a b : List Nat), l.length = l'.length → l.flatMap f ++ a = l'.flatMap f ++ b → l = l' ∧ a = b
 | [], [], _, _, _, h => ⟨rfl, by simpa using h⟩
 | [], _ :: _, _, _, hl, _ => by simp at hl
 | _ :: _, [], _, _, hl, _ => by simp at hl
 | x :: l, y :: l', a, b, hl, h => by
  simp only [List.flatMap_cons, List.append_assoc] at h
  obtain ⟨h1, h2⟩ := hf _ _ _ _ h
  obtain ⟨h3, h4⟩ := pf_flat hf l l' a b (by simpa using hl) h2
  exact ⟨by rw [h1, h3], h4⟩

def lst {α : Type} (f : α → List Nat) (l : List α) : List Nat := num l.length ++ l.flatMap f
theorem pf_lst {α : Type} {f : α → List Nat} (hf : Pf f) : Pf (lst f) := fun l l' a b h => by
 unfold lst at h
 simp only [List.append_assoc] at h
 obtain ⟨h1, h2⟩ := num_pf _ _ _ _ h
 exact pf_flat hf l l' a b (by omega) h2

def encG (g : G5) : List Nat := num g.a ++ (num g.b ++ (num g.c ++ (num g.d ++ num g.e)))
def encM (g : M3) : List Nat := num g.x ++ (num g.y ++ num g.z)
def encS (s : S8) : List Nat := num s.a ++ (num s.b ++ (num s.c ++ (num s.d ++ (num s.e ++ (num s.f ++ (num s.g ++ num s.h))))))
def encP (p : Pc) : List Nat := num p.id ++ (num p.c ++ (num p.r ++ (num p.m ++ (num p.s ++ (lst encG p.G ++ lst encM p.M)))))
def encX (x : It) : List Nat := num x.id ++ (num x.k ++ (num x.y ++ (num x.f ++ (num x.p ++ (num x.l ++ (num x.s ++ (lst num x.P ++ (lst num x.C ++ (num x.lo ++ (num x.hi ++ lst encS x.S))))))))))
def bit (b : Bool) : Int := if b then 1 else 0
def encN (n : Nt) : List Nat := num n.b ++ (num n.n ++ (num n.c ++ (num n.y ++ (num n.k ++ (num n.f ++ (num n.p ++ (num n.q ++ (num n.o ++ (num n.t ++ (num n.sh ++ (num (bit n.bk) ++ (num n.rb ++ (num n.rn ++ (lst num n.P ++ (lst num n.Q ++ (lst encP n.D ++ encX n.X))))))))))))))))

theorem encG_pf : Pf encG := fun x y a b h => by
 obtain ⟨x0, x1, x2, x3, x4⟩ := x
 obtain ⟨y0, y1, y2, y3, y4⟩ := y
 simp only [encG, List.append_assoc] at h
 obtain ⟨rfl, h1⟩ := num_pf _ _ _ _ h
 obtain ⟨rfl, h2⟩ := num_pf _ _ _ _ h1
 obtain ⟨rfl, h3⟩ := num_pf _ _ _ _ h2
 obtain ⟨rfl, h4⟩ := num_pf _ _ _ _ h3
 obtain ⟨rfl, h5⟩ := num_pf _ _ _ _ h4
 exact ⟨rfl, h5⟩
theorem encM_pf : Pf encM := fun x y a b h => by
 obtain ⟨x0, x1, x2⟩ := x
 obtain ⟨y0, y1, y2⟩ := y
 simp only [encM, List.append_assoc] at h
 obtain ⟨rfl, h1⟩ := num_pf _ _ _ _ h
 obtain ⟨rfl, h2⟩ := num_pf _ _ _ _ h1
 obtain ⟨rfl, h3⟩ := num_pf _ _ _ _ h2
 exact ⟨rfl, h3⟩
theorem encS_pf : Pf encS := fun x y a b h => by
 obtain ⟨x0, x1, x2, x3, x4, x5, x6, x7⟩ := x
 obtain ⟨y0, y1, y2, y3, y4, y5, y6, y7⟩ := y
 simp only [encS, List.append_assoc] at h
 obtain ⟨rfl, h1⟩ := num_pf _ _ _ _ h
 obtain ⟨rfl, h2⟩ := num_pf _ _ _ _ h1
 obtain ⟨rfl, h3⟩ := num_pf _ _ _ _ h2
 obtain ⟨rfl, h4⟩ := num_pf _ _ _ _ h3
 obtain ⟨rfl, h5⟩ := num_pf _ _ _ _ h4
 obtain ⟨rfl, h6⟩ := num_pf _ _ _ _ h5
 obtain ⟨rfl, h7⟩ := num_pf _ _ _ _ h6
 obtain ⟨rfl, h8⟩ := num_pf _ _ _ _ h7
 exact ⟨rfl, h8⟩
theorem encP_pf : Pf encP := fun x y a b h => by
 obtain ⟨x0, x1, x2, x3, x4, x5, x6⟩ := x
 obtain ⟨y0, y1, y2, y3, y4, y5, y6⟩ := y
 simp only [encP, List.append_assoc] at h
 obtain ⟨rfl, h1⟩ := num_pf _ _ _ _ h
 obtain ⟨rfl, h2⟩ := num_pf _ _ _ _ h1
 obtain ⟨rfl, h3⟩ := num_pf _ _ _ _ h2
 obtain ⟨rfl, h4⟩ := num_pf _ _ _ _ h3
 obtain ⟨rfl, h5⟩ := num_pf _ _ _ _ h4
 obtain ⟨rfl, h6⟩ := pf_lst encG_pf _ _ _ _ h5
 obtain ⟨rfl, h7⟩ := pf_lst encM_pf _ _ _ _ h6
 exact ⟨rfl, h7⟩
theorem encX_pf : Pf encX := fun x y a b h => by
 obtain ⟨x0, x1, x2, x3, x4, x5, x6, x7, x8, x9, x10, x11⟩ := x
 obtain ⟨y0, y1, y2, y3, y4, y5, y6, y7, y8, y9, y10, y11⟩ := y
 simp only [encX, List.append_assoc] at h
 obtain ⟨rfl, h1⟩ := num_pf _ _ _ _ h
 obtain ⟨rfl, h2⟩ := num_pf _ _ _ _ h1
 obtain ⟨rfl, h3⟩ := num_pf _ _ _ _ h2
 obtain ⟨rfl, h4⟩ := num_pf _ _ _ _ h3
 obtain ⟨rfl, h5⟩ := num_pf _ _ _ _ h4
 obtain ⟨rfl, h6⟩ := num_pf _ _ _ _ h5
 obtain ⟨rfl, h7⟩ := num_pf _ _ _ _ h6
 obtain ⟨rfl, h8⟩ := pf_lst num_pf _ _ _ _ h7
 obtain ⟨rfl, h9⟩ := pf_lst num_pf _ _ _ _ h8
 obtain ⟨rfl, h10⟩ := num_pf _ _ _ _ h9
 obtain ⟨rfl, h11⟩ := num_pf _ _ _ _ h10
 obtain ⟨rfl, h12⟩ := pf_lst encS_pf _ _ _ _ h11
 exact ⟨rfl, h12⟩
theorem bit_inj {a b : Bool} (h : bit a = bit b) : a = b := by
 cases a <;> cases b <;> simp [bit] at h ⊢
theorem encN_pf : Pf encN := fun x y a b h => by
 obtain ⟨x0, x1, x2, x3, x4, x5, x6, x7, x8, x9, x10, x11, x12, x13, x14, x15, x16, x17⟩ := x
 obtain ⟨y0, y1, y2, y3, y4, y5, y6, y7, y8, y9, y10, y11, y12, y13, y14, y15, y16, y17⟩ := y
 simp only [encN, List.append_assoc] at h
 obtain ⟨rfl, h1⟩ := num_pf _ _ _ _ h
 obtain ⟨rfl, h2⟩ := num_pf _ _ _ _ h1
 obtain ⟨rfl, h3⟩ := num_pf _ _ _ _ h2
 obtain ⟨rfl, h4⟩ := num_pf _ _ _ _ h3
 obtain ⟨rfl, h5⟩ := num_pf _ _ _ _ h4
 obtain ⟨rfl, h6⟩ := num_pf _ _ _ _ h5
 obtain ⟨rfl, h7⟩ := num_pf _ _ _ _ h6
 obtain ⟨rfl, h8⟩ := num_pf _ _ _ _ h7
 obtain ⟨rfl, h9⟩ := num_pf _ _ _ _ h8
 obtain ⟨rfl, h10⟩ := num_pf _ _ _ _ h9
 obtain ⟨rfl, h11⟩ := num_pf _ _ _ _ h10
 obtain ⟨hb, h12⟩ := num_pf _ _ _ _ h11
 obtain rfl := bit_inj hb
 obtain ⟨rfl, h13⟩ := num_pf _ _ _ _ h12
 obtain ⟨rfl, h14⟩ := num_pf _ _ _ _ h13
 obtain ⟨rfl, h15⟩ := pf_lst num_pf _ _ _ _ h14
 obtain ⟨rfl, h16⟩ := pf_lst num_pf _ _ _ _ h15
 obtain ⟨rfl, h17⟩ := pf_lst encP_pf _ _ _ _ h16
 obtain ⟨rfl, h18⟩ := encX_pf _ _ _ _ h17
 exact ⟨rfl, h18⟩

theorem encN_inj {x y : Nt} (h : encN x = encN y) : x = y := (encN_pf x y [] [] (by rw [h])).1

end Go.Proofs.YtcgmmfcphfkdhaaGreat

/- Walks: the writer of bytes: what it is, a byte and a number appended. -/
namespace Go.Proofs.YtcgmmfcphfkdhaaGreat
open Go Go.RowKit Go.Proofs Go.Torn Go.Abs

structure Wr (W0 : World) (A : Nat) (W : World) (v : Value) (D : List Nat) : Prop where
 lo : W0.heap.size ≤ A
 bx : NB W A #[v] 170
 own : W.ownsRow W0.heap.size 5 1 v D.length (bc D)
 far : ∀ k, v.ownBlock = some k → k ≠ A
 be : Below W0.heap.size W0 W
 by' : By D

structure Ck (A : Nat) (v : Value) (W : World) (v' : Value) (W' : World) : Prop where
 c : Chg W W' (fun k => k = A ∨ v.ownBlock = some k)
 o : v'.ownBlock = v.ownBlock ∨ ∃ k, v'.ownBlock = some k ∧ W.heap.size ≤ k

theorem Ck.refl (A : Nat) (v : Value) (W : World) : Ck A v W v W := ⟨Chg.refl _ _, .inl rfl⟩
theorem Ck.trans {A : Nat} {v v' v'' : Value} {W W' W'' : World} (h : Ck A v W v' W') (k : Ck A v' W' v'' W'') : Ck A v W v'' W'' := by
 refine ⟨h.c.trans k.c ?_, ?_⟩
 ·rintro i hi (e | e)
  ·exact .inl e
  ·rcases h.o with g | ⟨j, g, hj⟩
   ·exact .inr (by rw [← g]; exact e)
   ·rw [g] at e
    simp only [Option.some.injEq] at e
    omega
 ·rcases k.o with g | ⟨j, g, hj⟩
  ·rcases h.o with g' | ⟨j, g', hj⟩
   ·exact .inl (g.trans g')
   ·exact .inr ⟨j, g.trans g', hj⟩
  ·exact .inr ⟨j, g, Nat.le_trans h.c.size hj⟩
theorem Ck.of_below {A : Nat} {v v' : Value} {W W1 W' : World} (h : Below W.heap.size W W1) (k : Ck A v W1 v' W') : Ck A v W v' W' :=
 Ck.trans (v' := v) (W' := W1) ⟨Chg.of_below _ h, .inl rfl⟩ k

def Fo (A : Nat) (v : Value) (W : World) (b : Nat) : Prop := b < W.heap.size ∧ b ≠ A ∧ v.ownBlock ≠ some b
theorem Fo.heap {A b : Nat} {v v' : Value} {W W' : World} (f : Fo A v W b) (h : Ck A v W v' W') : W'.heap[b]? = W.heap[b]? :=
 h.c.block b f.1 (fun e => by
  rcases e with e | e
  ·exact f.2.1 e
  ·exact f.2.2 e)
theorem Fo.keep {A b : Nat} {v v' : Value} {W W' : World} (f : Fo A v W b) (h : Ck A v W v' W') : Fo A v' W' b :=
 ⟨Nat.lt_of_lt_of_le f.1 h.c.size, f.2.1, fun e => by
  rcases h.o with g | ⟨j, g, hj⟩
  ·rw [g] at e; exact f.2.2 e
  ·rw [g] at e
   simp only [Option.some.injEq] at e
   have := f.1
   omega⟩
theorem Fo.cell {A b o : Nat} {v v' u : Value} {W W' : World} (f : Fo A v W b) (h : Ck A v W v' W') (c : W.cell? ⟨b, o, none⟩ = some u) : W'.cell? ⟨b, o, none⟩ = some u := by
 rw [World.cell?_of_block (f.heap h)]; exact c
theorem Fo.nb {A b : Nat} {v v' : Value} {V : Array Value} {t : TypeId} {W W' : World} (f : Fo A v W b) (h : Ck A v W v' W') (c : NB W b V t) : NB W' b V t := (f.heap h).trans c

theorem own_lt {base : Nat} {W : World} {v : Value} {n : Nat} {xs : List Value} (h : W.ownsRow base 5 1 v n xs) : ∀ k, v.ownBlock = some k → base ≤ k ∧ k < W.heap.size := by
 rcases h.2 with ⟨rfl, -⟩ | ⟨g, cap, cur, rfl, hb, hg, -⟩
 ·intro k e; cases e
 ·intro k e
  have : g = k := by simpa [Value.ownBlock] using e
  subst this
  exact ⟨hb, (Array.getElem?_eq_some_iff.1 hg).1⟩

theorem Wr.keep {W0 : World} {A : Nat} {W W' : World} {v : Value} {D : List Nat} (h : Wr W0 A W v D) (hb : Below W.heap.size W W') : Wr W0 A W' v D :=
 ⟨h.lo, h.bx.keep hb, (Chg.of_below (fun _ => False) hb).own h.own (fun _ _ e => e), h.far, h.be.trans (hb.mono h.be.size), h.by'⟩
theorem Wr.fo {W0 : World} {A : Nat} {W W' : World} {v : Value} {D : List Nat} {b : Nat} (h : Wr W0 A W v D) (hb : W.heap.size ≤ b) (hb' : b < W'.heap.size) : Fo A v W' b :=
 ⟨hb', fun e => by have := h.bx.lt; omega, fun e => by have := own_lt h.own b e; omega⟩

theorem wr_push {W0 : World} {A : Nat} {W : World} {v : Value} {D : List Nat} (h : Wr W0 A W v D) (x : Nat) (hx : x < 256) (hl : D.length + 1 ≤ 10000000) :
  ∃ a n c a' n' c' w', v = .slice a n c ∧ (Builtin.append_ #[46, 46] 46 #[.slice a n c, .slice (some ⟨W.heap.size, 0, none⟩) 1 1]).run Tryz.prog (W.alloc (.cells #[.int .u8 (x : Int)] 5)) = .ok (.slice a' n' c') w' ∧
   W.cell? ⟨A, 0, none⟩ = some (.slice a n c) ∧ w'.cell? ⟨A, 0, none⟩ = some (.slice a n c) ∧ w'.frozen? ⟨A, 0, none⟩ = false ∧
   Hid (∀ w'', w'' = w'.setCell ⟨A, 0, none⟩ (.slice a' n' c') → ∃ v', Wr W0 A w'' v' (D ++ [x]) ∧ Ck A v W v' w'') := by
 have hal : Below W.heap.size W (W.alloc (.cells #[.int .u8 (x : Int)] 5)) := (Below.refl _ _).alloc (Nat.le_refl _) _
 have h1 := h.keep hal
 have hs : SlB (W.alloc (.cells #[.int .u8 (x : Int)] 5)) (.slice (some ⟨W.heap.size, 0, none⟩) 1 1) [x] :=
  ⟨_, _, rfl, ⟨by simp, fun e => by cases e⟩, fun _ => ⟨_, _, rfl, fun k hk => by
   have hk0 : k = 0 := by simp at hk; exact hk
   subst hk0
   have := (NB.new W #[.int .u8 (x : Int)] 5).c (k := 0) (v := .int .u8 (x : Int)) rfl
   simp [this]⟩⟩
 obtain ⟨v', w', run, ho, hg, hvb⟩ := push_any (W.alloc (.cells #[.int .u8 (x : Int)] 5)) h1.be.size h1.own hs (by simpa using hl)
 have hlt := own_lt h1.own
 have cg := Chg.of_grown (fun k => v.ownBlock = some k) hg (fun k e => e.symm)
 have b1 : NB w' A #[v] 170 := by
  unfold NB
  rw [cg.block A h1.bx.lt (fun e => h.far A e rfl)]
  exact h1.bx
 have fv : ∀ k, v'.ownBlock = some k → k ≠ A := fun k e => by
  rcases hvb with g | g
  ·exact h.far k (by rw [← g]; exact e)
  ·rw [g] at e
   have := h1.bx.lt
   simp only [Option.some.injEq] at e
   omega
 obtain ⟨a, c, hv, -, -⟩ := own_slice h.own
 obtain ⟨a', c', hv', -, -⟩ := own_slice ho
 subst hv
 subst hv'
 refine ⟨_, _, _, _, _, _, w', rfl, run, h.bx.c rfl, b1.c rfl, b1.f 0, Lib.hid ?_⟩
 rintro w'' rfl
 have cs := Chg.set (W := w') (fun k => k = A) A 0 (.slice a' (D ++ [x]).length c') rfl
 have cA : Chg (W.alloc (.cells #[.int .u8 (x : Int)] 5)) (w'.setCell ⟨A, 0, none⟩ (.slice a' (D ++ [x]).length c')) (fun k => k = A ∨ (Value.slice a D.length c).ownBlock = some k) :=
  ⟨cs.os.trans cg.os, cs.tape.trans cg.tape, cs.output.trans cg.output, Nat.le_trans cg.size cs.size, fun i hi hn => (cs.block i (Nat.lt_of_lt_of_le hi cg.size) (fun e => hn (.inl e))).trans (cg.block i hi (fun e => hn (.inr e)))⟩
 refine ⟨_, ⟨h.lo, b1.set 0 _, cs.own ho fv, fv, ?_, By_append h.by' (fun u hu => by simp at hu; omega)⟩, Ck.of_below hal ⟨cA, ?_⟩⟩
 ·exact h1.be.trans ((cA.below (B := W0.heap.size) h1.be.size (fun k hk e => by
   rcases e with e | e
   ·have := h.lo; omega
   ·have := hlt k e; omega)))
 ·rcases hvb with g | g
  ·exact .inl g
  ·exact .inr ⟨_, g, Nat.le_refl _⟩

end Go.Proofs.YtcgmmfcphfkdhaaGreat

/- Walks: a number is written. -/
namespace Go.Proofs.YtcgmmfcphfkdhaaGreat
open Go Go.RowKit Go.Proofs Go.Torn Go.Abs

def nat' : Value → Nat | .int _ n => n.toNat | _ => 0

theorem zz_lt {x : Int} (h : -9223372036854775808 ≤ x ∧ x ≤ 9223372036854775807) : zz x < 18446744073709551616 := by
 unfold zz; split <;> omega

theorem xall (y : Nat) (h : y < 18446744073709551616) : 18446744073709551615 ^^^ y = 18446744073709551615 - y := by
 have h1 : (BitVec.allOnes 64 ^^^ BitVec.ofNat 64 y) = ~~~ (BitVec.ofNat 64 y) := BitVec.not_def.symm
 have h2 := congrArg BitVec.toNat h1
 rw [BitVec.toNat_xor, BitVec.toNat_not, BitVec.toNat_ofNat, BitVec.toNat_allOnes, Nat.mod_eq_of_lt h] at h2
 exact h2

theorem neg_zz {x : Int} (h : -9223372036854775808 ≤ x ∧ x < 0) : bits BinOp.xor IntKind.u64 IntKind.u64.max (IntKind.u64.wrap (IntKind.u64.wrap x * 2)) = ((zz x : Nat) : Int) := by
 have e1 : IntKind.u64.wrap (IntKind.u64.wrap x * 2) = (((2 * x + 18446744073709551616).toNat : Nat) : Int) := by
  rw [IntKind.wrap_u64, IntKind.wrap_u64]; omega
 have e2 : IntKind.u64.max = ((18446744073709551615 : Nat) : Int) := rfl
 rw [e1, e2, bits_xor_u64_nat _ _ (by decide) (by omega), xall _ (by omega)]
 unfold zz
 rw [if_neg (by omega)]
 omega

set_option maxRecDepth 100000 in
set_option maxHeartbeats 2000000 in
theorem num126 {W0 : World} {A : Nat} {w : World} {v : Value} {D : List Nat} (h : Wr W0 A w v D) (x : Int) (hx : -9223372036854775808 ≤ x ∧ x ≤ 9223372036854775807) (hl : D.length + (num x).length ≤ 10000000) :
  Calls Tryz.prog 126 #[.pointer (some ⟨A, 0, none⟩), .int .i64 x] w fun e w' => e = .returned (.tuple #[]) ∧ ∃ v', Wr W0 A w' v' (D ++ num x) ∧ Ck A v w v' w' := by
 have hz := zz_lt hx
 obtain ⟨E, hE⟩ : ∃ E, num x = E := ⟨_, rfl⟩
 have hvb : vb (zz x) = E := hE
 rw [hE] at hl ⊢
 have HX := Lib.hid hx
 have HL := Lib.hid hl
 have HB := Lib.hid hvb
 have HZ := Lib.hid hz
 have H := Lib.hid h
 clear hvb hE hl hz h
 by_cases h0 : 0 ≤ x
 ·have j0 : decide (x < 0) = false := by simp; omega
  have hzz : zz x = (x * 2).toNat := by unfold zz; rw [if_pos h0]; omega
  go_enter Tryz.func126, Tryz.ntmps126
  go_wp2
  have e0 : x * 2 = ((zz x : Nat) : Int) := by omega
  rw [e0]
  clear hx hzz j0 e0 HX
  obtain ⟨q0, hq0⟩ : ∃ q, zz x = q := ⟨_, rfl⟩
  rw [hq0] at HB HZ ⊢
  clear hq0
  go_loopw [4] (fun u wr => ∃ q : Nat, q < 18446744073709551616 ∧ u = .int .u64 q ∧ Hid (∃ v' F, Wr W0 A wr v' F ∧ Ck A v w v' wr ∧ F ++ vb q = D ++ E)) (fun u _ => nat' u)
  case atStart => exact ⟨q0, HZ.out, rfl, Lib.hid ⟨v, D, H.out, Ck.refl _ _ _, by rw [HB.out]⟩⟩
  case round =>
   obtain ⟨q, hq, rfl, hrel⟩ := hrel
   obtain ⟨v1, F, hw, hck, hF⟩ := hrel.out
   clear hrel
   by_cases hq1 : q < 128
   ·have j1 : decide ((q : Int) ≥ 128) = false := by simp; omega
    have hvq : vb q = [q] := by rw [vb, if_pos hq1]
    rw [hvq] at hF
    have hlF : F.length + 1 ≤ 10000000 := by
     have := congrArg List.length hF
     have := HL.out
     simp only [List.length_append, List.length_singleton] at *
     omega
    obtain ⟨a, n, c, a', n', c', w1, rfl, run, c0, c1, f1, fin⟩ := wr_push hw q (by omega) hlF
    have fin2 : Hid (∀ w'', w'' = w1.setCell ⟨A, 0, none⟩ (.slice a' n' c') → ∃ v', Wr W0 A w'' v' (D ++ E) ∧ Ck A v w v' w'') := Lib.hid (fun w'' e => by
     obtain ⟨v', g1, g2⟩ := fin.out w'' e
     rw [hF] at g1
     exact ⟨v', g1, hck.trans g2⟩)
    clear hF hck hw fin hlF hvq HL HB HZ
    go_wp2_with (at_builtin; refine Lib.wpList_append_run _ rfl _ _ _ _ rfl _ _ rfl rfl _ _ run ?_)
    exact Go.Great.bodyPost_end0 rfl rfl ⟨rfl, fin2.out _ rfl⟩
   ·have j1 : decide ((q : Int) ≥ 128) = true := by simp; omega
    have hvq : vb q = (q % 128 + 128) :: vb (q / 128) := by rw [vb, if_neg hq1]
    rw [hvq] at hF
    have hlF : F.length + 1 ≤ 10000000 := by
     have := congrArg List.length hF
     have := HL.out
     simp only [List.length_append, List.length_cons] at *
     omega
    obtain ⟨a, n, c, a', n', c', w1, rfl, run, c0, c1, f1, fin⟩ := wr_push hw (q % 128 + 128) (by omega) hlF
    have e1 : (((q % 128 + 128 : Nat)) : Int) = (q : Int) % 128 + 128 := by omega
    rw [e1] at run
    have fin2 : Hid (∀ w'', w'' = w1.setCell ⟨A, 0, none⟩ (.slice a' n' c') → ∃ v' F, Wr W0 A w'' v' F ∧ Ck A v w v' w'' ∧ F ++ vb (q / 128) = D ++ E) := Lib.hid (fun w'' e => by
     obtain ⟨v', g1, g2⟩ := fin.out w'' e
     exact ⟨v', _, g1, hck.trans g2, by rw [← hF]; simp⟩)
    have e2 := Lib.hid (show (q : Int) / 128 = ((q / 128 : Nat) : Int) by omega)
    clear hF hck hw fin hlF hvq HL HB HZ e1
    go_wp2_with (at_builtin; refine Lib.wpList_append_run _ rfl _ _ _ _ rfl _ _ rfl rfl _ _ run ?_)
    exact ⟨⟨q / 128, by omega, by rw [e2.out], Lib.hid (fin2.out _ rfl)⟩, by simp [nat']; omega⟩
 ·have j0 : decide (x < 0) = true := by simp; omega
  have e0 := neg_zz (x := x) ⟨hx.1, by omega⟩
  have hzz := e0
  go_enter Tryz.func126, Tryz.ntmps126
  go_wp2
  clear hx hzz j0 e0 HX
  obtain ⟨q0, hq0⟩ : ∃ q, zz x = q := ⟨_, rfl⟩
  rw [hq0] at HB HZ ⊢
  clear hq0
  go_loopw [4] (fun u wr => ∃ q : Nat, q < 18446744073709551616 ∧ u = .int .u64 q ∧ Hid (∃ v' F, Wr W0 A wr v' F ∧ Ck A v w v' wr ∧ F ++ vb q = D ++ E)) (fun u _ => nat' u)
  case atStart => exact ⟨q0, HZ.out, rfl, Lib.hid ⟨v, D, H.out, Ck.refl _ _ _, by rw [HB.out]⟩⟩
  case round =>
   obtain ⟨q, hq, rfl, hrel⟩ := hrel
   obtain ⟨v1, F, hw, hck, hF⟩ := hrel.out
   clear hrel
   by_cases hq1 : q < 128
   ·have j1 : decide ((q : Int) ≥ 128) = false := by simp; omega
    have hvq : vb q = [q] := by rw [vb, if_pos hq1]
    rw [hvq] at hF
    have hlF : F.length + 1 ≤ 10000000 := by
     have := congrArg List.length hF
     have := HL.out
     simp only [List.length_append, List.length_singleton] at *
     omega
    obtain ⟨a, n, c, a', n', c', w1, rfl, run, c0, c1, f1, fin⟩ := wr_push hw q (by omega) hlF
    have fin2 : Hid (∀ w'', w'' = w1.setCell ⟨A, 0, none⟩ (.slice a' n' c') → ∃ v', Wr W0 A w'' v' (D ++ E) ∧ Ck A v w v' w'') := Lib.hid (fun w'' e => by
     obtain ⟨v', g1, g2⟩ := fin.out w'' e
     rw [hF] at g1
     exact ⟨v', g1, hck.trans g2⟩)
    clear hF hck hw fin hlF hvq HL HB HZ
    go_wp2_with (at_builtin; refine Lib.wpList_append_run _ rfl _ _ _ _ rfl _ _ rfl rfl _ _ run ?_)
    exact Go.Great.bodyPost_end0 rfl rfl ⟨rfl, fin2.out _ rfl⟩
   ·have j1 : decide ((q : Int) ≥ 128) = true := by simp; omega
    have hvq : vb q = (q % 128 + 128) :: vb (q / 128) := by rw [vb, if_neg hq1]
    rw [hvq] at hF
    have hlF : F.length + 1 ≤ 10000000 := by
     have := congrArg List.length hF
     have := HL.out
     simp only [List.length_append, List.length_cons] at *
     omega
    obtain ⟨a, n, c, a', n', c', w1, rfl, run, c0, c1, f1, fin⟩ := wr_push hw (q % 128 + 128) (by omega) hlF
    have e1 : (((q % 128 + 128 : Nat)) : Int) = (q : Int) % 128 + 128 := by omega
    rw [e1] at run
    have fin2 : Hid (∀ w'', w'' = w1.setCell ⟨A, 0, none⟩ (.slice a' n' c') → ∃ v' F, Wr W0 A w'' v' F ∧ Ck A v w v' w'' ∧ F ++ vb (q / 128) = D ++ E) := Lib.hid (fun w'' e => by
     obtain ⟨v', g1, g2⟩ := fin.out w'' e
     exact ⟨v', _, g1, hck.trans g2, by rw [← hF]; simp⟩)
    have e2 := Lib.hid (show (q : Int) / 128 = ((q / 128 : Nat) : Int) by omega)
    clear hF hck hw fin hlF hvq HL HB HZ e1
    go_wp2_with (at_builtin; refine Lib.wpList_append_run _ rfl _ _ _ _ rfl _ _ rfl rfl _ _ run ?_)
    exact ⟨⟨q / 128, by omega, by rw [e2.out], Lib.hid (fin2.out _ rfl)⟩, by simp [nat']; omega⟩

end Go.Proofs.YtcgmmfcphfkdhaaGreat

/- Walks: spans, gauges, marks and sights are written. -/
namespace Go.Proofs.YtcgmmfcphfkdhaaGreat
open Go Go.RowKit Go.Proofs Go.Torn Go.Abs

def I64 (x : Int) : Prop := -9223372036854775808 ≤ x ∧ x ≤ 9223372036854775807
def encSp (lo hi : Int) : List Nat := num lo ++ num hi
def G5.rg (g : G5) : Prop := I64 g.a ∧ I64 g.b ∧ I64 g.c ∧ I64 g.d ∧ I64 g.e
def M3.rg (g : M3) : Prop := I64 g.x ∧ I64 g.y ∧ I64 g.z
def S8.rg (s : S8) : Prop := I64 s.a ∧ I64 s.b ∧ I64 s.c ∧ I64 s.d ∧ I64 s.e ∧ I64 s.f ∧ I64 s.g ∧ I64 s.h

set_option maxRecDepth 100000 in
set_option maxHeartbeats 2000000 in
theorem span199 {W0 : World} {A : Nat} {w : World} {v : Value} {D : List Nat} (h : Wr W0 A w v D) (lo hi : Int) (hg : I64 lo ∧ I64 hi) (hl : D.length + (encSp lo hi).length ≤ 10000000) :
  Calls Tryz.prog 199 #[.pointer (some ⟨A, 0, none⟩), .agg #[.int .i64 lo, .int .i64 hi]] w fun e w' => e = .returned (.tuple #[]) ∧ ∃ v', Wr W0 A w' v' (D ++ encSp lo hi) ∧ Ck A v w v' w' := by
 have hal : Below w.heap.size w (w.alloc (.cells #[.int .i64 lo, .int .i64 hi] 35)) := (Below.refl _ _).alloc (Nat.le_refl _) _
 have H0 := Lib.hid (h.keep hal)
 have K0 := Lib.hid (Ck.of_below hal (Ck.refl A v _))
 have F0 : Hid (Fo A v (w.alloc (.cells #[.int .i64 lo, .int .i64 hi] 35)) w.heap.size) := Lib.hid (h.fo (Nat.le_refl _) (by rw [World.size_alloc]; omega))
 have nb := NB.new w #[.int .i64 lo, .int .i64 hi] 35
 have c0 := nb.c (k := 0) (v := .int .i64 lo) rfl
 have c1 := nb.c (k := 1) (v := .int .i64 hi) rfl
 have HL := Lib.hid hl
 have HG := Lib.hid hg
 clear nb hal h hl hg
 go_enter Tryz.func199, Tryz.ntmps199
 go_wp2_with fail
 refine (num126 H0.out lo HG.out.1 (by have := HL.out; simp only [encSp, List.length_append] at this ⊢; omega)).mono ?_
 rintro e w1 ⟨rfl, v1, hW, hC⟩
 have H1 := Lib.hid hW
 have K1 := Lib.hid (K0.out.trans hC)
 have F1 := Lib.hid (F0.out.keep hC)
 clear c0
 replace c1 := F0.out.cell hC c1
 clear hW hC H0 K0 F0
 go_wp2_with fail
 refine (num126 H1.out hi HG.out.2 (by have := HL.out; simp only [encSp, List.length_append] at this ⊢; omega)).mono ?_
 rintro e w2 ⟨rfl, v2, hW, hC⟩
 have H2 := Lib.hid hW
 have K2 := Lib.hid (K1.out.trans hC)
 have fin : Hid (∃ v', Wr W0 A w2 v' (D ++ encSp lo hi) ∧ Ck A v w v' w2) := Lib.hid ⟨_, by have := H2.out; simpa only [encSp, List.append_assoc] using this, K2.out⟩
 clear hW hC H1 K1 F1 H2 K2
 go_wp2_with fail
 exact Go.Great.bodyPost_end0 rfl rfl ⟨rfl, fin.out⟩

set_option maxRecDepth 100000 in
set_option maxHeartbeats 2000000 in
theorem mark198 {W0 : World} {A : Nat} {w : World} {v : Value} {D : List Nat} (h : Wr W0 A w v D) (g : M3) (hg : g.rg) (hl : D.length + (encM g).length ≤ 10000000) :
  Calls Tryz.prog 198 #[.pointer (some ⟨A, 0, none⟩), .agg #[.int .i64 g.x, .int .i64 g.y, .int .i64 g.z]] w fun e w' => e = .returned (.tuple #[]) ∧ ∃ v', Wr W0 A w' v' (D ++ encM g) ∧ Ck A v w v' w' := by
 have hal : Below w.heap.size w (w.alloc (.cells #[.int .i64 g.x, .int .i64 g.y, .int .i64 g.z] 198)) := (Below.refl _ _).alloc (Nat.le_refl _) _
 have H0 := Lib.hid (h.keep hal)
 have K0 := Lib.hid (Ck.of_below hal (Ck.refl A v _))
 have F0 : Hid (Fo A v (w.alloc (.cells #[.int .i64 g.x, .int .i64 g.y, .int .i64 g.z] 198)) w.heap.size) := Lib.hid (h.fo (Nat.le_refl _) (by rw [World.size_alloc]; omega))
 have nb := NB.new w #[.int .i64 g.x, .int .i64 g.y, .int .i64 g.z] 198
 have c0 := nb.c (k := 0) (v := .int .i64 g.x) rfl
 have c1 := nb.c (k := 1) (v := .int .i64 g.y) rfl
 have c2 := nb.c (k := 2) (v := .int .i64 g.z) rfl
 have HL := Lib.hid hl
 have HG := Lib.hid hg
 clear nb hal h hl hg
 go_enter Tryz.func198, Tryz.ntmps198
 go_wp2_with fail
 refine (num126 H0.out g.x HG.out.1 (by have := HL.out; simp only [encM, List.length_append] at this ⊢; omega)).mono ?_
 rintro e w1 ⟨rfl, v1, hW, hC⟩
 have H1 := Lib.hid hW
 have K1 := Lib.hid (K0.out.trans hC)
 have F1 := Lib.hid (F0.out.keep hC)
 clear c0
 replace c1 := F0.out.cell hC c1
 replace c2 := F0.out.cell hC c2
 clear hW hC H0 K0 F0
 go_wp2_with fail
 refine (num126 H1.out g.y HG.out.2.1 (by have := HL.out; simp only [encM, List.length_append] at this ⊢; omega)).mono ?_
 rintro e w2 ⟨rfl, v2, hW, hC⟩
 have H2 := Lib.hid hW
 have K2 := Lib.hid (K1.out.trans hC)
 have F2 := Lib.hid (F1.out.keep hC)
 clear c1
 replace c2 := F1.out.cell hC c2
 clear hW hC H1 K1 F1
 go_wp2_with fail
 refine (num126 H2.out g.z HG.out.2.2 (by have := HL.out; simp only [encM, List.length_append] at this ⊢; omega)).mono ?_
 rintro e w3 ⟨rfl, v3, hW, hC⟩
 have H3 := Lib.hid hW
 have K3 := Lib.hid (K2.out.trans hC)
 have fin : Hid (∃ v', Wr W0 A w3 v' (D ++ encM g) ∧ Ck A v w v' w3) := Lib.hid ⟨_, by have := H3.out; simpa only [encM, List.append_assoc] using this, K3.out⟩
 clear hW hC H2 K2 F2 H3 K3
 go_wp2_with fail
 exact Go.Great.bodyPost_end0 rfl rfl ⟨rfl, fin.out⟩

set_option maxRecDepth 100000 in
set_option maxHeartbeats 2000000 in
theorem gauge196 {W0 : World} {A : Nat} {w : World} {v : Value} {D : List Nat} (h : Wr W0 A w v D) (g : G5) (hg : g.rg) (hl : D.length + (encG g).length ≤ 10000000) :
  Calls Tryz.prog 196 #[.pointer (some ⟨A, 0, none⟩), .agg #[.int .i64 g.a, .int .i64 g.b, .int .i64 g.c, .int .i64 g.d, .int .i64 g.e]] w fun e w' => e = .returned (.tuple #[]) ∧ ∃ v', Wr W0 A w' v' (D ++ encG g) ∧ Ck A v w v' w' := by
 have hal : Below w.heap.size w (w.alloc (.cells #[.int .i64 g.a, .int .i64 g.b, .int .i64 g.c, .int .i64 g.d, .int .i64 g.e] 102)) := (Below.refl _ _).alloc (Nat.le_refl _) _
 have H0 := Lib.hid (h.keep hal)
 have K0 := Lib.hid (Ck.of_below hal (Ck.refl A v _))
 have F0 : Hid (Fo A v (w.alloc (.cells #[.int .i64 g.a, .int .i64 g.b, .int .i64 g.c, .int .i64 g.d, .int .i64 g.e] 102)) w.heap.size) := Lib.hid (h.fo (Nat.le_refl _) (by rw [World.size_alloc]; omega))
 have nb := NB.new w #[.int .i64 g.a, .int .i64 g.b, .int .i64 g.c, .int .i64 g.d, .int .i64 g.e] 102
 have c0 := nb.c (k := 0) (v := .int .i64 g.a) rfl
 have c1 := nb.c (k := 1) (v := .int .i64 g.b) rfl
 have c2 := nb.c (k := 2) (v := .int .i64 g.c) rfl
 have c3 := nb.c (k := 3) (v := .int .i64 g.d) rfl
 have c4 := nb.c (k := 4) (v := .int .i64 g.e) rfl
 have HL := Lib.hid hl
 have HG := Lib.hid hg
 clear nb hal h hl hg
 go_enter Tryz.func196, Tryz.ntmps196
 go_wp2_with fail
 refine (span199 H0.out g.a g.b ⟨HG.out.1, HG.out.2.1⟩ (by have := HL.out; simp only [encG, encSp, List.length_append] at this ⊢; omega)).mono ?_
 rintro e w1 ⟨rfl, v1, hW, hC⟩
 have H1 := Lib.hid hW
 have K1 := Lib.hid (K0.out.trans hC)
 have F1 := Lib.hid (F0.out.keep hC)
 clear c0
 clear c1
 replace c2 := F0.out.cell hC c2
 replace c3 := F0.out.cell hC c3
 replace c4 := F0.out.cell hC c4
 clear hW hC H0 K0 F0
 go_wp2_with fail
 refine (span199 H1.out g.c g.d ⟨HG.out.2.2.1, HG.out.2.2.2.1⟩ (by have := HL.out; simp only [encG, encSp, List.length_append] at this ⊢; omega)).mono ?_
 rintro e w2 ⟨rfl, v2, hW, hC⟩
 have H2 := Lib.hid hW
 have K2 := Lib.hid (K1.out.trans hC)
 have F2 := Lib.hid (F1.out.keep hC)
 clear c2
 clear c3
 replace c4 := F1.out.cell hC c4
 clear hW hC H1 K1 F1
 go_wp2_with fail
 refine (num126 H2.out g.e HG.out.2.2.2.2 (by have := HL.out; simp only [encG, encSp, List.length_append] at this ⊢; omega)).mono ?_
 rintro e w3 ⟨rfl, v3, hW, hC⟩
 have H3 := Lib.hid hW
 have K3 := Lib.hid (K2.out.trans hC)
 have fin : Hid (∃ v', Wr W0 A w3 v' (D ++ encG g) ∧ Ck A v w v' w3) := Lib.hid ⟨_, by have := H3.out; simpa only [encG, encSp, List.append_assoc] using this, K3.out⟩
 clear hW hC H2 K2 F2 H3 K3
 go_wp2_with fail
 exact Go.Great.bodyPost_end0 rfl rfl ⟨rfl, fin.out⟩

set_option maxRecDepth 100000 in
set_option maxHeartbeats 2000000 in
theorem sight201 {W0 : World} {A : Nat} {w : World} {v : Value} {D : List Nat} (h : Wr W0 A w v D) (s : S8) (hg : s.rg) (hl : D.length + (encS s).length ≤ 10000000) :
  Calls Tryz.prog 201 #[.pointer (some ⟨A, 0, none⟩), .agg #[.int .i64 s.a, .int .i64 s.b, .int .i64 s.c, .int .i64 s.d, .int .i64 s.e, .int .i64 s.f, .int .i64 s.g, .int .i64 s.h]] w fun e w' => e = .returned (.tuple #[]) ∧ ∃ v', Wr W0 A w' v' (D ++ encS s) ∧ Ck A v w v' w' := by
 have hal : Below w.heap.size w (w.alloc (.cells #[.int .i64 s.a, .int .i64 s.b, .int .i64 s.c, .int .i64 s.d, .int .i64 s.e, .int .i64 s.f, .int .i64 s.g, .int .i64 s.h] 194)) := (Below.refl _ _).alloc (Nat.le_refl _) _
 have H0 := Lib.hid (h.keep hal)
 have K0 := Lib.hid (Ck.of_below hal (Ck.refl A v _))
 have F0 : Hid (Fo A v (w.alloc (.cells #[.int .i64 s.a, .int .i64 s.b, .int .i64 s.c, .int .i64 s.d, .int .i64 s.e, .int .i64 s.f, .int .i64 s.g, .int .i64 s.h] 194)) w.heap.size) := Lib.hid (h.fo (Nat.le_refl _) (by rw [World.size_alloc]; omega))
 have nb := NB.new w #[.int .i64 s.a, .int .i64 s.b, .int .i64 s.c, .int .i64 s.d, .int .i64 s.e, .int .i64 s.f, .int .i64 s.g, .int .i64 s.h] 194
 have c0 := nb.c (k := 0) (v := .int .i64 s.a) rfl
 have c1 := nb.c (k := 1) (v := .int .i64 s.b) rfl
 have c2 := nb.c (k := 2) (v := .int .i64 s.c) rfl
 have c3 := nb.c (k := 3) (v := .int .i64 s.d) rfl
 have c4 := nb.c (k := 4) (v := .int .i64 s.e) rfl
 have c5 := nb.c (k := 5) (v := .int .i64 s.f) rfl
 have c6 := nb.c (k := 6) (v := .int .i64 s.g) rfl
 have c7 := nb.c (k := 7) (v := .int .i64 s.h) rfl
 have HL := Lib.hid hl
 have HG := Lib.hid hg
 clear nb hal h hl hg
 go_enter Tryz.func201, Tryz.ntmps201
 go_wp2_with fail
 refine (num126 H0.out s.a HG.out.1 (by have := HL.out; simp only [encS, List.length_append] at this ⊢; omega)).mono ?_
 rintro e w1 ⟨rfl, v1, hW, hC⟩
 have H1 := Lib.hid hW
 have K1 := Lib.hid (K0.out.trans hC)
 have F1 := Lib.hid (F0.out.keep hC)
 clear c0
 replace c1 := F0.out.cell hC c1
 replace c2 := F0.out.cell hC c2
 replace c3 := F0.out.cell hC c3
 replace c4 := F0.out.cell hC c4
 replace c5 := F0.out.cell hC c5
 replace c6 := F0.out.cell hC c6
 replace c7 := F0.out.cell hC c7
 clear hW hC H0 K0 F0
 go_wp2_with fail
 refine (num126 H1.out s.b HG.out.2.1 (by have := HL.out; simp only [encS, List.length_append] at this ⊢; omega)).mono ?_
 rintro e w2 ⟨rfl, v2, hW, hC⟩
 have H2 := Lib.hid hW
 have K2 := Lib.hid (K1.out.trans hC)
 have F2 := Lib.hid (F1.out.keep hC)
 clear c1
 replace c2 := F1.out.cell hC c2
 replace c3 := F1.out.cell hC c3
 replace c4 := F1.out.cell hC c4
 replace c5 := F1.out.cell hC c5
 replace c6 := F1.out.cell hC c6
 replace c7 := F1.out.cell hC c7
 clear hW hC H1 K1 F1
 go_wp2_with fail
 refine (span199 H2.out s.c s.d ⟨HG.out.2.2.1, HG.out.2.2.2.1⟩ (by have := HL.out; simp only [encS, encSp, List.length_append] at this ⊢; omega)).mono ?_
 rintro e w3 ⟨rfl, v3, hW, hC⟩
 have H3 := Lib.hid hW
 have K3 := Lib.hid (K2.out.trans hC)
 have F3 := Lib.hid (F2.out.keep hC)
 clear c2
 clear c3
 replace c4 := F2.out.cell hC c4
 replace c5 := F2.out.cell hC c5
 replace c6 := F2.out.cell hC c6
 replace c7 := F2.out.cell hC c7
 clear hW hC H2 K2 F2
 go_wp2_with fail
 refine (span199 H3.out s.e s.f ⟨HG.out.2.2.2.2.1, HG.out.2.2.2.2.2.1⟩ (by have := HL.out; simp only [encS, encSp, List.length_append] at this ⊢; omega)).mono ?_
 rintro e w4 ⟨rfl, v4, hW, hC⟩
 have H4 := Lib.hid hW
 have K4 := Lib.hid (K3.out.trans hC)
 have F4 := Lib.hid (F3.out.keep hC)
 clear c4
 clear c5
 replace c6 := F3.out.cell hC c6
 replace c7 := F3.out.cell hC c7
 clear hW hC H3 K3 F3
 go_wp2_with fail
 refine (span199 H4.out s.g s.h ⟨HG.out.2.2.2.2.2.2.1, HG.out.2.2.2.2.2.2.2⟩ (by have := HL.out; simp only [encS, encSp, List.length_append] at this ⊢; omega)).mono ?_
 rintro e w5 ⟨rfl, v5, hW, hC⟩
 have H5 := Lib.hid hW
 have K5 := Lib.hid (K4.out.trans hC)
 have fin : Hid (∃ v', Wr W0 A w5 v' (D ++ encS s) ∧ Ck A v w v' w5) := Lib.hid ⟨_, by have := H5.out; simpa only [encS, encSp, List.append_assoc] using this, K5.out⟩
 clear hW hC H4 K4 F4 H5 K5
 go_wp2_with fail
 exact Go.Great.bodyPost_end0 rfl rfl ⟨rfl, fin.out⟩

set_option maxRecDepth 100000 in
theorem bool193 {W0 : World} {A : Nat} {w : World} {v : Value} {D : List Nat} (h : Wr W0 A w v D) (b : Bool) (hl : D.length + (Go.Proofs.YtcgmmfcphfkdhaaGreat.num (bit b)).length ≤ 10000000) :
  Calls Tryz.prog 193 #[.pointer (some ⟨A, 0, none⟩), .bool b] w fun e w' => e = .returned (.tuple #[]) ∧ ∃ v', Wr W0 A w' v' (D ++ Go.Proofs.YtcgmmfcphfkdhaaGreat.num (bit b)) ∧ Ck A v w v' w' := by
 cases b with
 | true =>
  have H := Lib.hid (num126 h 1 (by decide) hl)
  clear h hl
  go_enter Tryz.func193, Tryz.ntmps193
  go_wp2_with fail
  refine H.out.mono ?_
  rintro e w1 ⟨rfl, fin⟩
  replace fin := Lib.hid fin
  clear H
  go_wp2_with fail
  exact Go.Great.bodyPost_end0 rfl rfl ⟨rfl, fin.out⟩
 | false =>
  have H := Lib.hid (num126 h 0 (by decide) hl)
  clear h hl
  go_enter Tryz.func193, Tryz.ntmps193
  go_wp2_with fail
  refine H.out.mono ?_
  rintro e w1 ⟨rfl, fin⟩
  replace fin := Lib.hid fin
  clear H
  go_wp2_with fail
  exact Go.Great.bodyPost_end0 rfl rfl ⟨rfl, fin.out⟩

end Go.Proofs.YtcgmmfcphfkdhaaGreat

/- Walks: lists of numbers, gauges, marks and sights are written. -/
namespace Go.Proofs.YtcgmmfcphfkdhaaGreat
open Go Go.RowKit Go.Proofs Go.Torn Go.Abs

theorem fl_step {α : Type} (f : α → List Nat) (L : List α) (q : Nat) (hq : q < L.length) (x : α) (hx : x = L[q]) : (L.drop q).flatMap f = f x ++ (L.drop (q + 1)).flatMap f := by
 rw [List.drop_eq_getElem_cons hq, List.flatMap_cons, hx]

set_option maxRecDepth 100000 in
set_option maxHeartbeats 4000000 in
theorem ints194 {W0 : World} {A : Nat} {w : World} {v : Value} {D : List Nat} (h : Wr W0 A w v D) (u : Value) (L : List Int) (hu : SlI W0 u L) (hg : ∀ k, k < L.length → I64 (iz L k)) (hl : D.length + (lst num L).length ≤ 10000000) :
  Calls Tryz.prog 194 #[.pointer (some ⟨A, 0, none⟩), u, .func (.func 126) #[.pointer (some ⟨A, 0, none⟩)] #[]] w fun e w' => e = .returned (.tuple #[]) ∧ ∃ v', Wr W0 A w' v' (D ++ lst num L) ∧ Ck A v w v' w' := by
 obtain ⟨a, cap, rfl, hll, hc⟩ := hu
 have HS := Lib.hid (fun q (hq : q < L.length) => fl_step num L q hq (iz L q) (by simp [iz, List.getD, hq]))
 have HE := Lib.hid (show (L.drop L.length).flatMap num = [] by rw [List.drop_length]; rfl)
 have HN := Lib.hid (show lst num L = num L.length ++ (L.drop 0).flatMap num from rfl)
 obtain ⟨E, hE⟩ : ∃ E, lst num L = E := ⟨_, rfl⟩
 obtain ⟨S, hS⟩ : ∃ S : Nat → List Nat, S = fun q => (L.drop q).flatMap num := ⟨_, rfl⟩
 have HS2 : Hid ((∀ q, q < L.length → S q = num (iz L q) ++ S (q + 1)) ∧ S L.length = [] ∧ E = num L.length ++ S 0) := Lib.hid ⟨by rw [hS]; exact HS.out, by rw [hS]; exact HE.out, by rw [hS, ← hE]; exact HN.out⟩
 rw [hE] at hl ⊢
 clear HS HE HN hS hE
 obtain ⟨n, hn⟩ : ∃ n, L.length = n := ⟨_, rfl⟩
 rw [hn] at hc hg hll HS2 ⊢
 clear hn
 have HL := Lib.hid hl
 have HC := Lib.hid hc
 have HG := Lib.hid hg
 have HF := Lib.hid (num126 h (n : Int) ⟨by omega, by omega⟩ (by have := HS2.out.2.2; rw [this] at hl; simp only [List.length_append] at hl; omega))
 clear hc hl hg h
 go_enter Tryz.func194, Tryz.ntmps194
 go_wp2_with fail
 refine HF.out.mono ?_
 rintro e w1 ⟨rfl, v1, hW, hC⟩
 have H1 := Lib.hid hW
 have K1 := Lib.hid hC
 clear hW hC HF
 go_wp2_with fail
 go_loopw [14] (fun i wr => ∃ q : Nat, q ≤ n ∧ i = .int .i64 q ∧ Hid (∃ v' F, Wr W0 A wr v' F ∧ Ck A v w v' wr ∧ F ++ S q = D ++ E)) (fun i _ => n - (intOf i).toNat)
 case atStart => exact ⟨0, by omega, rfl, Lib.hid ⟨_, _, H1.out, K1.out, by rw [HS2.out.2.2, List.append_assoc]⟩⟩
 case round =>
  obtain ⟨q, hq, rfl, hrel⟩ := hrel
  obtain ⟨v2, F, hw, hck, hF⟩ := hrel.out
  clear hrel
  by_cases hq1 : q < n
  ·have j1 : decide ((q : Int) < (n : Int)) = true := by simp; omega
   have hS1 := HS2.out.1 q hq1
   have hlF : F.length + (num (iz L q)).length ≤ 10000000 := by
    have h1 := congrArg List.length hF
    have h2 := HL.out
    rw [hS1] at h1
    simp only [List.length_append] at h1
    omega
   have hgq := HG.out q hq1

   obtain ⟨b, off, rfl, c0⟩ := HC.out q hq1
   obtain ⟨x, hx⟩ : ∃ x, iz L q = x := ⟨_, rfl⟩
   rw [hx] at hS1 hlF hgq c0
   clear hx
   replace c0 := (hw.be.cell (lt_of_cell c0)).trans c0
   have HF := Lib.hid (num126 hw x hgq hlF)
   have HK := Lib.hid hck
   have HQ := Lib.hid (show ∀ G, G = F ++ num x → G ++ S (q + 1) = D ++ E from fun G e => by rw [e, List.append_assoc, ← hS1]; exact hF)
   clear hw hck hF hS1 hlF hgq HC HG HL HS2 H1 K1
   go_wp2_with fail
   refine HF.out.mono ?_
   rintro e w2 ⟨rfl, v3, hW, hC⟩
   have fin : Hid (∃ v' F, Wr W0 A w2 v' F ∧ Ck A v w v' w2 ∧ F ++ S (q + 1) = D ++ E) := Lib.hid ⟨_, _, hW, HK.out.trans hC, HQ.out _ rfl⟩
   clear hW hC HK HQ HF
   go_wp2_with fail
   exact ⟨⟨q + 1, hq1, by simp, fin⟩, by simp [intOf]; omega⟩
  ·have : q = n := by omega
   subst this
   have j1 : decide ((q : Int) < (q : Int)) = false := by simp
   have fin : Hid (∃ v', Wr W0 A wr v' (D ++ E) ∧ Ck A v w v' wr) := Lib.hid ⟨v2, by rw [HS2.out.2.1, List.append_nil] at hF; rw [← hF]; exact hw, hck⟩
   clear hw hck hF HS2 HL HC HG H1 K1
   go_wp2_with fail
   exact Go.Great.bodyPost_end0 rfl rfl ⟨rfl, fin.out⟩

set_option maxRecDepth 100000 in
set_option maxHeartbeats 4000000 in
theorem gauges195 {W0 : World} {A : Nat} {w : World} {v : Value} {D : List Nat} (h : Wr W0 A w v D) (u : Value) (L : List G5) (hu : SlG W0 u L) (hg : ∀ k, k < L.length → (gz L k).rg) (hl : D.length + (lst encG L).length ≤ 10000000) :
  Calls Tryz.prog 195 #[.pointer (some ⟨A, 0, none⟩), u, .func (.func 196) #[.pointer (some ⟨A, 0, none⟩)] #[]] w fun e w' => e = .returned (.tuple #[]) ∧ ∃ v', Wr W0 A w' v' (D ++ lst encG L) ∧ Ck A v w v' w' := by
 obtain ⟨a, cap, rfl, hll, hc⟩ := hu
 have HS := Lib.hid (fun q (hq : q < L.length) => fl_step encG L q hq (gz L q) (by simp [gz, List.getD, hq]))
 have HE := Lib.hid (show (L.drop L.length).flatMap encG = [] by rw [List.drop_length]; rfl)
 have HN := Lib.hid (show lst encG L = num L.length ++ (L.drop 0).flatMap encG from rfl)
 obtain ⟨E, hE⟩ : ∃ E, lst encG L = E := ⟨_, rfl⟩
 obtain ⟨S, hS⟩ : ∃ S : Nat → List Nat, S = fun q => (L.drop q).flatMap encG := ⟨_, rfl⟩
 have HS2 : Hid ((∀ q, q < L.length → S q = encG (gz L q) ++ S (q + 1)) ∧ S L.length = [] ∧ E = num L.length ++ S 0) := Lib.hid ⟨by rw [hS]; exact HS.out, by rw [hS]; exact HE.out, by rw [hS, ← hE]; exact HN.out⟩
 rw [hE] at hl ⊢
 clear HS HE HN hS hE
 obtain ⟨n, hn⟩ : ∃ n, L.length = n := ⟨_, rfl⟩
 rw [hn] at hc hg hll HS2 ⊢
 clear hn
 have HL := Lib.hid hl
 have HC := Lib.hid hc
 have HG := Lib.hid hg
 have HF := Lib.hid (num126 h (n : Int) ⟨by omega, by omega⟩ (by have := HS2.out.2.2; rw [this] at hl; simp only [List.length_append] at hl; omega))
 clear hc hl hg h
 go_enter Tryz.func195, Tryz.ntmps195
 go_wp2_with fail
 refine HF.out.mono ?_
 rintro e w1 ⟨rfl, v1, hW, hC⟩
 have H1 := Lib.hid hW
 have K1 := Lib.hid hC
 clear hW hC HF
 go_wp2_with fail
 go_loopw [14] (fun i wr => ∃ q : Nat, q ≤ n ∧ i = .int .i64 q ∧ Hid (∃ v' F, Wr W0 A wr v' F ∧ Ck A v w v' wr ∧ F ++ S q = D ++ E)) (fun i _ => n - (intOf i).toNat)
 case atStart => exact ⟨0, by omega, rfl, Lib.hid ⟨_, _, H1.out, K1.out, by rw [HS2.out.2.2, List.append_assoc]⟩⟩
 case round =>
  obtain ⟨q, hq, rfl, hrel⟩ := hrel
  obtain ⟨v2, F, hw, hck, hF⟩ := hrel.out
  clear hrel
  by_cases hq1 : q < n
  ·have j1 : decide ((q : Int) < (n : Int)) = true := by simp; omega
   have hS1 := HS2.out.1 q hq1
   have hlF : F.length + (encG (gz L q)).length ≤ 10000000 := by
    have h1 := congrArg List.length hF
    have h2 := HL.out
    rw [hS1] at h1
    simp only [List.length_append] at h1
    omega
   have hgq := HG.out q hq1

   obtain ⟨b, off, rfl, c0, c1, c2, c3, c4⟩ := HC.out q hq1
   obtain ⟨x, hx⟩ : ∃ x, gz L q = x := ⟨_, rfl⟩
   rw [hx] at hS1 hlF hgq c0 c1 c2 c3 c4
   clear hx
   replace c0 := (hw.be.cell (lt_of_cell c0)).trans c0
   replace c1 := (hw.be.cell (lt_of_cell c1)).trans c1
   replace c2 := (hw.be.cell (lt_of_cell c2)).trans c2
   replace c3 := (hw.be.cell (lt_of_cell c3)).trans c3
   replace c4 := (hw.be.cell (lt_of_cell c4)).trans c4
   have hal : Below wr.heap.size wr (wr.alloc (.cells #[.int .i64 x.a, .int .i64 x.b, .int .i64 x.c, .int .i64 x.d, .int .i64 x.e] 102)) := (Below.refl _ _).alloc (Nat.le_refl _) _
   have HF := Lib.hid (gauge196 (hw.keep hal) x hgq hlF)
   have HK := Lib.hid (hck.trans (Ck.of_below hal (Ck.refl A v2 _)))
   have HQ := Lib.hid (show ∀ G, G = F ++ encG x → G ++ S (q + 1) = D ++ E from fun G e => by rw [e, List.append_assoc, ← hS1]; exact hF)
   clear hw hck hF hS1 hlF hgq HC HG HL HS2 H1 K1 hal
   go_wp2_with fail
   refine HF.out.mono ?_
   rintro e w2 ⟨rfl, v3, hW, hC⟩
   have fin : Hid (∃ v' F, Wr W0 A w2 v' F ∧ Ck A v w v' w2 ∧ F ++ S (q + 1) = D ++ E) := Lib.hid ⟨_, _, hW, HK.out.trans hC, HQ.out _ rfl⟩
   clear hW hC HK HQ HF
   go_wp2_with fail
   exact ⟨⟨q + 1, hq1, by simp, fin⟩, by simp [intOf]; omega⟩
  ·have : q = n := by omega
   subst this
   have j1 : decide ((q : Int) < (q : Int)) = false := by simp
   have fin : Hid (∃ v', Wr W0 A wr v' (D ++ E) ∧ Ck A v w v' wr) := Lib.hid ⟨v2, by rw [HS2.out.2.1, List.append_nil] at hF; rw [← hF]; exact hw, hck⟩
   clear hw hck hF HS2 HL HC HG H1 K1
   go_wp2_with fail
   exact Go.Great.bodyPost_end0 rfl rfl ⟨rfl, fin.out⟩

set_option maxRecDepth 100000 in
set_option maxHeartbeats 4000000 in
theorem marks197 {W0 : World} {A : Nat} {w : World} {v : Value} {D : List Nat} (h : Wr W0 A w v D) (u : Value) (L : List M3) (hu : SlM W0 u L) (hg : ∀ k, k < L.length → (mq L k).rg) (hl : D.length + (lst encM L).length ≤ 10000000) :
  Calls Tryz.prog 197 #[.pointer (some ⟨A, 0, none⟩), u, .func (.func 198) #[.pointer (some ⟨A, 0, none⟩)] #[]] w fun e w' => e = .returned (.tuple #[]) ∧ ∃ v', Wr W0 A w' v' (D ++ lst encM L) ∧ Ck A v w v' w' := by
 obtain ⟨a, cap, rfl, hll, hc⟩ := hu
 have HS := Lib.hid (fun q (hq : q < L.length) => fl_step encM L q hq (mq L q) (by simp [mq, List.getD, hq]))
 have HE := Lib.hid (show (L.drop L.length).flatMap encM = [] by rw [List.drop_length]; rfl)
 have HN := Lib.hid (show lst encM L = num L.length ++ (L.drop 0).flatMap encM from rfl)
 obtain ⟨E, hE⟩ : ∃ E, lst encM L = E := ⟨_, rfl⟩
 obtain ⟨S, hS⟩ : ∃ S : Nat → List Nat, S = fun q => (L.drop q).flatMap encM := ⟨_, rfl⟩
 have HS2 : Hid ((∀ q, q < L.length → S q = encM (mq L q) ++ S (q + 1)) ∧ S L.length = [] ∧ E = num L.length ++ S 0) := Lib.hid ⟨by rw [hS]; exact HS.out, by rw [hS]; exact HE.out, by rw [hS, ← hE]; exact HN.out⟩
 rw [hE] at hl ⊢
 clear HS HE HN hS hE
 obtain ⟨n, hn⟩ : ∃ n, L.length = n := ⟨_, rfl⟩
 rw [hn] at hc hg hll HS2 ⊢
 clear hn
 have HL := Lib.hid hl
 have HC := Lib.hid hc
 have HG := Lib.hid hg
 have HF := Lib.hid (num126 h (n : Int) ⟨by omega, by omega⟩ (by have := HS2.out.2.2; rw [this] at hl; simp only [List.length_append] at hl; omega))
 clear hc hl hg h
 go_enter Tryz.func197, Tryz.ntmps197
 go_wp2_with fail
 refine HF.out.mono ?_
 rintro e w1 ⟨rfl, v1, hW, hC⟩
 have H1 := Lib.hid hW
 have K1 := Lib.hid hC
 clear hW hC HF
 go_wp2_with fail
 go_loopw [14] (fun i wr => ∃ q : Nat, q ≤ n ∧ i = .int .i64 q ∧ Hid (∃ v' F, Wr W0 A wr v' F ∧ Ck A v w v' wr ∧ F ++ S q = D ++ E)) (fun i _ => n - (intOf i).toNat)
 case atStart => exact ⟨0, by omega, rfl, Lib.hid ⟨_, _, H1.out, K1.out, by rw [HS2.out.2.2, List.append_assoc]⟩⟩
 case round =>
  obtain ⟨q, hq, rfl, hrel⟩ := hrel
  obtain ⟨v2, F, hw, hck, hF⟩ := hrel.out
  clear hrel
  by_cases hq1 : q < n
  ·have j1 : decide ((q : Int) < (n : Int)) = true := by simp; omega
   have hS1 := HS2.out.1 q hq1
   have hlF : F.length + (encM (mq L q)).length ≤ 10000000 := by
    have h1 := congrArg List.length hF
    have h2 := HL.out
    rw [hS1] at h1
    simp only [List.length_append] at h1
    omega
   have hgq := HG.out q hq1

   obtain ⟨b, off, rfl, c0, c1, c2⟩ := HC.out q hq1
   obtain ⟨x, hx⟩ : ∃ x, mq L q = x := ⟨_, rfl⟩
   rw [hx] at hS1 hlF hgq c0 c1 c2
   clear hx
   replace c0 := (hw.be.cell (lt_of_cell c0)).trans c0
   replace c1 := (hw.be.cell (lt_of_cell c1)).trans c1
   replace c2 := (hw.be.cell (lt_of_cell c2)).trans c2
   have hal : Below wr.heap.size wr (wr.alloc (.cells #[.int .i64 x.x, .int .i64 x.y, .int .i64 x.z] 198)) := (Below.refl _ _).alloc (Nat.le_refl _) _
   have HF := Lib.hid (mark198 (hw.keep hal) x hgq hlF)
   have HK := Lib.hid (hck.trans (Ck.of_below hal (Ck.refl A v2 _)))
   have HQ := Lib.hid (show ∀ G, G = F ++ encM x → G ++ S (q + 1) = D ++ E from fun G e => by rw [e, List.append_assoc, ← hS1]; exact hF)
   clear hw hck hF hS1 hlF hgq HC HG HL HS2 H1 K1 hal
   go_wp2_with fail
   refine HF.out.mono ?_
   rintro e w2 ⟨rfl, v3, hW, hC⟩
   have fin : Hid (∃ v' F, Wr W0 A w2 v' F ∧ Ck A v w v' w2 ∧ F ++ S (q + 1) = D ++ E) := Lib.hid ⟨_, _, hW, HK.out.trans hC, HQ.out _ rfl⟩
   clear hW hC HK HQ HF
   go_wp2_with fail
   exact ⟨⟨q + 1, hq1, by simp, fin⟩, by simp [intOf]; omega⟩
  ·have : q = n := by omega
   subst this
   have j1 : decide ((q : Int) < (q : Int)) = false := by simp
   have fin : Hid (∃ v', Wr W0 A wr v' (D ++ E) ∧ Ck A v w v' wr) := Lib.hid ⟨v2, by rw [HS2.out.2.1, List.append_nil] at hF; rw [← hF]; exact hw, hck⟩
   clear hw hck hF HS2 HL HC HG H1 K1
   go_wp2_with fail
   exact Go.Great.bodyPost_end0 rfl rfl ⟨rfl, fin.out⟩

set_option maxRecDepth 100000 in
set_option maxHeartbeats 4000000 in
theorem sights200 {W0 : World} {A : Nat} {w : World} {v : Value} {D : List Nat} (h : Wr W0 A w v D) (u : Value) (L : List S8) (hu : SlS W0 u L) (hg : ∀ k, k < L.length → (sz L k).rg) (hl : D.length + (lst encS L).length ≤ 10000000) :
  Calls Tryz.prog 200 #[.pointer (some ⟨A, 0, none⟩), u, .func (.func 201) #[.pointer (some ⟨A, 0, none⟩)] #[]] w fun e w' => e = .returned (.tuple #[]) ∧ ∃ v', Wr W0 A w' v' (D ++ lst encS L) ∧ Ck A v w v' w' := by
 obtain ⟨a, cap, rfl, hll, hc⟩ := hu
 have HS := Lib.hid (fun q (hq : q < L.length) => fl_step encS L q hq (sz L q) (by simp [sz, List.getD, hq]))
 have HE := Lib.hid (show (L.drop L.length).flatMap encS = [] by rw [List.drop_length]; rfl)
 have HN := Lib.hid (show lst encS L = num L.length ++ (L.drop 0).flatMap encS from rfl)
 obtain ⟨E, hE⟩ : ∃ E, lst encS L = E := ⟨_, rfl⟩
 obtain ⟨S, hS⟩ : ∃ S : Nat → List Nat, S = fun q => (L.drop q).flatMap encS := ⟨_, rfl⟩
 have HS2 : Hid ((∀ q, q < L.length → S q = encS (sz L q) ++ S (q + 1)) ∧ S L.length = [] ∧ E = num L.length ++ S 0) := Lib.hid ⟨by rw [hS]; exact HS.out, by rw [hS]; exact HE.out, by rw [hS, ← hE]; exact HN.out⟩
 rw [hE] at hl ⊢
 clear HS HE HN hS hE
 obtain ⟨n, hn⟩ : ∃ n, L.length = n := ⟨_, rfl⟩
 rw [hn] at hc hg hll HS2 ⊢
 clear hn
 have HL := Lib.hid hl
 have HC := Lib.hid hc
 have HG := Lib.hid hg
 have HF := Lib.hid (num126 h (n : Int) ⟨by omega, by omega⟩ (by have := HS2.out.2.2; rw [this] at hl; simp only [List.length_append] at hl; omega))
 clear hc hl hg h
 go_enter Tryz.func200, Tryz.ntmps200
 go_wp2_with fail
 refine HF.out.mono ?_
 rintro e w1 ⟨rfl, v1, hW, hC⟩
 have H1 := Lib.hid hW
 have K1 := Lib.hid hC
 clear hW hC HF
 go_wp2_with fail
 go_loopw [14] (fun i wr => ∃ q : Nat, q ≤ n ∧ i = .int .i64 q ∧ Hid (∃ v' F, Wr W0 A wr v' F ∧ Ck A v w v' wr ∧ F ++ S q = D ++ E)) (fun i _ => n - (intOf i).toNat)
 case atStart => exact ⟨0, by omega, rfl, Lib.hid ⟨_, _, H1.out, K1.out, by rw [HS2.out.2.2, List.append_assoc]⟩⟩
 case round =>
  obtain ⟨q, hq, rfl, hrel⟩ := hrel
  obtain ⟨v2, F, hw, hck, hF⟩ := hrel.out
  clear hrel
  by_cases hq1 : q < n
  ·have j1 : decide ((q : Int) < (n : Int)) = true := by simp; omega
   have hS1 := HS2.out.1 q hq1
   have hlF : F.length + (encS (sz L q)).length ≤ 10000000 := by
    have h1 := congrArg List.length hF
    have h2 := HL.out
    rw [hS1] at h1
    simp only [List.length_append] at h1
    omega
   have hgq := HG.out q hq1

   obtain ⟨b, off, rfl, c0, c1, c2, c3, c4, c5, c6, c7⟩ := HC.out q hq1
   obtain ⟨x, hx⟩ : ∃ x, sz L q = x := ⟨_, rfl⟩
   rw [hx] at hS1 hlF hgq c0 c1 c2 c3 c4 c5 c6 c7
   clear hx
   replace c0 := (hw.be.cell (lt_of_cell c0)).trans c0
   replace c1 := (hw.be.cell (lt_of_cell c1)).trans c1
   replace c2 := (hw.be.cell (lt_of_cell c2)).trans c2
   replace c3 := (hw.be.cell (lt_of_cell c3)).trans c3
   replace c4 := (hw.be.cell (lt_of_cell c4)).trans c4
   replace c5 := (hw.be.cell (lt_of_cell c5)).trans c5
   replace c6 := (hw.be.cell (lt_of_cell c6)).trans c6
   replace c7 := (hw.be.cell (lt_of_cell c7)).trans c7
   have hal : Below wr.heap.size wr (wr.alloc (.cells #[.int .i64 x.a, .int .i64 x.b, .int .i64 x.c, .int .i64 x.d, .int .i64 x.e, .int .i64 x.f, .int .i64 x.g, .int .i64 x.h] 194)) := (Below.refl _ _).alloc (Nat.le_refl _) _
   have HF := Lib.hid (sight201 (hw.keep hal) x hgq hlF)
   have HK := Lib.hid (hck.trans (Ck.of_below hal (Ck.refl A v2 _)))
   have HQ := Lib.hid (show ∀ G, G = F ++ encS x → G ++ S (q + 1) = D ++ E from fun G e => by rw [e, List.append_assoc, ← hS1]; exact hF)
   clear hw hck hF hS1 hlF hgq HC HG HL HS2 H1 K1 hal
   go_wp2_with fail
   refine HF.out.mono ?_
   rintro e w2 ⟨rfl, v3, hW, hC⟩
   have fin : Hid (∃ v' F, Wr W0 A w2 v' F ∧ Ck A v w v' w2 ∧ F ++ S (q + 1) = D ++ E) := Lib.hid ⟨_, _, hW, HK.out.trans hC, HQ.out _ rfl⟩
   clear hW hC HK HQ HF
   go_wp2_with fail
   exact ⟨⟨q + 1, hq1, by simp, fin⟩, by simp [intOf]; omega⟩
  ·have : q = n := by omega
   subst this
   have j1 : decide ((q : Int) < (q : Int)) = false := by simp
   have fin : Hid (∃ v', Wr W0 A wr v' (D ++ E) ∧ Ck A v w v' wr) := Lib.hid ⟨v2, by rw [HS2.out.2.1, List.append_nil] at hF; rw [← hF]; exact hw, hck⟩
   clear hw hck hF HS2 HL HC HG H1 K1
   go_wp2_with fail
   exact Go.Great.bodyPost_end0 rfl rfl ⟨rfl, fin.out⟩

set_option maxRecDepth 100000 in
theorem numbers128 {W0 : World} {A : Nat} {w : World} {v : Value} {D : List Nat} (h : Wr W0 A w v D) (u : Value) (L : List Int) (hu : SlI W0 u L) (hg : ∀ k, k < L.length → I64 (iz L k)) (hl : D.length + (lst num L).length ≤ 10000000) :
  Calls Tryz.prog 128 #[.pointer (some ⟨A, 0, none⟩), u] w fun e w' => e = .returned (.tuple #[]) ∧ ∃ v', Wr W0 A w' v' (D ++ lst num L) ∧ Ck A v w v' w' := by
 have H := Lib.hid (ints194 h u L hu hg hl)
 obtain ⟨a, cap, rfl, -, -⟩ := hu
 clear h hg hl
 go_enter Tryz.func128, Tryz.ntmps128
 go_wp2_with fail
 refine H.out.mono ?_
 rintro e w1 ⟨rfl, fin⟩
 replace fin := Lib.hid fin
 clear H
 go_wp2_with fail
 exact Go.Great.bodyPost_end0 rfl rfl ⟨rfl, fin.out⟩

end Go.Proofs.YtcgmmfcphfkdhaaGreat
