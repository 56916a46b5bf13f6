/- Disks: what is kept from world to world, and what the two disks are. -/
import Derived.Test.YtcgmmfcphfkdhaaGreatGrB5
namespace Go.Proofs.YtcgmmfcphfkdhaaGreat
open Go Go.RowKit Go.Proofs Go.Torn Go.Abs

structure Chg (W W' : World) (S : Nat → Prop) : Prop where
  os : W'.os = W.os
  tape : W'.tape = W.tape
  output : W'.output = W.output
  size : W.heap.size ≤ W'.heap.size
  block : ∀ k, k < W.heap.size → ¬ S k → W'.heap[k]? = W.heap[k]?

theorem Chg.of_below {W W' : World} (S : Nat → Prop) (h : Below W.heap.size W W') : Chg W W' S := ⟨h.os, h.tape, h.output, h.size, fun k hk _ => h.block k hk⟩

theorem Chg.of_grown {W W' : World} {row : Option Nat} (S : Nat → Prop) (h : W.grownBy W' row) (hs : ∀ k, some k = row → S k) : Chg W W' S :=
  ⟨h.os, h.tape, h.output, h.size, fun k hk hn => h.block k hk (fun e => hn (hs k e))⟩

theorem heap_set {W : World} {b o k : Nat} {u : Value} (h : k ≠ b) : (W.setCell ⟨b, o, none⟩ u).heap[k]? = W.heap[k]? := by
  unfold World.setCell
  rw [Array.getElem?_modify, if_neg (by intro e; exact h e.symm)]

theorem size_set {W : World} {b o : Nat} {u : Value} : (W.setCell ⟨b, o, none⟩ u).heap.size = W.heap.size := by
  unfold World.setCell
  simp

theorem Chg.set {W : World} (S : Nat → Prop) (b o : Nat) (u : Value) (hs : S b) : Chg W (W.setCell ⟨b, o, none⟩ u) S :=
  ⟨rfl, rfl, rfl, by rw [size_set]; exact Nat.le_refl _, fun k _ hn => heap_set (fun e => hn (e ▸ hs))⟩

theorem Chg.refl (W : World) (S : Nat → Prop) : Chg W W S := ⟨rfl, rfl, rfl, Nat.le_refl _, fun _ _ _ => rfl⟩

theorem Chg.trans {a b c : World} {S T : Nat → Prop} (h : Chg a b S) (k : Chg b c T) (hs : ∀ i, i < a.heap.size → T i → S i) : Chg a c S :=
  ⟨k.os.trans h.os, k.tape.trans h.tape, k.output.trans h.output, Nat.le_trans h.size k.size, fun i hi hn => (k.block i (Nat.lt_of_lt_of_le hi h.size) (fun t => hn (hs i hi t))).trans (h.block i hi hn)⟩

theorem Chg.below {B : Nat} {W W' : World} {S : Nat → Prop} (h : Chg W W' S) (hB : B ≤ W.heap.size) (hs : ∀ k, k < B → ¬ S k) : Below B W W' :=
  ⟨h.os, h.tape, h.output, h.size, fun k hk => h.block k (Nat.lt_of_lt_of_le hk hB) (hs k hk)⟩

theorem Chg.own {base e size n : Nat} {W W' : World} {S : Nat → Prop} {v : Value} {xs : List Value} (h : Chg W W' S) (ho : W.ownsRow base e size v n xs) (hs : ∀ k, v.ownBlock = some k → ¬ S k) : W'.ownsRow base e size v n xs := by
  refine ⟨ho.1, ?_⟩
  rcases ho.2 with hn | ⟨g, cap, cur, rfl, hb, hg, rest⟩
  · exact .inl hn
  · have hlt : g < W.heap.size := (Array.getElem?_eq_some_iff.1 hg).1
    exact .inr ⟨g, cap, cur, rfl, hb, by rw [h.block g hlt (hs g rfl)]; exact hg, rest⟩

def Bx (W : World) (A : Nat) (T : TypeId) (x y : Value) : Prop := W.heap[A]? = some (.cells #[x, y] T (0, 0))

structure PD (base : Nat) (W : World) (A : Nat) (v : Value) (D : List Nat) (d : Nat) : Prop where
  lo : base ≤ A
  bx : Bx W A 75 v (.int .i64 (d : Nat))
  own : W.ownsRow base 5 1 v D.length (bc D)
  far : ∀ k, v.ownBlock = some k → k ≠ A
  dl : d ≤ D.length
  ml : D.length ≤ 4194304
  by' : By D

structure RD (base : Nat) (W : World) (B : Nat) (x y : Value) (X Y : List Nat) : Prop where
  lo : base ≤ B
  bx : Bx W B 141 x y
  ox : W.ownsRow base 5 1 x X.length (bc X)
  oy : W.ownsRow base 5 1 y Y.length (bc Y)
  fx : ∀ k, x.ownBlock = some k → k ≠ B
  fy : ∀ k, y.ownBlock = some k → k ≠ B
  ml : X.length + Y.length ≤ 4194304
  byx : By X
  byy : By Y

theorem By_append {L M : List Nat} (h : By L) (k : By M) : By (L ++ M) := fun v hv => by
  rcases List.mem_append.1 hv with g | g
  · exact h v g
  · exact k v g

end Go.Proofs.YtcgmmfcphfkdhaaGreat
