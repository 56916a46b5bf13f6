/- Disks: both together, from act to act. -/
import Derived.Test.YtcgmmfcphfkdhaaGreatD7
namespace Go.Proofs.YtcgmmfcphfkdhaaGreat
open Go Go.RowKit Go.Proofs Go.Torn Go.Abs

structure Dk (base : Nat) (W : World) (A B : Nat) (v x y : Value) (X Y : List Nat) : Prop where
  p : PD base W A v (X ++ Y) X.length
  r : RD base W B x y X Y
  ab : A ≠ B
  vB : v.ownBlock ≠ some B
  xA : x.ownBlock ≠ some A
  yA : y.ownBlock ≠ some A
  xv : ∀ k, x.ownBlock = some k → v.ownBlock ≠ some k
  yv : ∀ k, y.ownBlock = some k → v.ownBlock ≠ some k

theorem Dk.low {base A B : Nat} {W W' : World} {v x y : Value} {X Y : List Nat} (h : Dk base W A B v x y X Y) (hb : Below W.heap.size W W') : Dk base W' A B v x y X Y :=
  ⟨h.p.low hb, h.r.low hb, h.ab, h.vB, h.xA, h.yA, h.xv, h.yv⟩

theorem Chg.mono {W W' : World} {S T : Nat → Prop} (h : Chg W W' S) (hs : ∀ k, S k → T k) : Chg W W' T := ⟨h.os, h.tape, h.output, h.size, fun k hk hn => h.block k hk (fun e => hn (hs k e))⟩

/-- What the reference has is as it was, whatever the program did to its disk. -/
theorem Dk.mid {base A B : Nat} {W W1 : World} {v x y : Value} {X Y : List Nat} (h : Dk base W A B v x y X Y) (hg : Chg W W1 (fun k => k = A ∨ v.ownBlock = some k)) : RD base W1 B x y X Y :=
  h.r.keep hg (fun e => e.elim (fun e => h.ab e.symm) h.vB) (fun k e f => f.elim (fun f => h.xA (f ▸ e)) (h.xv k e)) (fun k e f => f.elim (fun f => h.yA (f ▸ e)) (h.yv k e))

theorem Dk.fin {base A B d : Nat} {W W1 W2 : World} {v x y v' x' y' : Value} {X Y X' Y' D : List Nat} (h : Dk base W A B v x y X Y) (hp : PD base W1 A v' D d) (hv : v'.ownBlock = v.ownBlock ∨ v'.ownBlock = some W.heap.size)
    (hr : RD base W2 B x' y' X' Y') (hg2 : Chg W1 W2 (fun k => k = B)) (hx : x'.ownBlock = x.ownBlock ∨ ∀ k, x'.ownBlock = some k → W1.heap.size ≤ k) (hy : y'.ownBlock = y.ownBlock ∨ ∀ k, y'.ownBlock = some k → W1.heap.size ≤ k)
    (hD : D = X' ++ Y') (hd : d = X'.length) : Dk base W2 A B v' x' y' X' Y' := by
  subst hD
  subst hd
  have hB := h.r.bx.lt
  have hA := hp.bx.lt
  have hvB : v'.ownBlock ≠ some B := fun e => by
    rcases hv with g | g
    · exact h.vB (g ▸ e)
    · rw [g] at e; simp only [Option.some.injEq] at e; omega
  have far : ∀ z z' : Value, z.ownBlock ≠ some A → (∀ k, z.ownBlock = some k → v.ownBlock ≠ some k) → (∀ k, z.ownBlock = some k → k < W.heap.size) → (z'.ownBlock = z.ownBlock ∨ ∀ k, z'.ownBlock = some k → W1.heap.size ≤ k) →
      z'.ownBlock ≠ some A ∧ ∀ k, z'.ownBlock = some k → v'.ownBlock ≠ some k := by
    intro z z' h1 h2 h3 h4
    rcases h4 with g | g
    · rw [g]
      refine ⟨h1, fun k e f => ?_⟩
      rcases hv with q | q
      · exact h2 k e (q ▸ f)
      · rw [q] at f
        have := h3 k e
        simp only [Option.some.injEq] at f
        omega
    · refine ⟨fun e => by have := g _ e; omega, fun k e f => ?_⟩
      have q1 := g k e
      have q2 := (hp.own.lt k f).2
      omega
  have fx := far x x' h.xA h.xv (fun k e => (h.r.ox.lt k e).2) hx
  have fy := far y y' h.yA h.yv (fun k e => (h.r.oy.lt k e).2) hy
  exact ⟨hp.keep hg2 h.ab (fun k e f => hvB (f ▸ e)), hr, h.ab, hvB, fx.1, fy.1, fx.2, fy.2⟩

theorem Dk.bel {base A B : Nat} {W W1 W2 : World} {v x y : Value} {X Y : List Nat} (h : Dk base W A B v x y X Y) (hbw : base ≤ W.heap.size) (hg : Chg W W1 (fun k => k = A ∨ v.ownBlock = some k)) (hg2 : Chg W1 W2 (fun k => k = B)) : Below base W W2 :=
  (hg.below hbw (fun k hk e => by
    rcases e with e | e
    · have := h.p.lo; omega
    · have := (h.p.own.lt k e).1; omega)).trans (hg2.below (Nat.le_trans hbw hg.size) (fun k hk e => by have := h.r.lo; omega))

theorem Dk.new {W1 W2 : World} {A B : Nat} {base : Nat} (hA : base ≤ A) (hB : base ≤ B) (hab : A ≠ B) (h1 : Bx W1 A 75 (.slice none 0 0) (.int .i64 0)) (hb : Below W1.heap.size W1 W2) (h2 : Bx W2 B 141 (.slice none 0 0) (.slice none 0 0)) :
    Dk base W2 A B (.slice none 0 0) (.slice none 0 0) (.slice none 0 0) [] [] := by
  have e : ∀ k, (Value.slice none 0 0).ownBlock = some k → False := fun k e => by cases e
  exact ⟨⟨hA, h1.keep (Chg.of_below (fun _ => False) hb) (fun e => e), World.ownsRow_nil _ _ _ _, fun k h => (e k h).elim, Nat.le_refl _, by decide, fun v hv => by simp at hv⟩,
    ⟨hB, h2, World.ownsRow_nil _ _ _ _, World.ownsRow_nil _ _ _ _, fun k h => (e k h).elim, fun k h => (e k h).elim, by decide, fun v hv => by simp at hv, fun v hv => by simp at hv⟩,
    hab, fun h => e _ h, fun h => e _ h, fun h => e _ h, fun k h => (e k h).elim, fun k h => (e k h).elim⟩

/-- What is left of a disk that lost power: the program's bytes are the reference's. -/
theorem crash_take (X Y : List Nat) (k : Nat) : (X ++ Y).take (X.length + k) = X ++ Y.take k := by
  rw [List.take_append, List.take_of_length_le (by omega), show X.length + k - X.length = k by omega]

theorem crash_set (X Y : List Nat) (k p z : Nat) (hp : p < k) (f : Nat → Nat) (hz : z = f ((X ++ Y).getD (X.length + p) 0)) :
    ((X ++ Y).set (X.length + p) z).take (X.length + k) = X ++ (Y.take k).set p (f ((Y.take k).getD p 0)) := by
  have e1 : (X ++ Y).getD (X.length + p) 0 = (Y.take k).getD p 0 := by
    simp only [List.getD]
    rw [List.getElem?_append_right (by omega), show X.length + p - X.length = p by omega, List.getElem?_take_of_lt hp]
  rw [hz, e1, List.set_append_right _ _ (by omega), show X.length + p - X.length = p by omega, List.take_append, List.take_of_length_le (by omega), show X.length + k - X.length = k by omega]
  rw [List.take_set]

end Go.Proofs.YtcgmmfcphfkdhaaGreat
