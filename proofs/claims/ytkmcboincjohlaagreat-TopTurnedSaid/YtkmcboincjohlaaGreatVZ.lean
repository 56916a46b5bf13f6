/- A region that draws its order, told operation by operation to its end: an operation may store, and what one yields may speak of what is listed. -/
import Derived.Test.YtkmcboincjohlaaGreatGrRD
namespace Go.Abs
open Go Go.RowKit

variable {P : Program} {Q : Exit → Act → World → Prop}

/-- What an operation has yielded: the value in its slot. -/
def vAt (a : Act) (o : Oper) : Value := match o.dst with
  | some d => a.tmps.getD d undef
  | none => undef

/-- No guard; each slot is written once; what an operation waits for stands ahead of it. -/
def valsZB (size : Nat) (l : List Oper) : Bool :=
  (l.all fun o => o.guard.isNone && (match o.dst with | none => true | some d => decide (d < size))) &&
  ((List.range l.length).all fun i => (List.range l.length).all fun j => i == j || (dstOf l.toArray i).isNone || !(dstOf l.toArray i == dstOf l.toArray j)) &&
  ((List.range l.length).all fun i => match l[i]? with
    | none => true
    | some o => o.after.toList.all fun e => !Region.binds .any e || decide (e.on < i))

structure VInvZ (Val : Array Bool → Nat → Value → World → Prop) (Good : Array Bool → World → Prop) (l : List Oper) (a : Act) (listed : Array Bool) (a' : Act) (W : World) : Prop where
  len : a'.tmps.size = a.tmps.size
  defers : a'.defers = a.defers
  good : Good listed W
  vals : ∀ i o, isIn listed i = true → l[i]? = some o → Val listed i (vAt a' o) W
  rest : ∀ t, (∀ i, isIn listed i = true → dstOf l.toArray i ≠ some t) → a'.tmps[t]? = a.tmps[t]?

theorem wp_region_invZ {ops : Array Oper} {id : Nat} {a : Act} {w : World} (Inv : Array Bool → Act → World → Prop) (hm : P.follows .mixedOrders = true)
    (h0 : Inv (Array.replicate ops.size false) a { w with drawn := w.drawn + 1 })
    (hstep : ∀ listed a w i, listed.size = ops.size → Inv listed a w → i ∈ Region.ready .any ops listed → wpOp P ops Q i (Inv (listed.setIfInBounds i true)) a w)
    (hdone : ∀ listed a w, Inv listed a w → Region.ready .any ops listed = [] → Q .normal a w) : (Code.region id ops true).wp P Q a w := by
  refine wp_region_any hm (wpAny_invV Inv hstep hdone _ _ _ _ (by simp) ?_ h0)
  refine Nat.le_trans List.countP_le_length ?_
  simp

end Go.Abs
