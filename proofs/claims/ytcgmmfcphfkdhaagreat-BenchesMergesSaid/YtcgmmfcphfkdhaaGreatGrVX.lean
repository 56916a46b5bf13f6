/- The abstract machine, part GrVX. -/
import Derived.Test.YtcgmmfcphfkdhaaGreatGrAbsC
import Derived.OwnWalkIn
import Derived.RegionTactic
/- A region that draws its order, in a fence: what leads up to its end only reads; the end comes last in every order. -/
namespace Go.Abs
open Go Go.RowKit

structure Lead (ops : Array Oper) (m : Nat) (a a1 a' : Act) (listed : Array Bool) : Prop where
 size : listed.size = ops.size
 closed : Closed ops listed
 tail : ∀ i, m ≤ i → isIn listed i = false
 defers : a'.defers = a.defers
 len : a'.tmps.size = a.tmps.size
 done : ∀ t j, j < m → isIn listed j = true → dstOf ops j = some t → a'.tmps[t]? = a1.tmps[t]?
 rest : ∀ t, (∀ j, j < m → isIn listed j = true → dstOf ops j ≠ some t) → a'.tmps[t]? = a.tmps[t]?

variable {F : Fence} {n m : Nat} {P : Program} {ops : Array Oper} {Q : Exit → Act → World → Prop} {a a1 : Act} {w : World}

end Go.Abs

/- The law on regions with a lead, told by a list of slots and values. -/
namespace Go.Abs
open Go Go.RowKit

variable {F : Fence} {n m : Nat} {P : Program} {ops : Array Oper} {Q : Exit → Act → World → Prop} {a a1 : Act} {w : World}

def ledList (n m : Nat) : Array Bool := (List.replicate m true ++ List.replicate (n - m) false).toArray

theorem listed_eq {listed : Array Bool} {n m : Nat} (hm : m ≤ n) (hs : listed.size = n) (h1 : ∀ i, i < m → isIn listed i = true) (h2 : ∀ i, m ≤ i → isIn listed i = false) : listed = ledList n m := by
 apply Array.ext_getElem?
 intro i
 unfold ledList
 have e0 : (List.replicate m true ++ List.replicate (n - m) false).toArray[i]? = (List.replicate m true ++ List.replicate (n - m) false)[i]? := List.getElem?_toArray ..
 rw [e0]
 by_cases hl : i < n
 ·have e1 : listed[i]? = some (listed.getD i false) := by simp [Array.getD_eq_getD_getElem?, show i < listed.size by omega]
  rw [e1]
  by_cases him : i < m
  ·have := h1 i him
   unfold isIn at this
   rw [this, List.getElem?_append_left (by simpa using him)]
   simp [him]
  ·have := h2 i (by omega)
   unfold isIn at this
   rw [this, List.getElem?_append_right (by simp; omega), List.length_replicate, List.getElem?_replicate, if_pos (by omega)]
 ·rw [Array.getElem?_eq_none (by omega), List.getElem?_eq_none (by simp; omega)]

end Go.Abs

/- A region that draws its order, in a fence or in a round: what leads up to its end reads, or calls what only makes memory; the end comes last in every order. -/
namespace Go.Abs
open Go Go.RowKit

variable {F : Fence} {n m : Nat} {P : Program} {ops : Array Oper} {Q : Exit → Act → World → Prop} {a a1 : Act} {w : World}

end Go.Abs

/- A region that draws its order, its operations told one by one: what each yields depends on what it waits for alone, and what it makes lies above. -/
namespace Go.Abs
open Go Go.RowKit

variable {P : Program} {md : Region.Mode} {ops : Array Oper} {Q : Exit → Act → World → Prop}

def StepsTo (P : Program) (c : Sem Next) (W : World) (R : Value → World → Prop) : Prop :=
 (∃ v W', c.run P W = .ok (.value v) W' ∧ Below W.heap.size W W' ∧ R v W') ∨
 (∃ f args W', c.run P W = .ok (.enter f args) W' ∧ Below W.heap.size W W' ∧ Calls P f args W' fun e W'' => ∃ v, e = .returned v ∧ Below W'.heap.size W' W'' ∧ R v W'')

def valsB (size : Nat) (l : List Oper) : Bool :=
 (l.all fun o => o.guard.isNone && (match o.dst with | none => false | some d => decide (d < size))) &&
 ((List.range l.length).all fun i => (List.range l.length).all fun j => i == j || !(dstOf l.toArray i == dstOf l.toArray j)) &&
 ((List.range l.length).all fun i => match l[i]? with
  | none => true
  | some o => o.after.toList.all fun e => !Region.binds .any e || decide (e.on < i))

structure VInv (Val : Nat → Value → World → Prop) (l : List Oper) (a : Act) (w : World) (listed : Array Bool) (a' : Act) (W : World) : Prop where
 len : a'.tmps.size = a.tmps.size
 defers : a'.defers = a.defers
 below : Below w.heap.size w W
 vals : ∀ i d, isIn listed i = true → dstOf l.toArray i = some d → Val i (a'.tmps.getD d undef) W
 rest : ∀ t, (∀ i, isIn listed i = true → dstOf l.toArray i ≠ some t) → a'.tmps[t]? = a.tmps[t]?

def VQ (Val : Nat → Value → World → Prop) (W : World) (Q : Array Value → Prop) : Nat → List (Option Nat) → Array Value → Prop
 | _, [], tm => Q tm
 | i, none :: ds, tm => VQ Val W Q (i + 1) ds tm
 | i, some d :: ds, tm => ∀ v, Val i v W → VQ Val W Q (i + 1) ds (tm.setIfInBounds d v)

theorem VQ.get {Val : Nat → Value → World → Prop} {W : World} {Q : Array Value → Prop} {tm' : Array Value} :
  ∀ (ds : List (Option Nat)) (i : Nat) (tm : Array Value), VQ Val W Q i ds tm → tm.size = tm'.size →
   (∀ j d, ds[j]? = some (some d) → d < tm'.size ∧ Val (i + j) (tm'.getD d undef) W) → (∀ t, (∀ j : Nat, ds[j]? ≠ some (some t)) → tm'[t]? = tm[t]?) → Q tm'
 | [], i, tm, h, hs, h1, h2 => by
  have e : tm' = tm := by
   apply Array.ext_getElem?
   intro t
   exact h2 t (fun j e => by simp at e)
  rw [e]; exact h
 | none :: ds, i, tm, h, hs, h1, h2 => by
  refine VQ.get ds (i + 1) tm h hs (fun j d hj => ?_) (fun t ht => h2 t (fun j hj => ?_))
  ·have := h1 (j + 1) d (by simpa using hj)
   rwa [show i + 1 + j = i + (j + 1) by omega]
  ·cases j with
   | zero => simp at hj
   | succ j => exact ht j (by simpa using hj)
 | some d :: ds, i, tm, h, hs, h1, h2 => by
  obtain ⟨hd, hv⟩ := h1 0 d rfl
  refine VQ.get ds (i + 1) _ (h _ hv) (by simpa using hs) (fun j d' hj => ?_) (fun t ht => ?_)
  ·have := h1 (j + 1) d' (by simpa using hj)
   rwa [show i + 1 + j = i + (j + 1) by omega]
  ·by_cases e : d = t
   ·subst e
    rw [Array.getElem?_setIfInBounds_self_of_lt (by omega), Array.getElem?_eq_getElem hd, Array.getD_eq_getD_getElem?, Array.getElem?_eq_getElem hd]
    rfl
   ·rw [Array.getElem?_setIfInBounds_ne e]
    refine h2 t (fun j hj => ?_)
    cases j with
    | zero => simp at hj; exact e hj
    | succ j => exact ht j (by simpa using hj)

end Go.Abs

/- A region that draws its order, whose lead is told operation by operation, and whose end waits for all of the lead. -/
namespace Go.Abs
open Go Go.RowKit

variable {P : Program} {Q : Exit → Act → World → Prop}

def valsTB (size : Nat) (l : List Oper) (m : Nat) : Bool :=
 let A := ancs l []
 decide (m ≤ l.length) && valsB size (l.take m) &&
 ((List.range l.length).all fun i => match l[i]? with
  | none => true
  | some o => o.after.toList.all fun e => !Region.binds .any e || decide (e.on < i)) &&
 ((List.range l.length).all fun k => decide (k < m) || ((List.range m).all fun j => ancA A k j))

theorem wp_region_valsT {id : Nat} {l : List Oper} {a : Act} {w : World} (m : Nat) (Val : Nat → Value → World → Prop) (hm : P.follows .mixedOrders = true) (hB : valsTB a.tmps.size l m = true)
  (hst : ∀ i v W W', Val i v W → Below W.heap.size W W' → Val i v W')
  (hstep : ∀ i o, (l.take m)[i]? = some o → ∀ (a' : Act) W, Below w.heap.size w W → (∀ t, ((l.take m).map (·.dst)).contains (some t) = false → a'.eval (.tmp t) = a.eval (.tmp t)) →
   (∀ e ∈ o.after.toList, Region.binds .any e = true → ∀ d, dstOf (l.take m).toArray e.on = some d → Val e.on (a'.eval (.tmp d)) W) → StepsTo P (execOp a'.eval o) W (Val i))
  (hQ : ∀ W, Below w.heap.size w W → VQ Val W (fun tm => wpAny P .any l.toArray Q (l.length - m) (ledList l.length m) { a with tmps := tm } W) 0 ((l.take m).map (·.dst)) a.tmps) :
  (Code.region id l.toArray true).wp P Q a w := by
 unfold valsTB at hB
 simp only [Bool.and_eq_true, decide_eq_true_eq] at hB
 obtain ⟨⟨⟨hml, hBp⟩, hback⟩, htail⟩ := hB
 simp only [List.all_eq_true, List.mem_range, Bool.or_eq_true, decide_eq_true_eq] at htail hback
 unfold valsB at hBp
 simp only [Bool.and_eq_true, List.all_eq_true, List.mem_range, Bool.or_eq_true, beq_iff_eq, Bool.not_eq_true', Option.isNone_iff_eq_none] at hBp
 obtain ⟨⟨hB1, hB2⟩, -⟩ := hBp
 have hpl : (l.take m).length = m := by simp; omega
 have hd : ∀ i o, (l.take m)[i]? = some o → ∃ d, o.dst = some d ∧ d < a.tmps.size ∧ o.guard = none ∧ dstOf (l.take m).toArray i = some d := by
  intro i o ho
  obtain ⟨h1, h2⟩ := hB1 o (List.mem_of_getElem? ho)
  cases hdo : o.dst with
  | none => rw [hdo] at h2; cases h2
  | some d =>
   rw [hdo] at h2
   refine ⟨d, rfl, by simpa using h2, h1, ?_⟩
   unfold dstOf
   rw [List.getElem?_toArray, ho]
   exact hdo
 have hdi : ∀ i d, dstOf (l.take m).toArray i = some d → ∃ o, (l.take m)[i]? = some o ∧ o.dst = some d := by
  intro i d h
  unfold dstOf at h
  rw [List.getElem?_toArray] at h
  cases ho : (l.take m)[i]? with
  | none => rw [ho] at h; cases h
  | some o => rw [ho] at h; exact ⟨o, rfl, h⟩
 have hne : ∀ i j d, dstOf (l.take m).toArray i = some d → dstOf (l.take m).toArray j = some d → i = j := by
  intro i j d h1 h2
  obtain ⟨o1, g1, -⟩ := hdi i d h1
  obtain ⟨o2, g2, -⟩ := hdi j d h2
  rcases hB2 i (List.getElem?_eq_some_iff.1 g1).1 j (List.getElem?_eq_some_iff.1 g2).1 with e | e
  ·exact e
  ·rw [h1, h2] at e
   simp at e
 have main : ∀ (k : Nat) (listed : Array Bool) (a' : Act) (W : World), listed.size = l.length → Closed l.toArray listed → (∀ i, m ≤ i → isIn listed i = false) → VInv Val (l.take m) a w listed a' W → left m listed = k →
   wpAny P .any l.toArray Q (l.length - m + k) listed a' W := by
  intro k
  induction k with
  | zero =>
   intro listed a' W hls _ ht hi hl
   have hall := left_zero hl
   have e1 := listed_eq hml hls hall ht
   have := VQ.get (tm' := a'.tmps) ((l.take m).map (·.dst)) 0 a.tmps (hQ W hi.below) hi.len.symm
    (fun j d hj => by
     rw [List.getElem?_map] at hj
     cases ho : (l.take m)[j]? with
     | none => rw [ho] at hj; cases hj
     | some o =>
      rw [ho] at hj
      obtain ⟨d', h1, h2, -, h4⟩ := hd j o ho
      simp only [Option.map_some, Option.some.injEq] at hj
      rw [h1] at hj
      cases hj
      refine ⟨by rw [hi.len]; exact h2, ?_⟩
      rw [Nat.zero_add]
      exact hi.vals j d (hall j (by have := (List.getElem?_eq_some_iff.1 ho).1; omega)) h4)
    (fun t ht => hi.rest t (fun j _ e => ht j (by
     obtain ⟨o, h1, h2⟩ := hdi j t e
     rw [List.getElem?_map, h1]
     simp [h2])))
   have e : ({ a with tmps := a'.tmps } : Act) = a' := by
    obtain ⟨t1, d1⟩ := a'
    have := hi.defers
    simp only at this
    simp [this]
   rw [e, ← e1] at this
   exact this
  | succ k ih =>
   intro listed a' W hls hcl ht hi hl
   refine ⟨fun hnil => ?_, fun i hir => ?_⟩
   ·exfalso
    have hall : ∀ i, i < m → isIn listed i = true := by
     intro i
     induction i using Nat.strongRecOn with
     | _ i ih2 =>
      intro him
      cases hli : isIn listed i with
      | true => rfl
      | false =>
       exfalso
       have hin : i < l.length := by omega
       have ho : l[i]? = some l[i] := List.getElem?_eq_getElem hin
       have : i ∈ Region.ready .any l.toArray listed := by
        rw [mem_ready]
        refine ⟨getD_in (by omega) hli, l[i], by rw [List.getElem?_toArray]; exact ho, fun e he hb => ?_⟩
        have h1 := hback i hin
        rw [ho] at h1
        simp only [List.all_eq_true] at h1
        have h2 := h1 e (by simpa using he)
        simp only [hb, Bool.not_true, Bool.false_or, decide_eq_true_eq] at h2
        exact ih2 e.on h2 (by omega)
       rw [hnil] at this
       cases this
    have : left m listed = 0 := by
     unfold left
     rw [List.length_eq_zero_iff, List.filter_eq_nil_iff]
     intro i hi2
     simp [hall i (List.mem_range.1 hi2)]
    omega
   ·obtain ⟨hun, o, ho, hdep⟩ := mem_ready.1 hir
    rw [List.getElem?_toArray] at ho
    have hin := (List.getElem?_eq_some_iff.1 ho).1
    have hil : i < listed.size := by omega
    have hli : isIn listed i = false := getD_both hun
    have up : ∀ j, anc l.toArray i j = true → isIn listed j = true := fun j hj => anc_listed hcl i j hj (fun o' ho' e he hb => by
     rw [List.getElem?_toArray, ho] at ho'; cases ho'; exact hdep e he hb)
    have him : i < m := by
     rcases Nat.lt_or_ge i m with h | h
     ·exact h
     ·exfalso
      have hall : ∀ j, j < m → isIn listed j = true := by
       intro j hj
       rcases htail i hin with h1 | h1
       ·omega
       ·exact up j (h1 j hj)
      have : left m listed = 0 := by
       unfold left
       rw [List.length_eq_zero_iff, List.filter_eq_nil_iff]
       intro j hj
       simp [hall j (List.mem_range.1 hj)]
      omega
    have hop : (l.take m)[i]? = some o := by rw [List.getElem?_take, if_pos him]; exact ho
    obtain ⟨d, hdo, hds, hgu, hdst⟩ := hd i o hop
    have hnew : isIn (listed.setIfInBounds i true) i = true := by rw [isIn_set hil]; simp
    have hother : ∀ j, j ≠ i → isIn (listed.setIfInBounds i true) j = isIn listed j := fun j hj => by
     rw [isIn_set hil]
     have : (j == i) = false := by simpa using hj
     rw [this, Bool.or_false]
    have next : ∀ v W', Below W.heap.size W W' → Val i v W' → wpAny P .any l.toArray Q (l.length - m + k) (listed.setIfInBounds i true) (a'.put o.dst v) W' := by
     intro v W' hW' hv
     rw [hdo]
     have hlen : d < a'.tmps.size := by rw [hi.len]; exact hds
     refine ih _ _ _ (by simpa using hls) ?_ ?_ ⟨by simp [Act.put, hi.len], hi.defers, hi.below.trans (hW'.mono hi.below.size), fun j dj hj hdj => ?_, fun t ht => ?_⟩ ?_
     ·intro j oj hoj hlj e he hb
      change isIn _ _ = true at hlj
      change isIn _ _ = true
      by_cases hji : j = i
      ·subst hji
       rw [List.getElem?_toArray, ho] at hoj; cases hoj
       have := hdep e he hb
       by_cases hee : e.on = j
       ·rw [hee]; exact hnew
       ·rw [hother _ hee]; exact this
      ·rw [hother j hji] at hlj
       have := hcl j oj hoj hlj e he hb
       by_cases hee : e.on = i
       ·rw [hee]; exact hnew
       ·rw [hother _ hee]; exact this
     ·intro j hj
      rw [hother j (by omega)]
      exact ht j hj
     ·show Val j ((a'.tmps.setIfInBounds d v).getD dj undef) W'
      by_cases hji : j = i
      ·subst hji
       rw [hdst] at hdj
       cases hdj
       rw [Array.getD_eq_getD_getElem?, Array.getElem?_setIfInBounds_self_of_lt hlen]
       exact hv
      ·rw [hother j hji] at hj
       have hdd : d ≠ dj := fun e => by subst e; exact hji (hne j i d hdj hdst)
       rw [Array.getD_eq_getD_getElem?, Array.getElem?_setIfInBounds_ne hdd, ← Array.getD_eq_getD_getElem?]
       exact hst j _ _ _ (hi.vals j dj hj hdj) hW'
     ·show (a'.tmps.setIfInBounds d v)[t]? = _
      have htd : d ≠ t := fun e => by
       subst e
       exact ht i hnew hdst
      rw [Array.getElem?_setIfInBounds_ne htd]
      refine hi.rest t (fun j hj => ht j ?_)
      by_cases hji : j = i
      ·subst hji; exact hnew
      ·rw [hother j hji]; exact hj
     ·have h2 : left m (listed.setIfInBounds i true) + 1 = left m listed := by
       unfold left
       refine (filter_insert (i := i) m him (by simp [hli]) ?_ fun j hj => ?_).symm
       ·simp [hnew]
       ·rw [hother j hj]
      omega
    have hS := hstep i o hop a' W hi.below
     (fun t ht => by
      have := hi.rest t (fun j _ e => by
       obtain ⟨o2, g1, g2⟩ := hdi j t e
       have : some t ∈ (l.take m).map (·.dst) := List.mem_map.2 ⟨o2, List.mem_of_getElem? g1, g2⟩
       rw [← List.contains_iff_mem, ht] at this
       cases this)
      show a'.tmps.getD t undef = a.tmps.getD t undef
      simp only [Array.getD_eq_getD_getElem?, this])
     (fun e he hb de hde => hi.vals e.on de (hdep e (by simpa using he) hb) hde)
    refine wpOp_step (o := o) (by rw [List.getElem?_toArray]; exact ho) (fun K hK => ?_)
    rw [if_pos (show Region.wanted o _ = true by unfold Region.wanted; rw [hgu])]
    unfold Oper.wp
    rcases hS with ⟨v, W', h1, h2, h3⟩ | ⟨f, args, W', h1, h2, h3⟩
    ·rw [h1]
     exact hK _ _ (next v W' h2 h3)
    ·rw [h1]
     refine h3.mono ?_
     rintro e W'' ⟨v, rfl, hb, hv⟩
     exact hK _ _ (next v W'' (h2.trans (hb.mono h2.size)) hv)
 refine wp_region_any hm ?_
 have hno : ∀ i, isIn (Array.replicate l.toArray.size false) i = false := fun i => getD_replicate_false _ _
 have := main m (Array.replicate l.toArray.size false) a w.drew (by simp) (fun j oj _ hl => (by rw [getD_replicate_false] at hl; cases hl)) (fun i _ => hno i)
  ⟨rfl, rfl, (Below.refl _ w).drew, fun i d h => (by rw [hno] at h; cases h), fun t _ => rfl⟩
  (by unfold left; rw [List.filter_eq_self.2 (fun i _ => by rw [hno]; rfl)]; simp)
 have e : l.length - m + m = l.toArray.size := by simp; omega
 rw [e] at this
 exact this

end Go.Abs
