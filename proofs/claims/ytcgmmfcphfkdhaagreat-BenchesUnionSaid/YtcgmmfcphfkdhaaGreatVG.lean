/- A region that draws its order, its operations told one by one: what each yields depends on what it waits for alone, and what it makes lies above. -/
import Derived.Test.YtcgmmfcphfkdhaaGreatGrAbsC
import Derived.RegionTactic
namespace Go.Abs
open Go Go.RowKit

variable {P : Program} {md : Region.Mode} {ops : Array Oper} {Q : Exit → Act → World → Prop}

theorem wpAny_invG (Inv : Array Bool → Act → World → Prop)
  (hstep : ∀ listed a w i, listed.size = ops.size → Inv listed a w → i ∈ Region.ready md ops listed → wpOp P ops Q i (Inv (listed.setIfInBounds i true)) a w)
  (hdone : ∀ listed a w, Inv listed a w → Region.ready md ops listed = [] → Q .normal a w) :
  ∀ (fuel : Nat) (listed : Array Bool) (a : Act) (w : World), listed.size = ops.size → listed.toList.countP (fun b => !b) ≤ fuel → Inv listed a w → wpAny P md ops Q fuel listed a w := by
 intro fuel
 induction fuel with
 | zero =>
  intro listed a w hs hc hi
  have hr : Region.ready md ops listed = [] := by
   rw [List.eq_nil_iff_forall_not_mem]
   intro i h
   obtain ⟨hl, o, ho, -⟩ := mem_ready.1 h
   have hlt : i < listed.size := by rw [hs]; exact (Array.getElem?_eq_some_iff.1 ho).1
   have h0 : listed.toList.countP (fun b => !b) = 0 := by omega
   rw [List.countP_eq_zero] at h0
   have := h0 (listed[i]) (by simp)
   simp [Array.getD_eq_getD_getElem?, hlt] at hl
   simp [hl] at this
  exact ⟨hr, hdone listed a w hi hr⟩
 | succ fuel ih =>
  intro listed a w hs hc hi
  refine ⟨hdone listed a w hi, fun i h => ?_⟩
  refine wpOp_mono (fun a' w' hi' => ih _ a' w' (by simpa using hs) ?_ hi') (hstep listed a w i hs hi h)
  obtain ⟨hl, o, ho, -⟩ := mem_ready.1 h
  have hlt : i < listed.size := by rw [hs]; exact (Array.getElem?_eq_some_iff.1 ho).1
  have hl' : listed.toList[i]'(by simpa using hlt) = false := by simpa [Array.getD_eq_getD_getElem?, hlt] using hl
  rw [Array.toList_setIfInBounds, List.countP_set]
  ·simp only [Bool.not_true, Bool.false_eq_true, if_false, hl', Bool.not_false, if_true]
   omega
  ·simpa using hlt


def StepsToG (P : Program) (c : Sem Next) (W : World) (R : Value → World → Prop) : Prop :=
 (∃ v W', c.run P W = .ok (.value v) W' ∧ Below W.heap.size W W' ∧ R v W') ∨
 (∃ f args W', c.run P W = .ok (.enter f args) W' ∧ Below W.heap.size W W' ∧ Calls P f args W' fun e W'' => ∃ v, e = .returned v ∧ Below W'.heap.size W' W'' ∧ R v W'')

def valsGB (size : Nat) (l : List Oper) : Bool :=
 (l.all fun o => (match o.guard with | none => true | some (g, _) => (o.after.toList.any fun e => Nat.beq e.on g && Region.binds .any e) && (dstOf l.toArray g).isSome) && (match o.dst with | none => false | some d => decide (d < size))) &&
 ((List.range l.length).all fun i => (List.range l.length).all fun j => i == j || !(dstOf l.toArray i == dstOf l.toArray j)) &&
 ((List.range l.length).all fun i => match l[i]? with
  | none => true
  | some o => o.after.toList.all fun e => !Region.binds .any e || decide (e.on < i))

structure VInvG (Val : Nat → Value → World → Prop) (l : List Oper) (a : Act) (w : World) (listed : Array Bool) (a' : Act) (W : World) : Prop where
 len : a'.tmps.size = a.tmps.size
 defers : a'.defers = a.defers
 below : Below w.heap.size w W
 vals : ∀ i d, isIn listed i = true → dstOf l.toArray i = some d → Val i (a'.tmps.getD d undef) W
 rest : ∀ t, (∀ i, isIn listed i = true → dstOf l.toArray i ≠ some t) → a'.tmps[t]? = a.tmps[t]?

def VQG (Val : Nat → Value → World → Prop) (W : World) (Q : Array Value → Prop) : Nat → List (Option Nat) → Array Value → Prop
 | _, [], tm => Q tm
 | i, none :: ds, tm => VQG Val W Q (i + 1) ds tm
 | i, some d :: ds, tm => ∀ v, Val i v W → VQG Val W Q (i + 1) ds (tm.setIfInBounds d v)

theorem VQG.get {Val : Nat → Value → World → Prop} {W : World} {Q : Array Value → Prop} {tm' : Array Value} :
  ∀ (ds : List (Option Nat)) (i : Nat) (tm : Array Value), VQG Val W Q i ds tm → tm.size = tm'.size →
   (∀ j d, ds[j]? = some (some d) → d < tm'.size ∧ Val (i + j) (tm'.getD d undef) W) → (∀ t, (∀ j : Nat, ds[j]? ≠ some (some t)) → tm'[t]? = tm[t]?) → Q tm'
 | [], i, tm, h, hs, h1, h2 => by
  have e : tm' = tm := by
   apply Array.ext_getElem?
   intro t
   exact h2 t (fun j e => by simp at e)
  rw [e]; exact h
 | none :: ds, i, tm, h, hs, h1, h2 => by
  refine VQG.get ds (i + 1) tm h hs (fun j d hj => ?_) (fun t ht => h2 t (fun j hj => ?_))
  ·have := h1 (j + 1) d (by simpa using hj)
   rwa [show i + 1 + j = i + (j + 1) by omega]
  ·cases j with
   | zero => simp at hj
   | succ j => exact ht j (by simpa using hj)
 | some d :: ds, i, tm, h, hs, h1, h2 => by
  obtain ⟨hd, hv⟩ := h1 0 d rfl
  refine VQG.get ds (i + 1) _ (h _ hv) (by simpa using hs) (fun j d' hj => ?_) (fun t ht => ?_)
  ·have := h1 (j + 1) d' (by simpa using hj)
   rwa [show i + 1 + j = i + (j + 1) by omega]
  ·by_cases e : d = t
   ·subst e
    rw [Array.getElem?_setIfInBounds_self_of_lt (by omega), Array.getElem?_eq_getElem hd, Array.getD_eq_getD_getElem?, Array.getElem?_eq_getElem hd]
    rfl
   ·rw [Array.getElem?_setIfInBounds_ne e]
    refine h2 t (fun j hj => ?_)
    cases j with
    | zero => simp at hj; exact e hj
    | succ j => exact ht j (by simpa using hj)

theorem wp_region_valsG {id : Nat} {l : List Oper} {a : Act} {w : World} (Val : Nat → Value → World → Prop) (hm : P.follows .mixedOrders = true) (hB : valsGB a.tmps.size l = true)
  (hst : ∀ i v W W', Val i v W → Below W.heap.size W W' → Val i v W')
  (hgd : ∀ (i : Nat) (o : Oper) (g : Nat) (b : Bool), l[i]? = some o → o.guard = some (g, b) → ∀ v W, Val g v W → v = .bool b)
  (hstep : ∀ i o, l[i]? = some o → ∀ (a' : Act) W, Below w.heap.size w W → (∀ t, (l.map (·.dst)).contains (some t) = false → a'.eval (.tmp t) = a.eval (.tmp t)) →
   (∀ e ∈ o.after.toList, Region.binds .any e = true → ∀ d, dstOf l.toArray e.on = some d → Val e.on (a'.eval (.tmp d)) W) → StepsToG P (execOp a'.eval o) W (Val i))
  (hQ : ∀ W, Below w.heap.size w W → VQG Val W (fun tm => Q .normal { a with tmps := tm } W) 0 (l.map (·.dst)) a.tmps) :
  (Code.region id l.toArray true).wp P Q a w := by
 unfold valsGB at hB
 simp only [Bool.and_eq_true, List.all_eq_true, List.mem_range, Bool.or_eq_true, beq_iff_eq, Bool.not_eq_true'] at hB
 obtain ⟨⟨hB1, hB2⟩, hB3⟩ := hB
 have hd : ∀ i o, l[i]? = some o → ∃ d, o.dst = some d ∧ d < a.tmps.size ∧ (∀ g b, o.guard = some (g, b) → (∃ e ∈ o.after.toList, e.on = g ∧ Region.binds .any e = true) ∧ (dstOf l.toArray g).isSome = true) ∧ dstOf l.toArray i = some d := by
  intro i o ho
  obtain ⟨h1, h2⟩ := hB1 o (List.mem_of_getElem? ho)
  cases hdo : o.dst with
  | none => rw [hdo] at h2; cases h2
  | some d =>
   rw [hdo] at h2
   refine ⟨d, rfl, by simpa using h2, ?_, ?_⟩
   ·intro g b hgb
    rw [hgb] at h1
    simp only [Bool.and_eq_true, List.any_eq_true, Nat.beq_eq] at h1
    exact h1
   unfold dstOf
   simp [ho, hdo]
 have hdi : ∀ i d, dstOf l.toArray i = some d → ∃ o, l[i]? = some o ∧ o.dst = some d := by
  intro i d h
  unfold dstOf at h
  cases ho : l[i]? with
  | none => simp [ho] at h
  | some o => exact ⟨o, rfl, by simpa [ho] using h⟩
 have hne : ∀ i j d, dstOf l.toArray i = some d → dstOf l.toArray j = some d → i = j := by
  intro i j d h1 h2
  obtain ⟨o1, g1, -⟩ := hdi i d h1
  obtain ⟨o2, g2, -⟩ := hdi j d h2
  rcases hB2 i (List.getElem?_eq_some_iff.1 g1).1 j (List.getElem?_eq_some_iff.1 g2).1 with e | e
  ·exact e
  ·rw [h1, h2] at e
   simp at e
 refine wp_region_any hm (wpAny_invG (fun L a' W => L.size = l.length ∧ VInvG Val l a w L a' W) ?_ ?_ _ _ _ _ (by simp) ?_ ?_)
 ·rintro listed a' W i hsz ⟨hls, hi⟩ hr
  obtain ⟨hun, o, ho, hdep⟩ := mem_ready.1 hr
  have ho' : l[i]? = some o := by simpa using ho
  obtain ⟨d, hdo, hds, hgu, hdst⟩ := hd i o ho'
  have hil : i < listed.size := by rw [hsz]; exact (Array.getElem?_eq_some_iff.1 ho).1
  have hfresh : isIn listed i = false := by
   unfold isIn
   rw [Array.getD_eq_getD_getElem?, Array.getElem?_eq_getElem hil] at hun ⊢
   simpa using hun
  have next : ∀ v W', Below W.heap.size W W' → Val i v W' → VInvG Val l a w (listed.setIfInBounds i true) (a'.put o.dst v) W' := by
   intro v W' hW' hv
   rw [hdo]
   have hlen : d < a'.tmps.size := by rw [hi.len]; exact hds
   refine ⟨by simp [Act.put, hi.len], hi.defers, hi.below.trans (hW'.mono hi.below.size), fun j dj hj hdj => ?_, fun t ht => ?_⟩
   ·show Val j ((a'.tmps.setIfInBounds d v).getD dj undef) W'
    by_cases hji : j = i
    ·subst hji
     rw [hdst] at hdj
     cases hdj
     rw [Array.getD_eq_getD_getElem?, Array.getElem?_setIfInBounds_self_of_lt hlen]
     exact hv
    ·have hjl : isIn listed j = true := by
      rw [isIn_set hil] at hj
      simpa [hji] using hj
     have hdd : d ≠ dj := fun e => by subst e; exact hji (hne j i d hdj hdst)
     rw [Array.getD_eq_getD_getElem?, Array.getElem?_setIfInBounds_ne hdd, ← Array.getD_eq_getD_getElem?]
     exact hst j _ _ _ (hi.vals j dj hjl hdj) hW'
   ·show (a'.tmps.setIfInBounds d v)[t]? = _
    have htd : d ≠ t := fun e => by
     subst e
     exact ht i (by rw [isIn_set hil]; simp) hdst
    rw [Array.getElem?_setIfInBounds_ne htd]
    exact hi.rest t (fun j hj => ht j (by rw [isIn_set hil, hj]; rfl))
  have hS := hstep i o ho' a' W hi.below
   (fun t ht => by
    have := hi.rest t (fun j _ e => by
     obtain ⟨o2, g1, g2⟩ := hdi j t e
     have : some t ∈ l.map (·.dst) := List.mem_map.2 ⟨o2, List.mem_of_getElem? g1, g2⟩
     rw [← List.contains_iff_mem, ht] at this
     cases this)
    show a'.tmps.getD t undef = a.tmps.getD t undef
    simp only [Array.getD_eq_getD_getElem?, this])
   (fun e he hb de hde => hi.vals e.on de (hdep e (by simpa using he) hb) hde)
  refine wpOp_step (o := o) ho (fun K hK => ?_)
  rw [if_pos (show Region.wanted o _ = true by
   unfold Region.wanted
   cases hgo : o.guard with
   | none => rfl
   | some gb =>
    obtain ⟨g, b⟩ := gb
    obtain ⟨⟨e, he, heg, hb⟩, hsm⟩ := hgu g b hgo
    obtain ⟨de, hde⟩ := Option.isSome_iff_exists.1 hsm
    subst heg
    have hv := hi.vals e.on de (hdep e (by simpa using he) hb) hde
    have hvb := hgd i o e.on b ho' hgo _ _ hv
    obtain ⟨oe, hoe, hoed⟩ := hdi e.on de hde
    have hlt : de < a'.tmps.size := by
     obtain ⟨d2, k1, k2, -, -⟩ := hd e.on oe hoe
     rw [hoed] at k1
     cases k1
     rw [hi.len]
     exact k2
    have e1 : a'.tmps[de]? = some (.bool b) := by
     rw [Array.getD_eq_getD_getElem?, Array.getElem?_eq_getElem hlt] at hvb
     rw [Array.getElem?_eq_getElem hlt]
     exact congrArg some hvb
    have e2 : (l.toArray[e.on]?).bind (·.dst) = some de := hde
    simp only [yielded, e2, Option.bind_some, e1, beq_self_eq_true])]
  unfold Oper.wp
  rcases hS with ⟨v, W', h1, h2, h3⟩ | ⟨f, args, W', h1, h2, h3⟩
  ·rw [h1]
   exact hK _ _ ⟨by simpa using hls, next v W' h2 h3⟩
  ·rw [h1]
   refine h3.mono ?_
   rintro e W'' ⟨v, rfl, hb, hv⟩
   exact hK _ _ ⟨by simpa using hls, next v W'' (h2.trans (hb.mono h2.size)) hv⟩
 ·intro listed a' W hi hr
  obtain ⟨hls, hi⟩ := hi
  have hall : ∀ i, i < l.length → isIn listed i = true := by
   intro i
   induction i using Nat.strongRecOn with
   | _ i ih =>
    intro hin
    cases hli : isIn listed i with
    | true => rfl
    | false =>
     exfalso
     have ho : l[i]? = some l[i] := List.getElem?_eq_getElem hin
     have : i ∈ Region.ready .any l.toArray listed := by
      rw [mem_ready]
      refine ⟨getD_in (by rw [hls]; exact hin) hli, l[i], by simp, fun e he hb => ?_⟩
      have h1 := hB3 i hin
      rw [ho] at h1
      simp only [List.all_eq_true] at h1
      have h2 := h1 e (by simpa using he)
      simp only [hb, Bool.not_true, Bool.false_or, decide_eq_true_eq] at h2
      exact ih e.on h2 (by omega)
     rw [hr] at this
     cases this
  have := VQG.get (tm' := a'.tmps) (l.map (·.dst)) 0 a.tmps (hQ W hi.below) hi.len.symm
   (fun j d hj => by
    rw [List.getElem?_map] at hj
    cases ho : l[j]? with
    | none => rw [ho] at hj; cases hj
    | some o =>
     rw [ho] at hj
     obtain ⟨d', h1, h2, -, h4⟩ := hd j o ho
     simp only [Option.map_some, Option.some.injEq] at hj
     rw [h1] at hj
     cases hj
     refine ⟨by rw [hi.len]; exact h2, ?_⟩
     rw [Nat.zero_add]
     exact hi.vals j d (hall j (List.getElem?_eq_some_iff.1 ho).1) h4)
   (fun t ht => hi.rest t (fun j _ e => ht j (by
    obtain ⟨o, h1, h2⟩ := hdi j t e
    simp [h1, h2])))
  have e : ({ a with tmps := a'.tmps } : Act) = a' := by
   obtain ⟨t1, d1⟩ := a'
   have := hi.defers
   simp only at this
   simp [this]
  rwa [e] at this
 ·refine Nat.le_trans List.countP_le_length ?_
  simp
 ·refine ⟨by simp, rfl, rfl, (Below.refl _ w).drew, fun i d h => ?_, fun t _ => rfl⟩
  unfold isIn at h
  rw [getD_replicate_false] at h
  cases h

end Go.Abs
