/- A region that draws its order, told operation by operation to its end: an operation may store, and what one yields may speak of what is listed. -/
import Derived.Test.YtcfapbccegijnaaGreatRD
namespace Go.Abs
open Go Go.RowKit

variable {P : Program} {Q : Exit → Act → World → Prop}

/-- What an operation has yielded: the value in its slot. -/
def vAt (a : Act) (o : Oper) : Value := match o.dst with
  | some d => a.tmps.getD d undef
  | none => undef

/-- An operation ends with a value, calls what returns one, or writes. -/
def StepsZ (P : Program) (o : Oper) (c : Sem Next) (W : World) (Rel : World → World → Prop) (R : Value → World → Prop) : Prop :=
  (o.dst.isSome = true ∧ ∃ v W', c.run P W = .ok (.value v) W' ∧ Rel W W' ∧ R v W') ∨
  (o.dst.isSome = true ∧ ∃ f args, c.run P W = .ok (.enter f args) W ∧ Calls P f args W fun e W'' => ∃ v, e = .returned v ∧ Rel W W'' ∧ R v W'') ∨
  (o.dst = none ∧ ∃ W', c.run P W = .ok .skip W' ∧ Rel W W' ∧ R undef W')

/-- No guard; each slot is written once; what an operation waits for stands ahead of it. -/
def valsZB (size : Nat) (l : List Oper) : Bool :=
  (l.all fun o => o.guard.isNone && (match o.dst with | none => true | some d => decide (d < size))) &&
  ((List.range l.length).all fun i => (List.range l.length).all fun j => i == j || (dstOf l.toArray i).isNone || !(dstOf l.toArray i == dstOf l.toArray j)) &&
  ((List.range l.length).all fun i => match l[i]? with
    | none => true
    | some o => o.after.toList.all fun e => !Region.binds .any e || decide (e.on < i))

structure VInvZ (Val : Array Bool → Nat → Value → World → Prop) (Good : Array Bool → World → Prop) (l : List Oper) (a : Act) (listed : Array Bool) (a' : Act) (W : World) : Prop where
  len : a'.tmps.size = a.tmps.size
  defers : a'.defers = a.defers
  good : Good listed W
  vals : ∀ i o, isIn listed i = true → l[i]? = some o → Val listed i (vAt a' o) W
  rest : ∀ t, (∀ i, isIn listed i = true → dstOf l.toArray i ≠ some t) → a'.tmps[t]? = a.tmps[t]?

theorem wp_region_invZ {ops : Array Oper} {id : Nat} {a : Act} {w : World} (Inv : Array Bool → Act → World → Prop) (hm : P.follows .mixedOrders = true)
    (h0 : Inv (Array.replicate ops.size false) a { w with drawn := w.drawn + 1 })
    (hstep : ∀ listed a w i, listed.size = ops.size → Inv listed a w → i ∈ Region.ready .any ops listed → wpOp P ops Q i (Inv (listed.setIfInBounds i true)) a w)
    (hdone : ∀ listed a w, Inv listed a w → Region.ready .any ops listed = [] → Q .normal a w) : (Code.region id ops true).wp P Q a w := by
  refine wp_region_any hm (wpAny_invV Inv hstep hdone _ _ _ _ (by simp) ?_ h0)
  refine Nat.le_trans List.countP_le_length ?_
  simp

theorem wp_region_valsZ {id : Nat} {l : List Oper} {a : Act} {w : World} (Val : Array Bool → Nat → Value → World → Prop) (Rel : Nat → Act → World → World → Prop) (Good : Array Bool → World → Prop) (hm : P.follows .mixedOrders = true) (hB : valsZB a.tmps.size l = true)
    (hg0 : Good (Array.replicate l.length false) w.drew)
    (hgood : ∀ (listed : Array Bool) (a' : Act) j W W', listed.size = l.length → j < l.length → isIn listed j = false → Good listed W → Rel j a' W W' → Good (listed.setIfInBounds j true) W')
    (hst : ∀ (listed : Array Bool) (a' : Act) i j oi W W', l[i]? = some oi → j < l.length → listed.size = l.length → i ≠ j → anc l.toArray i j = false → isIn listed i = true → isIn listed j = false → Val listed i (vAt a' oi) W → Good listed W → Rel j a' W W' → Val (listed.setIfInBounds j true) i (vAt a' oi) W')
    (hstep : ∀ i o, l[i]? = some o → ∀ (listed : Array Bool) (a' : Act) W, listed.size = l.length → isIn listed i = false → (∀ j, anc l.toArray j i = true → isIn listed j = false) → Good listed W → (∀ t, (l.map (·.dst)).contains (some t) = false → a'.eval (.tmp t) = a.eval (.tmp t)) →
      (∀ e ∈ o.after.toList, Region.binds .any e = true → ∀ oe, l[e.on]? = some oe → Val listed e.on (vAt a' oe) W) → StepsZ P o (execOp a'.eval o) W (Rel i a') (Val (listed.setIfInBounds i true) i))
    (hQ : ∀ listed a' W, (∀ i, i < l.length → isIn listed i = true) → listed.size = l.length → Good listed W → a'.defers = a.defers → a'.tmps.size = a.tmps.size → (∀ i o, l[i]? = some o → Val listed i (vAt a' o) W) → (∀ t, (∀ i, i < l.length → dstOf l.toArray i ≠ some t) → a'.tmps[t]? = a.tmps[t]?) → Q .normal a' W) :
    (Code.region id l.toArray true).wp P Q a w := by
  unfold valsZB at hB
  simp only [Bool.and_eq_true] at hB
  obtain ⟨⟨hB1, hB2⟩, hback⟩ := hB
  simp only [List.all_eq_true, List.mem_range, Bool.or_eq_true, Bool.and_eq_true, beq_iff_eq, Bool.not_eq_true', Option.isNone_iff_eq_none] at hB1 hB2 hback
  have hd : ∀ (i : Nat) (o : Oper) (d : Nat), l[i]? = some o → o.dst = some d → d < a.tmps.size := by
    intro i o d ho hdo
    obtain ⟨-, h2⟩ := hB1 o (List.mem_of_getElem? ho)
    rw [hdo] at h2
    simpa using h2
  have hgu : ∀ (i : Nat) (o : Oper), l[i]? = some o → o.guard = none := fun i o ho => (hB1 o (List.mem_of_getElem? ho)).1
  have hdst : ∀ (i : Nat) (o : Oper), l[i]? = some o → dstOf l.toArray i = o.dst := by
    intro i o ho
    unfold dstOf
    rw [List.getElem?_toArray, ho]
    rfl
  have hdi : ∀ i d, dstOf l.toArray i = some d → ∃ o, l[i]? = some o ∧ o.dst = some d := by
    intro i d h
    unfold dstOf at h
    rw [List.getElem?_toArray] at h
    cases ho : l[i]? with
    | none => rw [ho] at h; cases h
    | some o => rw [ho] at h; exact ⟨o, rfl, h⟩
  have hne : ∀ i j d, dstOf l.toArray i = some d → dstOf l.toArray j = some d → i = j := by
    intro i j d h1 h2
    obtain ⟨o1, g1, -⟩ := hdi i d h1
    obtain ⟨o2, g2, -⟩ := hdi j d h2
    rcases hB2 i (List.getElem?_eq_some_iff.1 g1).1 j (List.getElem?_eq_some_iff.1 g2).1 with (e | e) | e
    · exact e
    · rw [h1] at e; cases e
    · rw [h1, h2] at e
      simp at e
  refine wp_region_invZ (fun listed a' W => listed.size = l.length ∧ Closed l.toArray listed ∧ VInvZ Val Good l a listed a' W) hm ?_ ?_ ?_
  · have hno : ∀ i, isIn (Array.replicate l.toArray.size false) i = false := fun i => getD_replicate_false _ _
    exact ⟨by simp, fun j oj _ hl => (by rw [getD_replicate_false] at hl; cases hl), rfl, rfl, by simpa using hg0, fun i o h => (by rw [hno] at h; cases h), fun t _ => rfl⟩
  · intro listed a' W i hls0 hinv hir
    obtain ⟨hls, hcl, hi⟩ := hinv
    obtain ⟨hun, o, ho, hdep⟩ := mem_ready.1 hir
    have ho' : l[i]? = some o := by rw [← ho]; simp
    have hin := (List.getElem?_eq_some_iff.1 ho').1
    have hil : i < listed.size := by omega
    have hli : isIn listed i = false := getD_both hun
    have up : ∀ j, anc l.toArray i j = true → isIn listed j = true := fun j hj => anc_listed hcl i j hj (fun o2 ho2 e he hb => by
      rw [ho] at ho2; cases ho2; exact hdep e he hb)
    have hnew : isIn (listed.setIfInBounds i true) i = true := by rw [isIn_set hil]; simp
    have hother : ∀ j, j ≠ i → isIn (listed.setIfInBounds i true) j = isIn listed j := fun j hj => by
      rw [isIn_set hil]
      have : (j == i) = false := by simpa using hj
      rw [this, Bool.or_false]
    have hcl2 : Closed l.toArray (listed.setIfInBounds i true) := by
      intro j oj hoj hlj e he hb
      change isIn _ _ = true at hlj
      change isIn _ _ = true
      by_cases hji : j = i
      · subst hji
        rw [ho] at hoj; cases hoj
        have := hdep e he hb
        by_cases hee : e.on = j
        · rw [hee]; exact hnew
        · rw [hother _ hee]; exact this
      · rw [hother j hji] at hlj
        have := hcl j oj hoj hlj e he hb
        by_cases hee : e.on = i
        · rw [hee]; exact hnew
        · rw [hother _ hee]; exact this
    have hvat : ∀ (j : Nat) (oj : Oper) (v : Value), j ≠ i → l[j]? = some oj → (o.dst.isSome = true ∨ o.dst = none) → vAt (a'.put o.dst v) oj = vAt a' oj := by
      intro j oj v hji hoj _
      unfold vAt Act.put
      cases hdj : oj.dst with
      | none => rfl
      | some d =>
        cases hdo : o.dst with
        | none => rfl
        | some d0 =>
          have hdd : d0 ≠ d := fun e => by
            subst e
            exact hji (hne j i d0 (by rw [hdst j oj hoj]; exact hdj) (by rw [hdst i o ho']; exact hdo))
          show (a'.tmps.setIfInBounds d0 v).getD d undef = _
          rw [Array.getD_eq_getD_getElem?, Array.getElem?_setIfInBounds_ne hdd, ← Array.getD_eq_getD_getElem?]
    have next : ∀ v W', (o.dst.isSome = true ∨ (o.dst = none ∧ v = undef)) → Rel i a' W W' → Val (listed.setIfInBounds i true) i v W' → (listed.setIfInBounds i true).size = l.length ∧ Closed l.toArray (listed.setIfInBounds i true) ∧ VInvZ Val Good l a (listed.setIfInBounds i true) (a'.put o.dst v) W' := by
      intro v W' hdv hW' hv
      refine ⟨by simpa using hls, hcl2, ?_, ?_, hgood listed a' i W W' hls hin hli hi.good hW', fun j oj hj hoj => ?_, fun t ht => ?_⟩
      · cases o.dst <;> simp [Act.put, hi.len]
      · cases o.dst <;> simp [Act.put, hi.defers]
      · by_cases hji : j = i
        · subst hji
          rw [ho'] at hoj
          cases hoj
          have e : vAt (a'.put o.dst v) o = v := by
            unfold vAt Act.put
            rcases hdv with h | ⟨h, rfl⟩
            · cases hdo : o.dst with
              | none => rw [hdo] at h; cases h
              | some d =>
                show (a'.tmps.setIfInBounds d v).getD d undef = v
                rw [Array.getD_eq_getD_getElem?, Array.getElem?_setIfInBounds_self_of_lt (by rw [hi.len]; exact hd _ _ _ ho' hdo)]
                rfl
            · rw [h]
          rw [e]
          exact hv
        · rw [hvat j oj v hji hoj (by rcases hdv with h | ⟨h, -⟩ <;> simp [h])]
          rw [hother j hji] at hj
          refine hst listed a' j i oj W W' hoj hin hls hji ?_ hj hli (hi.vals j oj hj hoj) hi.good hW'
          cases hanc : anc l.toArray j i with
          | false => rfl
          | true =>
            exfalso
            have := anc_listed hcl j i hanc (fun o2 ho2 e he hb => hcl j o2 ho2 hj e he hb)
            change isIn listed i = true at this
            rw [hli] at this
            cases this
      · have h1 : a'.tmps[t]? = a.tmps[t]? := hi.rest t (fun j hj => ht j (by
          by_cases hji : j = i
          · subst hji; exact hnew
          · rw [hother j hji]; exact hj))
        cases hdo : o.dst with
        | none => exact h1
        | some d =>
          show (a'.tmps.setIfInBounds d v)[t]? = _
          have htd : d ≠ t := fun e => by
            subst e
            exact ht i hnew (by rw [hdst i o ho']; exact hdo)
          rw [Array.getElem?_setIfInBounds_ne htd]
          exact h1
    have hS := hstep i o ho' listed a' W hls hli
      (fun j hj => by
        cases hlj : isIn listed j with
        | false => rfl
        | true =>
          exfalso
          have := anc_listed hcl j i hj (fun o2 ho2 e he hb => hcl j o2 ho2 hlj e he hb)
          change isIn listed i = true at this
          rw [hli] at this
          cases this) hi.good
      (fun t ht => by
        have := hi.rest t (fun j _ e => by
          obtain ⟨o2, g1, g2⟩ := hdi j t e
          have : some t ∈ l.map (·.dst) := List.mem_map.2 ⟨o2, List.mem_of_getElem? g1, g2⟩
          rw [← List.contains_iff_mem, ht] at this
          cases this)
        show a'.tmps.getD t undef = a.tmps.getD t undef
        simp only [Array.getD_eq_getD_getElem?, this])
      (fun e he hb oe hoe => hi.vals e.on oe (hdep e (by simpa using he) hb) hoe)
    refine wpOp_step (o := o) ho (fun K hK => ?_)
    rw [if_pos (show Region.wanted o _ = true by unfold Region.wanted; rw [hgu i o ho'])]
    unfold Oper.wp
    rcases hS with ⟨hs, v, W', h1, h2, h3⟩ | ⟨hs, f, args, h1, h3⟩ | ⟨hs, W', h1, h2, h3⟩
    · rw [h1]
      exact hK _ _ (next v W' (.inl hs) h2 h3)
    · rw [h1]
      refine h3.mono ?_
      rintro e W'' ⟨v, rfl, hb, hv⟩
      exact hK _ _ (next v W'' (.inl hs) hb hv)
    · rw [h1]
      exact hK _ _ (next undef W' (.inr ⟨hs, rfl⟩) h2 h3)
  · intro listed a' W hinv hnil
    obtain ⟨hls, hcl, hi⟩ := hinv
    have hall : ∀ i, i < l.length → isIn listed i = true := by
      intro i
      induction i using Nat.strongRecOn with
      | _ i ih2 =>
        intro him
        cases hli : isIn listed i with
        | true => rfl
        | false =>
          exfalso
          have ho : l[i]? = some l[i] := List.getElem?_eq_getElem him
          have : i ∈ Region.ready .any l.toArray listed := by
            rw [mem_ready]
            refine ⟨getD_in (by omega) hli, l[i], by rw [List.getElem?_toArray]; exact ho, fun e he hb => ?_⟩
            have h1 := hback i him
            rw [ho] at h1
            simp only [List.all_eq_true] at h1
            have h2 := h1 e (by simpa using he)
            simp only [hb, Bool.not_true, Bool.false_or, decide_eq_true_eq] at h2
            exact ih2 e.on h2 (by omega)
          rw [hnil] at this
          cases this
    exact hQ listed a' W hall hls hi.good hi.defers hi.len (fun i o ho => hi.vals i o (hall i (List.getElem?_eq_some_iff.1 ho).1) ho) (fun t ht => hi.rest t (fun i hi2 e => by
      obtain ⟨o, g1, -⟩ := hdi i t e
      exact ht i (List.getElem?_eq_some_iff.1 g1).1 e))

theorem wp_region_valsZQ {id : Nat} {l : List Oper} {a : Act} {w : World} (Val : Array Bool → Nat → Value → World → Prop) (Rel : Nat → Act → World → World → Prop) (Good : Array Bool → World → Prop) (hm : P.follows .mixedOrders = true) (hB : valsZB a.tmps.size l = true)
    (hg0 : Good (Array.replicate l.length false) w.drew)
    (hgood : ∀ (listed : Array Bool) (a' : Act) j W W', listed.size = l.length → j < l.length → isIn listed j = false → Good listed W → Rel j a' W W' → Good (listed.setIfInBounds j true) W')
    (hst : ∀ (listed : Array Bool) (a' : Act) i j oi W W', l[i]? = some oi → j < l.length → listed.size = l.length → i ≠ j → anc l.toArray i j = false → isIn listed i = true → isIn listed j = false → Val listed i (vAt a' oi) W → Good listed W → Rel j a' W W' → Val (listed.setIfInBounds j true) i (vAt a' oi) W')
    (hstep : ∀ i o, l[i]? = some o → ∀ (listed : Array Bool) (a' : Act) W, listed.size = l.length → isIn listed i = false → (∀ j, anc l.toArray j i = true → isIn listed j = false) → Good listed W → (∀ t, (l.map (·.dst)).contains (some t) = false → a'.eval (.tmp t) = a.eval (.tmp t)) →
      (∀ e ∈ o.after.toList, Region.binds .any e = true → ∀ oe, l[e.on]? = some oe → Val listed e.on (vAt a' oe) W) → StepsZ P o (execOp a'.eval o) W (Rel i a') (Val (listed.setIfInBounds i true) i))
    (hQ : ∀ listed W, (∀ i, i < l.length → isIn listed i = true) → Good listed W → VQ (Val listed) W (fun tm => Q .normal { a with tmps := tm } W) 0 (l.map (·.dst)) a.tmps) :
    (Code.region id l.toArray true).wp P Q a w := by
  refine wp_region_valsZ Val Rel Good hm hB hg0 hgood hst hstep (fun listed a' W hall hls hg hdef hlen hv hr => ?_)
  unfold valsZB at hB
  simp only [Bool.and_eq_true] at hB
  obtain ⟨⟨hB1, -⟩, -⟩ := hB
  simp only [List.all_eq_true, Bool.and_eq_true] at hB1
  have := VQ.get (tm' := a'.tmps) (l.map (·.dst)) 0 a.tmps (hQ listed W hall hg) hlen.symm
    (fun j d hj => by
      rw [List.getElem?_map] at hj
      cases ho : l[j]? with
      | none => rw [ho] at hj; cases hj
      | some o =>
        rw [ho] at hj
        simp only [Option.map_some, Option.some.injEq] at hj
        obtain ⟨-, h2⟩ := hB1 o (List.mem_of_getElem? ho)
        rw [hj] at h2
        have h3 := hv j o ho
        unfold vAt at h3
        rw [hj] at h3
        rw [Nat.zero_add]
        exact ⟨by rw [hlen]; simpa using h2, h3⟩)
    (fun t ht => hr t (fun i hi e => by
      unfold dstOf at e
      rw [List.getElem?_toArray] at e
      cases ho : l[i]? with
      | none => rw [ho] at e; cases e
      | some o =>
        rw [ho] at e
        refine ht i ?_
        rw [List.getElem?_map, ho]
        exact congrArg some e))
  have e : ({ a with tmps := a'.tmps } : Act) = a' := by
    obtain ⟨t1, d1⟩ := a'
    simp only at hdef
    simp [hdef]
  rw [e] at this
  exact this

end Go.Abs
