/- A region that draws its order, with guards that hold, its operations told one by one: each knows what is done already. -/
import Derived.Test.YtcgmmfcphfkdhaaGreatVG
import Derived.Test.YtcgmmfcphfkdhaaGreatGrVX
namespace Go.Abs
open Go Go.RowKit

variable {P : Program} {md : Region.Mode} {ops : Array Oper} {Q : Exit → Act → World → Prop}

structure VInvH (Val : Nat → Value → World → Prop) (Good : Array Bool → World → Prop) (l : List Oper) (a : Act) (listed : Array Bool) (a' : Act) (W : World) : Prop where
  len : a'.tmps.size = a.tmps.size
  defers : a'.defers = a.defers
  good : Good listed W
  vals : ∀ i d, isIn listed i = true → dstOf l.toArray i = some d → Val i (a'.tmps.getD d undef) W
  rest : ∀ t, (∀ i, isIn listed i = true → dstOf l.toArray i ≠ some t) → a'.tmps[t]? = a.tmps[t]?

theorem wp_region_valsH {id : Nat} {l : List Oper} {a : Act} {w : World} (Val : Nat → Value → World → Prop) (Rel : Nat → World → World → Prop) (Good : Array Bool → World → Prop) (hm : P.follows .mixedOrders = true) (hB : valsGB a.tmps.size l = true)
    (hg0 : Good (Array.replicate l.length false) w.drew)
    (hgood : ∀ (listed : Array Bool) j o W W', listed.size = l.length → l[j]? = some o → isIn listed j = false → (∀ e ∈ o.after.toList, Region.binds .any e = true → isIn listed e.on = true) → Good listed W → Rel j W W' → Good (listed.setIfInBounds j true) W')
    (hst : ∀ (listed : Array Bool) i j v W W', isIn listed i = true → isIn listed j = false → Val i v W → Good listed W → Rel j W W' → Val i v W')
    (hgd : ∀ (i : Nat) (o : Oper) (g : Nat) (b : Bool), l[i]? = some o → o.guard = some (g, b) → ∀ v W, Val g v W → v = .bool b)
    (hstep : ∀ i o, l[i]? = some o → ∀ (listed : Array Bool) (a' : Act) W, isIn listed i = false → (∀ e ∈ o.after.toList, Region.binds .any e = true → isIn listed e.on = true) → Good listed W → (∀ t, (l.map (·.dst)).contains (some t) = false → a'.eval (.tmp t) = a.eval (.tmp t)) →
      (∀ e ∈ o.after.toList, Region.binds .any e = true → ∀ d, dstOf l.toArray e.on = some d → Val e.on (a'.eval (.tmp d)) W) → StepsR P (execOp a'.eval o) W (Rel i) (Val i))
    (hQ : ∀ listed W, (∀ i, i < l.length → isIn listed i = true) → Good listed W → VQG Val W (fun tm => Q .normal { a with tmps := tm } W) 0 (l.map (·.dst)) a.tmps) :
    (Code.region id l.toArray true).wp P Q a w := by
  unfold valsGB at hB
  simp only [Bool.and_eq_true, List.all_eq_true, List.mem_range, Bool.or_eq_true, beq_iff_eq, Bool.not_eq_true'] at hB
  obtain ⟨⟨hB1, hB2⟩, hB3⟩ := hB
  have hd : ∀ i o, l[i]? = some o → ∃ d, o.dst = some d ∧ d < a.tmps.size ∧ (∀ g b, o.guard = some (g, b) → (∃ e ∈ o.after.toList, e.on = g ∧ Region.binds .any e = true) ∧ (dstOf l.toArray g).isSome = true) ∧ dstOf l.toArray i = some d := by
    intro i o ho
    obtain ⟨h1, h2⟩ := hB1 o (List.mem_of_getElem? ho)
    cases hdo : o.dst with
    | none => rw [hdo] at h2; cases h2
    | some d =>
      rw [hdo] at h2
      refine ⟨d, rfl, by simpa using h2, ?_, ?_⟩
      · intro g b hgb
        rw [hgb] at h1
        simp only [Bool.and_eq_true, List.any_eq_true, Nat.beq_eq] at h1
        exact h1
      unfold dstOf
      simp [ho, hdo]
  have hdi : ∀ i d, dstOf l.toArray i = some d → ∃ o, l[i]? = some o ∧ o.dst = some d := by
    intro i d h
    unfold dstOf at h
    cases ho : l[i]? with
    | none => simp [ho] at h
    | some o => exact ⟨o, rfl, by simpa [ho] using h⟩
  have hne : ∀ i j d, dstOf l.toArray i = some d → dstOf l.toArray j = some d → i = j := by
    intro i j d h1 h2
    obtain ⟨o1, g1, -⟩ := hdi i d h1
    obtain ⟨o2, g2, -⟩ := hdi j d h2
    rcases hB2 i (List.getElem?_eq_some_iff.1 g1).1 j (List.getElem?_eq_some_iff.1 g2).1 with e | e
    · exact e
    · rw [h1, h2] at e
      simp at e
  refine wp_region_any hm (wpAny_invG (fun L a' W => L.size = l.length ∧ VInvH Val Good l a L a' W) ?_ ?_ _ _ _ _ (by simp) ?_ ?_)
  · rintro listed a' W i hsz ⟨hls, hi⟩ hr
    obtain ⟨hun, o, ho, hdep⟩ := mem_ready.1 hr
    have ho' : l[i]? = some o := by simpa using ho
    obtain ⟨d, hdo, hds, hgu, hdst⟩ := hd i o ho'
    have hil : i < listed.size := by rw [hsz]; exact (Array.getElem?_eq_some_iff.1 ho).1
    have hfresh : isIn listed i = false := by
      unfold isIn
      rw [Array.getD_eq_getD_getElem?, Array.getElem?_eq_getElem hil] at hun ⊢
      simpa using hun
    have hup : ∀ e ∈ o.after.toList, Region.binds .any e = true → isIn listed e.on = true := fun e he hb => hdep e (by simpa using he) hb
    have next : ∀ v W', Rel i W W' → Val i v W' → VInvH Val Good l a (listed.setIfInBounds i true) (a'.put o.dst v) W' := by
      intro v W' hW' hv
      rw [hdo]
      have hlen : d < a'.tmps.size := by rw [hi.len]; exact hds
      refine ⟨by simp [Act.put, hi.len], hi.defers, hgood listed i o W W' hls ho' hfresh hup hi.good hW', fun j dj hj hdj => ?_, fun t ht => ?_⟩
      · show Val j ((a'.tmps.setIfInBounds d v).getD dj undef) W'
        by_cases hji : j = i
        · subst hji
          rw [hdst] at hdj
          cases hdj
          rw [Array.getD_eq_getD_getElem?, Array.getElem?_setIfInBounds_self_of_lt hlen]
          exact hv
        · have hjl : isIn listed j = true := by
            rw [isIn_set hil] at hj
            simpa [hji] using hj
          have hdd : d ≠ dj := fun e => by subst e; exact hji (hne j i d hdj hdst)
          rw [Array.getD_eq_getD_getElem?, Array.getElem?_setIfInBounds_ne hdd, ← Array.getD_eq_getD_getElem?]
          exact hst listed j i _ _ _ hjl hfresh (hi.vals j dj hjl hdj) hi.good hW'
      · show (a'.tmps.setIfInBounds d v)[t]? = _
        have htd : d ≠ t := fun e => by
          subst e
          exact ht i (by rw [isIn_set hil]; simp) hdst
        rw [Array.getElem?_setIfInBounds_ne htd]
        exact hi.rest t (fun j hj => ht j (by rw [isIn_set hil, hj]; rfl))
    have hS := hstep i o ho' listed a' W hfresh hup hi.good
      (fun t ht => by
        have := hi.rest t (fun j _ e => by
          obtain ⟨o2, g1, g2⟩ := hdi j t e
          have : some t ∈ l.map (·.dst) := List.mem_map.2 ⟨o2, List.mem_of_getElem? g1, g2⟩
          rw [← List.contains_iff_mem, ht] at this
          cases this)
        show a'.tmps.getD t undef = a.tmps.getD t undef
        simp only [Array.getD_eq_getD_getElem?, this])
      (fun e he hb de hde => hi.vals e.on de (hdep e (by simpa using he) hb) hde)
    refine wpOp_step (o := o) ho (fun K hK => ?_)
    rw [if_pos (show Region.wanted o _ = true by
      unfold Region.wanted
      cases hgo : o.guard with
      | none => rfl
      | some gb =>
        obtain ⟨g, b⟩ := gb
        obtain ⟨⟨e, he, heg, hb⟩, hsm⟩ := hgu g b hgo
        obtain ⟨de, hde⟩ := Option.isSome_iff_exists.1 hsm
        subst heg
        have hv := hi.vals e.on de (hdep e (by simpa using he) hb) hde
        have hvb := hgd i o e.on b ho' hgo _ _ hv
        obtain ⟨oe, hoe, hoed⟩ := hdi e.on de hde
        have hlt : de < a'.tmps.size := by
          obtain ⟨d2, k1, k2, -, -⟩ := hd e.on oe hoe
          rw [hoed] at k1
          cases k1
          rw [hi.len]
          exact k2
        have e1 : a'.tmps[de]? = some (.bool b) := by
          rw [Array.getD_eq_getD_getElem?, Array.getElem?_eq_getElem hlt] at hvb
          rw [Array.getElem?_eq_getElem hlt]
          exact congrArg some hvb
        have e2 : (l.toArray[e.on]?).bind (·.dst) = some de := hde
        simp only [yielded, e2, Option.bind_some, e1, beq_self_eq_true])]
    unfold Oper.wp
    rcases hS with ⟨v, W', h1, h2, h3⟩ | ⟨f, args, h1, h3⟩
    · rw [h1]
      exact hK _ _ ⟨by simpa using hls, next v W' h2 h3⟩
    · rw [h1]
      refine h3.mono ?_
      rintro e W'' ⟨v, rfl, hb, hv⟩
      exact hK _ _ ⟨by simpa using hls, next v W'' hb hv⟩
  · intro listed a' W hi hr
    obtain ⟨hls, hi⟩ := hi
    have hall : ∀ i, i < l.length → isIn listed i = true := by
      intro i
      induction i using Nat.strongRecOn with
      | _ i ih =>
        intro hin
        cases hli : isIn listed i with
        | true => rfl
        | false =>
          exfalso
          have ho : l[i]? = some l[i] := List.getElem?_eq_getElem hin
          have : i ∈ Region.ready .any l.toArray listed := by
            rw [mem_ready]
            refine ⟨getD_in (by rw [hls]; exact hin) hli, l[i], by simp, fun e he hb => ?_⟩
            have h1 := hB3 i hin
            rw [ho] at h1
            simp only [List.all_eq_true] at h1
            have h2 := h1 e (by simpa using he)
            simp only [hb, Bool.not_true, Bool.false_or, decide_eq_true_eq] at h2
            exact ih e.on h2 (by omega)
          rw [hr] at this
          cases this
    have := VQG.get (tm' := a'.tmps) (l.map (·.dst)) 0 a.tmps (hQ listed W hall hi.good) hi.len.symm
      (fun j d hj => by
        rw [List.getElem?_map] at hj
        cases ho : l[j]? with
        | none => rw [ho] at hj; cases hj
        | some o =>
          rw [ho] at hj
          obtain ⟨d', h1, h2, -, h4⟩ := hd j o ho
          simp only [Option.map_some, Option.some.injEq] at hj
          rw [h1] at hj
          cases hj
          refine ⟨by rw [hi.len]; exact h2, ?_⟩
          rw [Nat.zero_add]
          exact hi.vals j d (hall j (List.getElem?_eq_some_iff.1 ho).1) h4)
      (fun t ht => hi.rest t (fun j _ e => ht j (by
        obtain ⟨o, h1, h2⟩ := hdi j t e
        simp [h1, h2])))
    have e : ({ a with tmps := a'.tmps } : Act) = a' := by
      obtain ⟨t1, d1⟩ := a'
      have := hi.defers
      simp only at this
      simp [this]
    rwa [e] at this
  · refine Nat.le_trans List.countP_le_length ?_
    simp
  · refine ⟨by simp, rfl, rfl, (by rw [List.size_toArray]; exact hg0), fun i d h => ?_, fun t _ => rfl⟩
    unfold isIn at h
    rw [getD_replicate_false] at h
    cases h

end Go.Abs
