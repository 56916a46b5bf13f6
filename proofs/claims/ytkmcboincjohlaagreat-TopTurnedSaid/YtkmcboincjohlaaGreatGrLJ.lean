/- The abstract machine, part GrLJ. -/
import Derived.Test.YtkmcboincjohlaaGreatGrLI
import Derived.Test.YtkmcboincjohlaaGreatGrLC
/- A region that draws its order, in a fence or in a round, whose lead has one operation on which the end need not wait. -/
namespace Go.Abs
open Go Go.RowKit

def growB2 (ops : Array Oper) (m f : Nat) : Bool :=
  let A := ancs ops.toList []
  decide (m ≤ ops.size) &&
  ((List.range ops.size).all fun i => match ops[i]? with
    | none => true
    | some o => o.after.toList.all fun e => !Region.binds .any e || decide (e.on < i)) &&
  ((List.range m).all fun i => match ops[i]? with
    | none => true
    | some o => o.guard.isNone && growOp o && o.dst.isSome && ((List.range m).all fun j => match dstOf ops j with
        | none => true
        | some t => (i == j || !(o.dst == some t)) && (!(reads ops o).contains t || ancA A i j))) &&
  ((List.range ops.size).all fun k => decide (k < m) || ((List.range m).all fun j => decide (j = f) || ancA A k j))

variable {F : Fence} {n m : Nat} {P : Program} {ops : Array Oper} {Q : Exit → Act → World → Prop} {a a1 : Act} {w : World}

theorem grow_sound2 {f : Nat} {a2 : Act} (hfn : ∀ f, F.fn f) (hn : 1 ≤ n) (hB : growB2 ops m f = true) (hsz : a1.tmps.size = a.tmps.size) (hdf : a1.defers = a.defers)
    (hkeep : ∀ t, (∀ j, j < m → dstOf ops j ≠ some t) → a1.tmps[t]? = a.tmps[t]?)
    (hy : ∀ i o d, i < m → ops[i]? = some o → o.dst = some d → d < a1.tmps.size ∧ ∀ W, Below w.heap.size w W → GrowsAt F n P a1 W o d)
    (hQ : ∀ listed : Array Bool, listed.size = ops.size → (∀ i, i < m → isIn listed i = true) → (∀ i, m ≤ i → isIn listed i = false) → ∀ W, Below w.heap.size w W → wpAnyIn F n P .any ops Q (ops.size - m) listed a1 W)
    (hsz2 : a2.tmps.size = a.tmps.size) (hdf2 : a2.defers = a.defers) (hkeep2 : ∀ t, (∀ j, j < m → j ≠ f → dstOf ops j ≠ some t) → a2.tmps[t]? = a.tmps[t]?) (hsame2 : ∀ t j, j < m → j ≠ f → dstOf ops j = some t → a2.tmps[t]? = a1.tmps[t]?)
    (hE : ∀ listed : Array Bool, listed.size = ops.size → (∀ i, i < m → i ≠ f → isIn listed i = true) → isIn listed f = false → (∀ i, m ≤ i → isIn listed i = false) → ∀ W, Below w.heap.size w W → wpAnyIn F n P .any ops Q (ops.size - m + 1) listed a2 W)
    (hf : f < m) :
    ∀ (k : Nat) (listed : Array Bool) (a' : Act) (W : World), Below w.heap.size w W → Lead ops m a a1 a' listed → left m listed = k → wpAnyIn F n P .any ops Q (ops.size - m + k) listed a' W := by
  unfold growB2 at hB
  simp only [Bool.and_eq_true, List.all_eq_true, List.mem_range, decide_eq_true_eq, Bool.or_eq_true] at hB
  obtain ⟨⟨⟨hm, hback⟩, hpre⟩, htail⟩ := hB
  intro k
  induction k with
  | zero =>
    intro listed a' W hW hi hl
    have hall := left_zero hl
    have : a' = a1 := by
      have ht : a'.tmps = a1.tmps := by
        apply Array.ext_getElem?
        intro t
        by_cases h : ∃ j, j < m ∧ dstOf ops j = some t
        · obtain ⟨j, h1, h2⟩ := h
          exact hi.done t j h1 (hall j h1) h2
        · rw [hkeep t (fun j hj e => h ⟨j, hj, e⟩), hi.rest t (fun j hj _ e => h ⟨j, hj, e⟩)]
      obtain ⟨t1, d1⟩ := a'
      obtain ⟨t2, d2⟩ := a1
      simp only at ht
      have hd : d1 = d2 := hi.defers.trans hdf.symm
      rw [ht, hd]
    subst this
    exact hQ listed hi.size hall hi.tail W hW
  | succ k ih =>
    intro listed a' W hW hi hl
    have hsz' := hi.size
    by_cases hEc : (∀ j, j < m → j ≠ f → isIn listed j = true) ∧ isIn listed f = false
    · obtain ⟨e1, e2⟩ := hEc
      have hleft : left m listed = 1 := by
        have h2 : left m (listed.setIfInBounds f true) + 1 = left m listed := by
          unfold left
          refine (filter_insert (i := f) m hf (by simp [e2]) ?_ fun j hj => ?_).symm
          · have : isIn (listed.setIfInBounds f true) f = true := by rw [isIn_set (by omega)]; simp
            simp [this]
          · rw [isIn_set (by omega)]
            have : (j == f) = false := by simpa using hj
            rw [this, Bool.or_false]
        have h3 : left m (listed.setIfInBounds f true) = 0 := by
          unfold left
          rw [List.length_eq_zero_iff, List.filter_eq_nil_iff]
          intro j hj
          have : isIn (listed.setIfInBounds f true) j = true := by
            rw [isIn_set (by omega)]
            by_cases hjf : j = f
            · subst hjf; simp
            · rw [e1 j (List.mem_range.1 hj) hjf]; rfl
          simp [this]
        omega
      have hk0 : k = 0 := by omega
      subst hk0
      have : a' = a2 := by
        have ht : a'.tmps = a2.tmps := by
          apply Array.ext_getElem?
          intro t
          by_cases h : ∃ j, j < m ∧ j ≠ f ∧ dstOf ops j = some t
          · obtain ⟨j, h1, h2, h3⟩ := h
            rw [hi.done t j h1 (e1 j h1 h2) h3, hsame2 t j h1 h2 h3]
          · rw [hkeep2 t (fun j hj hjf e => h ⟨j, hj, hjf, e⟩), hi.rest t (fun j hj hlj e => h ⟨j, hj, (fun e' => by subst e'; rw [e2] at hlj; cases hlj), e⟩)]
        obtain ⟨t1, d1⟩ := a'
        obtain ⟨t2, d2⟩ := a2
        simp only at ht
        have hd : d1 = d2 := hi.defers.trans hdf2.symm
        rw [ht, hd]
      subst this
      exact hE listed hi.size e1 e2 hi.tail W hW
    refine ⟨fun hnil => ?_, fun i hir => ?_⟩
    · exfalso
      have hall : ∀ i, i < m → isIn listed i = true := by
        intro i
        induction i using Nat.strongRecOn with
        | _ i ih2 =>
          intro him
          cases hli : isIn listed i with
          | true => rfl
          | false =>
            exfalso
            have hin : i < ops.size := by omega
            obtain ⟨o, ho⟩ : ∃ o, ops[i]? = some o := ⟨ops[i], by simp [hin]⟩
            have : i ∈ Region.ready .any ops listed := by
              rw [mem_ready]
              refine ⟨getD_in (by omega) hli, o, ho, fun e he hb => ?_⟩
              have h1 := hback i hin
              rw [ho] at h1
              simp only [List.all_eq_true] at h1
              have h2 := h1 e (by simpa using he)
              simp only [hb, Bool.not_true, Bool.false_or, decide_eq_true_eq] at h2
              exact ih2 e.on h2 (by omega)
            rw [hnil] at this
            cases this
      have : left m listed = 0 := by
        unfold left
        rw [List.length_eq_zero_iff, List.filter_eq_nil_iff]
        intro i hi2
        simp [hall i (List.mem_range.1 hi2)]
      omega
    · obtain ⟨hun, o, ho, hdeps⟩ := mem_ready.1 hir
      have hin := (Array.getElem?_eq_some_iff.1 ho).1
      have hli : isIn listed i = false := getD_both hun
      have up : ∀ j, anc ops i j = true → isIn listed j = true := fun j hj => anc_listed hi.closed i j hj (fun o' ho' e he hb => by
        rw [ho] at ho'; cases ho'; exact hdeps e he hb)
      have him : i < m := by
        rcases Nat.lt_or_ge i m with h | h
        · exact h
        · exfalso
          have hall1 : ∀ j, j < m → j ≠ f → isIn listed j = true := by
            intro j hj hjf
            rcases htail i hin with h1 | h1
            · omega
            · rcases h1 j hj with h2 | h2
              · exact absurd h2 hjf
              · exact up j h2
          have hallf : isIn listed f = true := by
            cases h : isIn listed f with
            | true => rfl
            | false => exact absurd ⟨hall1, h⟩ hEc
          have hall : ∀ j, j < m → isIn listed j = true := by
            intro j hj
            by_cases hjf : j = f
            · subst hjf; exact hallf
            · exact hall1 j hj hjf
          have : left m listed = 0 := by
            unfold left
            rw [List.length_eq_zero_iff, List.filter_eq_nil_iff]
            intro j hj
            simp [hall j (List.mem_range.1 hj)]
          omega
      have hp := hpre i him
      rw [ho] at hp
      simp only [Bool.and_eq_true, List.all_eq_true, List.mem_range, Option.isNone_iff_eq_none] at hp
      obtain ⟨⟨⟨hg, hpl⟩, hds⟩, hj⟩ := hp
      obtain ⟨d, hd⟩ := Option.isSome_iff_exists.1 hds
      have hdi : dstOf ops i = some d := by unfold dstOf; rw [ho]; exact hd
      have agree : ∀ t, t ∈ reads ops o → a'.tmps[t]? = a1.tmps[t]? := by
        intro t ht
        by_cases h : ∃ j, j < m ∧ dstOf ops j = some t
        · obtain ⟨j, h1, h2⟩ := h
          have h3 := hj j h1
          rw [h2] at h3
          simp only [Bool.and_eq_true, Bool.or_eq_true, Bool.not_eq_true', List.contains_eq_mem, decide_eq_false_iff_not] at h3
          rcases h3.2 with h4 | h4
          · exact absurd ht h4
          · exact hi.done t j h1 (up j h4) h2
        · rw [hkeep t (fun j hj e => h ⟨j, hj, e⟩), hi.rest t (fun j hj _ e => h ⟨j, hj, e⟩)]
      have hev : ∀ x ∈ o.op.operands, a'.eval x = a1.eval x := by
        intro x hx
        cases x with
        | tmp t =>
          have := agree t (by unfold reads; exact List.mem_append_left _ (List.mem_filterMap.2 ⟨.tmp t, by simpa using hx, rfl⟩))
          show a'.tmps.getD t undef = a1.tmps.getD t undef
          simp only [Array.getD_eq_getD_getElem?, this]
        | _ => rfl
      have hex : execOp a'.eval o = execOp a1.eval o := execOp_congr o (fun cs b he => by unfold growOp at hpl; rw [he] at hpl; cases hpl) hev
      have hsem : o.semAt F.round a'.eval = execOp a1.eval o := (Oper.semAt_plain F _ o (fun c he => by unfold growOp at hpl; rw [he] at hpl; cases hpl)).trans hex
      obtain ⟨hdl, hrun⟩ := hy i o d him ho hd
      have hw : Region.wanted o (yielded ops a'.tmps) = true := by unfold Region.wanted; rw [hg]
      have hnew : isIn (listed.setIfInBounds i true) i = true := by rw [isIn_set (by omega)]; simp
      have hother : ∀ j, j ≠ i → isIn (listed.setIfInBounds i true) j = isIn listed j := fun j hj => by
        rw [isIn_set (by omega)]
        have : (j == i) = false := by simpa using hj
        rw [this, Bool.or_false]
      have hd2 : d < a'.tmps.size := by rw [hi.len, ← hsz]; exact hdl
      have next : ∀ W', Below w.heap.size w W' → wpAnyIn F n P .any ops Q (ops.size - m + k) (listed.setIfInBounds i true) (a'.put o.dst (a1.eval (.tmp d))) W' := by
        intro W' hW'
        refine ih _ _ _ hW' ⟨by simpa using hsz', ?_, ?_, ?_, ?_, ?_, ?_⟩ ?_
        · intro j oj hoj hlj e he hb
          change isIn _ _ = true at hlj
          change isIn _ _ = true
          by_cases hji : j = i
          · subst hji
            rw [ho] at hoj; cases hoj
            have := hdeps e he hb
            by_cases hee : e.on = j
            · rw [hee]; exact hnew
            · rw [hother _ hee]; exact this
          · rw [hother j hji] at hlj
            have := hi.closed j oj hoj hlj e he hb
            by_cases hee : e.on = i
            · rw [hee]; exact hnew
            · rw [hother _ hee]; exact this
        · intro j hj
          rw [hother j (by omega)]
          exact hi.tail j hj
        · rw [hd]; exact hi.defers
        · rw [hd]; simp [Act.put, hi.len]
        · intro t j hjm hlj hdj
          rw [hd]
          show (a'.tmps.setIfInBounds d _)[t]? = _
          by_cases htd : t = d
          · subst htd
            rw [Array.getElem?_setIfInBounds_self_of_lt hd2]
            show some (a1.tmps.getD t undef) = _
            rw [Array.getD_eq_getD_getElem?, Array.getElem?_eq_getElem hdl]
            rfl
          · rw [Array.getElem?_setIfInBounds_ne (Ne.symm htd)]
            have hji : j ≠ i := fun e => by subst e; rw [hdi] at hdj; cases hdj; exact htd rfl
            rw [hother j hji] at hlj
            exact hi.done t j hjm hlj hdj
        · intro t hno
          rw [hd]
          show (a'.tmps.setIfInBounds d _)[t]? = _
          have htd : t ≠ d := fun e => hno i him hnew (by rw [hdi, e])
          rw [Array.getElem?_setIfInBounds_ne (Ne.symm htd)]
          exact hi.rest t fun j hjm hlj => by
            by_cases hji : j = i
            · subst hji; rw [hli] at hlj; cases hlj
            · exact hno j hjm (by rw [hother j hji]; exact hlj)
        · have := left_set (n := m) (listed := listed) (i := i)
          have h2 : left m (listed.setIfInBounds i true) + 1 = left m listed := by
            unfold left
            refine (filter_insert (i := i) m him (by simp [hli]) ?_ fun j hj => ?_).symm
            · simp [hnew]
            · rw [hother j hj]
          omega
      unfold wpOpIn
      simp only [ho, hw, if_true, Oper.wpIn, hsem]
      refine ⟨fun f _ => hfn f, ?_⟩
      rcases hrun W hW with h1 | ⟨f, args, h1, h2⟩
      · rw [h1]
        exact next W hW
      · rw [h1]
        refine ⟨fun _ => hn, h2.mono ?_⟩
        rintro e W' ⟨rfl, hb⟩
        exact next W' (hW.trans (hb.mono hW.size))


theorem putsL_filter (l : List (Nat × Value)) (d t : Nat) (ht : t ≠ d) : ∀ tm tm' : Array Value, tm.size = tm'.size → tm[t]? = tm'[t]? → (putsL tm (l.filter fun p => p.1 != d))[t]? = (putsL tm' l)[t]? := by
  induction l with
  | nil => intro tm tm' _ h; exact h
  | cons p l ih =>
    intro tm tm' hs h
    by_cases hp : p.1 = d
    · rw [List.filter_cons_of_neg (by simp [hp])]
      refine ih _ _ (by simpa using hs) ?_
      rw [Array.getElem?_setIfInBounds_ne (by omega)]
      exact h
    · rw [List.filter_cons_of_pos (by simpa using hp)]
      refine ih _ _ (by simpa using hs) ?_
      by_cases hpt : p.1 = t
      · subst hpt
        by_cases hlt : p.1 < tm.size
        · rw [Array.getElem?_setIfInBounds_self_of_lt hlt, Array.getElem?_setIfInBounds_self_of_lt (by omega)]
        · rw [Array.getElem?_eq_none (by simp; omega), Array.getElem?_eq_none (by simp; omega)]
      · rw [Array.getElem?_setIfInBounds_ne hpt, Array.getElem?_setIfInBounds_ne hpt]
        exact h

/-- What has been listed where all of the lead but one has. -/
def ledBut (n m f : Nat) : Array Bool := (ledList n m).setIfInBounds f false

theorem listed_but {listed : Array Bool} {n m f : Nat} (hm : m ≤ n) (hf : f < m) (hs : listed.size = n) (h0 : ∀ i, i < m → i ≠ f → isIn listed i = true) (h1 : isIn listed f = false) (h2 : ∀ i, m ≤ i → isIn listed i = false) : listed = ledBut n m f := by
  have e1 : listed.setIfInBounds f true = ledList n m := by
    refine listed_eq hm (by simpa using hs) (fun i hi => ?_) (fun i hi => ?_)
    · rw [isIn_set (by omega)]
      by_cases hif : i = f
      · subst hif; simp
      · rw [h0 i hi hif]; rfl
    · rw [isIn_set (by omega), h2 i hi]
      simp; omega
  have e2 : listed = (listed.setIfInBounds f true).setIfInBounds f false := by
    apply Array.ext_getElem?
    intro i
    by_cases hif : i = f
    · subst hif
      have hlt : i < listed.size := by omega
      rw [Array.getElem?_setIfInBounds_self_of_lt (by simpa using hlt), Array.getElem?_eq_getElem hlt]
      have := h1
      unfold isIn at this
      simpa [Array.getElem?_eq_getElem hlt] using this
    · rw [Array.getElem?_setIfInBounds_ne (Ne.symm hif), Array.getElem?_setIfInBounds_ne (Ne.symm hif)]
  rw [e2, e1]
  rfl

/-- THE LAW. -/
theorem wpIn_region_grown2 {id : Nat} {l : List Oper} (f df : Nat) (vals : List (Nat × Value)) (hm : P.follows .mixedOrders = true) (hfn : ∀ f, F.fn f) (hn : 1 ≤ n) (hB : growB2 l.toArray m f = true) (hf : f < m)
    (hdf : (l[f]?.bind (·.dst)) = some df)
    (hv : vals.map (fun p => some p.1) = (l.take m).map (·.dst)) (hs : slotsB a.tmps.size (l.take m) = true)
    (hy : ∀ W, Below w.heap.size w W → RunsG F n P { a with tmps := putsL a.tmps vals } W (l.take m))
    (hE : ∀ W, Below w.heap.size w W → wpAnyIn F n P .any l.toArray Q (l.length - m + 1) (ledBut l.length m f) { a with tmps := putsL a.tmps (vals.filter fun p => p.1 != df) } W)
    (hQ : ∀ W, Below w.heap.size w W → wpAnyIn F n P .any l.toArray Q (l.length - m) (ledList l.length m) { a with tmps := putsL a.tmps vals } W) :
    (Code.region id l.toArray true).wpIn F n P Q a w := by
  have hB' := hB
  unfold growB2 at hB'
  simp only [Bool.and_eq_true, List.all_eq_true, List.mem_range, decide_eq_true_eq, Bool.or_eq_true] at hB'
  have hmm : m ≤ l.length := by simpa using hB'.1.1.1
  have huniq := hB'.1.2
  refine wpIn_region_any hm ?_
  have hno : ∀ i, isIn (Array.replicate l.toArray.size false) i = false := fun i => getD_replicate_false _ _
  have hd : Below w.heap.size w w.drew := (Below.refl _ w).drew
  have dst_of : ∀ p ∈ vals, ∃ j, j < m ∧ dstOf l.toArray j = some p.1 := by
    intro p hp
    have h1 : some p.1 ∈ vals.map (fun p => some p.1) := List.mem_map.2 ⟨p, hp, rfl⟩
    rw [hv] at h1
    obtain ⟨o, ho, hd⟩ := List.mem_map.1 h1
    obtain ⟨j, hj⟩ := List.mem_iff_getElem?.1 ho
    have hjm : j < m := by
      have := (List.getElem?_eq_some_iff.1 hj).1
      simp at this; omega
    refine ⟨j, hjm, ?_⟩
    rw [List.getElem?_take, if_pos hjm] at hj
    unfold dstOf
    simp [hj, hd]
  have hdff : dstOf l.toArray f = some df := by unfold dstOf; simpa using hdf
  have := grow_sound2 (F := F) (n := n) (P := P) (Q := Q) (w := w) (a := a) (m := m) (f := f) (ops := l.toArray) (a1 := { a with tmps := putsL a.tmps vals }) (a2 := { a with tmps := putsL a.tmps (vals.filter fun p => p.1 != df) }) hfn hn hB (putsL_size _ _) rfl
    (fun t h => putsL_other vals t _ fun p hp e => by obtain ⟨j, h1, h2⟩ := dst_of p hp; exact h j h1 (by rw [h2, e]))
    (fun i o d hi ho hd => by
      have ho' : (l.take m)[i]? = some o := by
        rw [List.getElem?_take, if_pos hi]
        simpa using ho
      refine ⟨?_, fun W hW => (hy W hW).get i o ho' d hd⟩
      unfold slotsB at hs
      rw [List.all_eq_true] at hs
      have := hs o (List.mem_of_getElem? ho')
      rw [hd] at this
      simpa [putsL_size] using this)
    (fun listed hs h1 h2 W hW => by
      have := listed_eq (n := l.length) hmm (by simpa using hs) h1 h2
      subst this
      simpa using hQ W hW)
    (putsL_size _ _) rfl
    (fun t h => putsL_other _ t _ fun p hp e => by
      obtain ⟨hp1, hp2⟩ := List.mem_filter.1 hp
      obtain ⟨j, h1, h2⟩ := dst_of p hp1
      refine h j h1 (fun e' => ?_) (by rw [h2, e])
      subst e'
      rw [hdff] at h2
      cases h2
      simp at hp2)
    (fun t j hj hjf hdj => by
      refine putsL_filter vals df t (fun e => ?_) _ _ rfl rfl
      subst e
      have h1 := huniq j hj
      obtain ⟨oj, hoj, hdo⟩ : ∃ o, l.toArray[j]? = some o ∧ o.dst = some t := by
        unfold dstOf at hdj
        cases ho : l.toArray[j]? with
        | none => rw [ho] at hdj; cases hdj
        | some o => rw [ho] at hdj; exact ⟨o, rfl, hdj⟩
      rw [hoj] at h1
      simp only [Bool.and_eq_true, List.all_eq_true, List.mem_range] at h1
      have h2 := h1.2 f hf
      rw [hdff] at h2
      simp only [Bool.and_eq_true, Bool.or_eq_true, beq_iff_eq, Bool.not_eq_true'] at h2
      rcases h2.1 with h3 | h3
      · exact hjf h3
      · rw [hdo] at h3; simp at h3)
    (fun listed hs h0 h1 h2 W hW => by
      have := listed_but (n := l.length) hmm hf (by simpa using hs) h0 h1 h2
      subst this
      simpa using hE W hW)
    hf m (Array.replicate l.toArray.size false) a w.drew hd
    ⟨by simp, fun j oj _ hl => (by rw [getD_replicate_false] at hl; cases hl), fun i _ => hno i, rfl, rfl, fun t j _ hl => (by rw [hno] at hl; cases hl), fun t _ => rfl⟩
    (by unfold left; rw [List.filter_eq_self.2 (fun i _ => by rw [hno]; rfl)]; simp)
  have e : l.toArray.size - m + m = l.toArray.size := by simp; omega
  rw [e] at this
  exact this

end Go.Abs

/- Walks: Gauges. -/
namespace Go.Proofs.YtkmcboincjohlaaGreat
open Go Go.RowKit Go.Proofs Go.Abs Go.Shelf

theorem info67 : (Tryz.prog.info? 82).map (fun i => (i.zero, i.size, i.bytes)) = some (some (gg 0 0 0 0 0), 5, 40) := by kernel_rfl

/-- An append to one's own row, whatever comes behind it. -/
theorem operIn_append_own {F : Fence} {n : Nat} {P : Program} (w : World) {o : Oper} {a : Act} {K : Act → World → Prop} {Q : Exit → Act → World → Prop}
    (s x : Operand) (t : TypeId) (hop : o.op = Op.call { callee := Callee.builtin Builtin.append, args := #[s, x], argTypes := #[t, t] })
    (base : Nat) (e : TypeId) (i : TypeInfo) (z : Value) (size bytes : Nat) (h1 : P.underlying t = some (.slice e)) (h2 : P.info? e = some i) (h3 : i.zero = some z) (h4 : i.size = size) (h5 : i.bytes = bytes) (h6 : z.cells.size = size) (h7 : 0 < size)
    (v : Value) (k : Nat) (xs : List Value) (hs : a.eval s = v) (hown : w.ownsRow base e size v k xs) (ad : Addr) (m c : Nat) (news : List Value) (hx : a.eval x = .slice (some ad) m c) (hn : news.length = m * size)
    (hc : ∀ j u, news[j]? = some u → w.cell? (ad.add j) = some u) (h1c : ∀ u ∈ news, u.oneCell' = true) (b1 : k + m ≤ maxLen) (b2 : (k + m) * bytes ≤ 140737488355328) (b3 : base ≤ w.heap.size)
    (hK : ∀ v' w', w'.ownsRow base e size v' (k + m) (xs ++ news) → w.grownBy w' v.ownBlock → (v' = .slice none 0 0 ↔ v = .slice none 0 0 ∧ m = 0) → K (a.put o.dst v') w') :
    o.wpIn F n P a w K Q := by
  obtain ⟨v', w', hrun, r1, r2, r3⟩ := run_append_own (P := P) w base t o.type e i z size bytes h1 h2 h3 h4 h5 h6 h7 v k xs hown ad m c news hn hc h1c b1 b2 b3
  unfold Oper.wpIn
  refine ⟨?_, ?_⟩
  · simp [Oper.about, hop, resolve, Target.leads, Sem.run_pure]
  · rw [Oper.semAt_plain F _ _ (by rw [hop]; intro c hc'; cases hc')]
    simp [execOp, hop, resolve, invoke, builtin, hs, hx, hrun, Result.andThen]
    exact hK v' w' r1 r2 r3

/-- A struct of one's own, of any type. -/
def BoxS (t : TypeId) (W : World) (B : Nat) (v : Value) : Prop := ∃ c, v = .agg c ∧ W.heap[B]? = some (.cells c t (0, 0))

theorem BoxS.cell {t : TypeId} {W : World} {B : Nat} {c : Array Value} (h : BoxS t W B (.agg c)) {o : Nat} {v : Value} (ho : c[o]? = some v) : W.cell? ⟨B, o, none⟩ = some v := by
  obtain ⟨c', e, h⟩ := h
  cases e
  unfold World.cell?
  simp [h, ho]

theorem BoxS.own {t : TypeId} {W X : World} {B B' : Nat} {v : Value} {row : Option Nat} (h : BoxS t W B v) (hg : W.grownBy X row) (hr : ∀ r, row = some r → B' ≤ r ∧ ∃ o : Obj, W.heap[r]? = some o ∧ o.isCells = false) : BoxS t X B v := by
  obtain ⟨c, e, hb⟩ := h
  refine ⟨c, e, ?_⟩
  rw [hg.block B (Array.getElem?_eq_some_iff.1 hb).1 (fun e' => by
    obtain ⟨_, o, ho, hc⟩ := hr B e'.symm
    rw [hb] at ho; cases ho; cases hc)]
  exact hb

theorem BoxS.new (t : TypeId) (W : World) (c : Array Value) : BoxS t (W.alloc (.cells c t)) W.heap.size (.agg c) := ⟨c, rfl, World.alloc_heap_new W _⟩

/-- The five numbers of a gauge of an outline. -/
def gau (L : List (Int × Int)) (x : Nat) : List Value := [.int .i64 (m1 L x), .int .i64 (m1 L x), .int .i64 (m2 L x), .int .i64 (m2 L x), .int .i64 (m3 L x)]
def gauL (L : List (Int × Int)) (pre : List Nat) : List Value := pre.flatMap (gau L)
theorem gauL_snoc (L : List (Int × Int)) (pre : List Nat) (x : Nat) : gauL L (pre ++ [x]) = gauL L pre ++ gau L x := by simp [gauL]

theorem five_cells (a b c d e : Int) : ∀ u ∈ [Value.int .i64 a, .int .i64 b, .int .i64 c, .int .i64 d, .int .i64 e], u.oneCell' = true := by
  intro u hu
  simp only [List.mem_cons, List.not_mem_nil, or_false] at hu
  rcases hu with rfl | rfl | rfl | rfl | rfl <;> rfl

theorem five_new (w : World) (a b c d e : Int) : ∀ j u, [Value.int .i64 a, .int .i64 b, .int .i64 c, .int .i64 d, .int .i64 e][j]? = some u → (w.alloc (.cells #[.int .i64 a, .int .i64 b, .int .i64 c, .int .i64 d, .int .i64 e] 82)).cell? ((⟨w.heap.size, 0, none⟩ : Addr).add j) = some u := by
  intro j u h
  have h1 := World.alloc_heap_new w (.cells #[.int .i64 a, .int .i64 b, .int .i64 c, .int .i64 d, .int .i64 e] 82)
  have e1 : (⟨w.heap.size, 0, none⟩ : Addr).add j = ⟨w.heap.size, j, none⟩ := by unfold Addr.add; split <;> simp_all
  rw [e1]
  unfold World.cell?
  rw [h1]
  simpa using h

attribute [local go_sem] Oper.semAt_some

theorem KeepN.appended {N : Nat} {X0 w3 : World} {tmp : Obj} {v v' c : Value} {k : Nat} {xs : List Value} (bO : Boxed X0 N 31 v) (bC : Boxed X0 (N + 1) 34 c) (hr : X0.ownsRow N 82 5 v k xs)
    (hg : (X0.alloc tmp).grownBy w3 v.ownBlock) : KeepN N (N + 1) X0 (w3.setCell ⟨N, 0, none⟩ v') := by
  have hN := (Array.getElem?_eq_some_iff.1 (show X0.heap[N]? = _ from bO)).1
  have same : ∀ j, j < X0.heap.size → j ≠ N → some j ≠ v.ownBlock → (w3.setCell ⟨N, 0, none⟩ v').heap[j]? = X0.heap[j]? := fun j hj hn hv => by
    rw [Below.heap_setCell _ _ _ j hn, hg.block j (by simp; omega) hv, alloc_heap_old _ _ hj]
  have notrow : ∀ (j : Nat) (cs : Array Value) (t : TypeId) (x : Nat × Nat), X0.heap[j]? = some (.cells cs t x) → t ≠ 82 → some j ≠ v.ownBlock := fun j cs t x hj ht e => by
    rcases hr.2 with ⟨rfl, -⟩ | ⟨g, cap, cur, rfl, -, h2, -⟩
    · cases e
    · simp only [Value.ownBlock, Option.some.injEq] at e
      subst e
      rw [hj] at h2
      cases h2
      exact ht rfl
  refine ⟨?_, fun j hj => ?_, fun j cs x hj => ?_⟩
  · have h1 := hg.size
    have h2 := (KeepsOthers.setCell w3 ⟨N, 0, none⟩ v').size
    simp at h1
    omega
  · rcases hj with hj | rfl
    · exact same j (by omega) (by omega) (fun e => by have := (hr.lt j e.symm).1; omega)
    · have hC : X0.heap[N + 1]? = some (.cells #[c] 34 (0, 0)) := bC
      exact same _ (Array.getElem?_eq_some_iff.1 hC).1 (by omega) (notrow _ _ _ _ hC (by decide))
  · rw [same j (Array.getElem?_eq_some_iff.1 hj).1 ?_ (notrow _ _ _ _ hj (by decide))]
    · exact hj
    · rintro rfl
      rw [show X0.heap[j]? = some (.cells #[v] 31 (0, 0)) from bO] at hj
      cases hj

set_option maxRecDepth 100000 in
set_option maxHeartbeats 8000000 in
theorem gauges_good (b off cap : Nat) (L : List (Int × Int)) (hv : vOut L = true) (w : World) (hp : PtsAt w b off L) :
    Calls Tryz.prog 7 #[.slice (some ⟨b, off, none⟩) L.length cap] w fun e w' => ∃ v, e = .returned (.tuple #[v, .int .i64 0]) ∧ w'.ownsRow w.heap.size 82 5 v L.length (gauL L (List.range L.length)) ∧ Below w.heap.size w w' := by
  obtain ⟨i0, hi, hz0, hz1, hz2⟩ := info_parts info67
  obtain ⟨h3, h24, -⟩ := vOut_n hv
  have hblt := hp.lt (by omega)
  have C1 := validOutline_any b off cap L (by omega) w hp
  rw [hv] at C1
  refine (callsIn_wide (n := 6)).1 ?_
  have h1 : 1 ≤ 6 := by omega
  refine callsIn_of_wp_marks Tryz.func7 rfl trivial ?_ rfl
  simp only [Tryz.ntmps7, List.size_toArray, List.length_cons, List.length_nil, Nat.reduceAdd, Nat.reduceSub, Array.replicate_succ, Array.replicate_zero, List.push_toArray, List.append_toArray, List.nil_append, List.cons_append]
  gi_wp2_with (first
    | (refine ⟨trivial, ?_⟩; gi_at_call 19; refine (callsIn_wide.2 C1).mono ?_; rintro e w1 ⟨rfl, hb1⟩)
    | (refine ⟨trivial, ?_⟩; gi_at_call 20; refine (measured_in 5 _ _ _ _).mono ?_; rintro e w' ⟨rfl, rfl⟩))
  obtain ⟨N, hN⟩ : ∃ N, w1.heap.size = N := ⟨_, rfl⟩
  have hwN : w.heap.size ≤ N := by rw [← hN]; exact hb1.size
  have hbN : b < N := Nat.lt_of_lt_of_le hblt hwN
  have hp1 := hp.keep hb1
  simp only [hN]
  obtain ⟨W0, hW0⟩ : ∃ W0, (w1.alloc (.cells #[.slice none 0 0] 31)).alloc (.cells #[.slice (some ⟨b, off, none⟩) L.length cap] 34) = W0 := ⟨_, rfl⟩
  have hsz : W0.heap.size = N + 2 := by rw [← hW0]; simp [hN]
  have bS : Boxed W0 N 31 (.slice none 0 0) := by rw [← hW0, ← hN]; exact (Boxed.new w1 31 _).alloc _
  have bC : Boxed W0 (N + 1) 34 (.slice (some ⟨b, off, none⟩) L.length cap) := by
    rw [← hW0, ← hN]; have := Boxed.new (w1.alloc (.cells #[.slice none 0 0] 31)) 34 (.slice (some ⟨b, off, none⟩) L.length cap); rwa [World.size_alloc] at this
  have hB0 : Below N w1 W0 := by rw [← hW0]; exact ((Below.refl _ w1).alloc (by omega) _).alloc (by simp; omega) _
  have hp0 : PtsAt W0 b off L := hp1.keep (by rw [hN]; exact hB0)
  rw [hW0]
  clear hW0 C1 hp hp1
  refine wpIn_rangeFunc_ownH rfl h1 (gf := 50) (lb := #[.pointer (some ⟨N + 1, 0, none⟩)]) rfl trivial (enters_of Tryz.func50 (by kernel_rfl) rfl)
    (measured_stops 5 (by omega) (N + 1) N b off cap L hv hbN W0 (by omega) bC.cell hp0)
    KeepN.trans (fun W l o o' hl h hc _ => KeepN.put (by omega) (by omega) h hc) (Below.refl _ _) (fun _ => rfl)
    (fun pre W => (∃ v, Boxed W N 31 v ∧ W.ownsRow N 82 5 v pre.length (gauL L pre) ∧ True) ∧ Boxed W (N + 1) 34 (.slice (some ⟨b, off, none⟩) L.length cap) ∧ Below N w1 W ∧ N + 2 ≤ W.heap.size)
    (fun _ _ _ => False)
    (OwnFrom.and (Own.from (holdsRow_own N N 31 82 5 List.length (gauL L) (fun _ _ => True)) _) (OwnFrom.and (Own.from (boxed_own _ _ _) _) (OwnFrom.and (ownFrom_below (by omega) (by omega)) (ownFrom_size _ _))))
    (fun _ _ _ _ _ hs _ _ => hs)
    ⟨⟨_, bS, World.ownsRow_nil _ _ _ _, trivial⟩, bC, hB0, by omega⟩
    (fun x a' W => ∃ Bx, N + 1 < Bx ∧ BoxS 77 W Bx (ms (m1 L x) (m2 L x) (m3 L x)) ∧ a' = { tmps := #[.slice (some ⟨b, off, none⟩) L.length cap, undef, .slice none 0 0, .int .i64 0, .pointer (some ⟨N, 0, none⟩), undef, .pointer (some ⟨Bx, 0, none⟩), .slice (some ⟨b, off, none⟩) L.length cap, .bool true, .bool false, .slice (some ⟨b, off, none⟩) L.length cap, .func (.func 50) #[] #[.pointer (some ⟨N + 1, 0, none⟩)], .int .i64 x, ms (m1 L x) (m2 L x) (m3 L x), undef, undef, undef, undef, undef, undef, undef, undef, undef, undef, undef, undef, undef], defers := [] })
    (fun x a' _ X Y row hs hg hr => by obtain ⟨Bx, h1, h2, h3⟩ := hs; exact ⟨Bx, h1, h2.own hg hr, h3⟩)
    ?assign ?body ?done ?stop
  case assign =>
    rintro l pre x W K ⟨⟨v, bS1, hr1, -⟩, bC1, hB1, hs1⟩ hK
    gi_wp2
    exact hK _ _ ((KeepsOthers.alloc _ _).from _) (KeepN.below ((Below.refl _ W).alloc (Nat.le_refl _) _) (by omega) (by omega)) ⟨⟨v, bS1.alloc _, hr1.alloc _, trivial⟩, bC1.alloc _, hB1.alloc (by omega) _, by simp; omega⟩ ⟨W.heap.size, by omega, BoxS.new 77 W _, rfl⟩
  case body =>
    rintro l pre x a' W hl _ ⟨⟨v, bS1, hr1, -⟩, bC1, hB1, hs1⟩ ⟨Bx, hBx, bX, rfl⟩ hlt
    have x0 := bX.cell (o := 0) rfl
    have x1 := bX.cell (o := 1) rfl
    have x2 := bX.cell (o := 2) rfl
    have cS := bS1.cell
    have GS : Hid (gauL L (pre ++ [x]) = gauL L pre ++ [.int .i64 (m1 L x), .int .i64 (m1 L x), .int .i64 (m2 L x), .int .i64 (m2 L x), .int .i64 (m3 L x)]) := Lib.hid (gauL_snoc L pre x)
    generalize m1 L x = a1, m2 L x = a2, m3 L x = a3 at x0 x1 x2 GS ⊢
    have C1 := fun w => one_any a1 w
    have C2 := fun w => one_any a2 w
    gi_wp2_with fail
    have H0 : ∀ W', Below W.heap.size W W' → Below N w1 W' ∧ N + 2 ≤ W'.heap.size ∧ Boxed W' N 31 v ∧ Boxed W' (N + 1) 34 (.slice (some ⟨b, off, none⟩) L.length cap) ∧ W'.ownsRow N 82 5 v pre.length (gauL L pre) ∧ KeepsFrom W0.heap.size W W' ∧ KeepN N (N + 1) W W' :=
      fun W' hW' => ⟨hB1.trans (hW'.mono (by omega)), Nat.le_trans hs1 hW'.size, below_box hW' bS1, below_box hW' bC1, own_keep hr1 hW', keepsFrom_below W0.heap.size hW', KeepN.below hW' (by omega) (by omega)⟩
    have HH := Lib.hid H0
    clear H0
    refine wpIn_region_grown2 (m := 10) 0 14 [(14, v), (15, .pointer (some ⟨Bx, 0, none⟩)), (16, .int .i64 a1), (17, spn a1 a1), (18, .pointer (some ⟨Bx, 1, none⟩)), (19, .int .i64 a2), (20, spn a2 a2), (21, .pointer (some ⟨Bx, 2, none⟩)), (22, .int .i64 a3), (23, gg a1 a1 a2 a2 a3)] (by kernel_rfl) (fun _ => trivial) (by omega) (by kernel_rfl) (by omega) rfl rfl (by kernel_rfl) ?_ ?_ ?_
    · intro W' hW'
      have d0 := keep_cell hW' x0
      have d1 := keep_cell hW' x1
      have d2 := keep_cell hW' x2
      have dS := keep_cell hW' cS
      clear x0 x1 x2 cS
      simp only [putsL, List.setIfInBounds_toArray, List.set_cons_zero, List.set_cons_succ, List.take_succ_cons, List.take_zero]
      refine ⟨fun d hd => .inl ?_, fun d hd => .inl ?_, fun d hd => .inl ?_, fun d hd => .inr ⟨21, #[.int .i64 a1], ?_, ?_⟩, fun d hd => .inl ?_, fun d hd => .inl ?_, fun d hd => .inr ⟨21, #[.int .i64 a2], ?_, ?_⟩, fun d hd => .inl ?_, fun d hd => .inl ?_, fun d hd => .inl ?_, trivial⟩
      all_goals cases hd
      all_goals first
        | (go_simp; done)
        | (exact CallsIn.inRound l (callsIn_wide.2 ((C1 W').mono fun e w'' h => ⟨h.1, h.2⟩)))
        | (exact CallsIn.inRound l (callsIn_wide.2 ((C2 W').mono fun e w'' h => ⟨h.1, h.2⟩)))
        | trace_state
    · intro W' hW'
      clear x0 x1 x2 cS C1 C2 bS1 bC1 hr1 hs1 hB1
      simp only [putsL, List.filter, bne_self_eq_false, Nat.reduceBNe, List.setIfInBounds_toArray, List.set_cons_zero, List.set_cons_succ, List.length_cons, List.length_nil, Nat.reduceAdd, Nat.reduceSub, ledBut, ledList, List.replicate, List.cons_append, List.nil_append]
      obtain ⟨hB2, hs2, bS2, bC2, hr2, hkf, hkc⟩ := HH.out W' hW'
      have cS2 := bS2.cell
      refine wpAnyIn_ready (rs := [0, 10]) (by kernel_rfl) (by simp) (AllReadyIn.cons rfl (fun K hK => ?_) (AllReadyIn.cons rfl (fun K hK => ?_) AllReadyIn.nil))
      · simp only [List.getElem_toArray, List.getElem_cons_zero]
        rw [if_pos (show Region.wanted _ _ = true from rfl)]
        gi_wp2_with fail
        refine wpAnyIn_ready (rs := [10]) (by kernel_rfl) (by simp) (AllReadyIn.cons rfl (fun K hK => ?_) AllReadyIn.nil)
        simp only [List.getElem_toArray, List.getElem_cons_succ, List.getElem_cons_zero]
        rw [if_pos (show Region.wanted _ _ = true from rfl)]
        gi_wp2_with fail
        refine wpAnyIn_ready (rs := [11]) (by kernel_rfl) (by simp) (AllReadyIn.cons rfl (fun K hK => ?_) AllReadyIn.nil)
        simp only [List.getElem_toArray, List.getElem_cons_succ, List.getElem_cons_zero]
        rw [if_pos (show Region.wanted _ _ = true from rfl)]
        refine operIn_append_own _ (.tmp 14) (.tmp 24) 31 rfl N 82 i0 (gg 0 0 0 0 0) 5 40 Tryz.underlying31 hi hz0 hz1 hz2 rfl (by decide) v pre.length (gauL L pre) rfl (hr2.alloc _) ⟨W'.heap.size, 0, none⟩ 1 1 [.int .i64 a1, .int .i64 a1, .int .i64 a2, .int .i64 a2, .int .i64 a3] rfl rfl (five_new _ _ _ _ _ _) (five_cells _ _ _ _ _) (by unfold maxLen; omega) (by omega) (by simp; omega) ?_
        intro v' w3 hown' hg3 hnil3
        obtain ⟨bx3, k2, k3, k4, k5⟩ := Boxed.appended bS2 (by decide) hr2 (by omega) (Nat.le_refl _) hown' hg3
        have k6 := KeepN.appended (v' := v') bS2 bC2 hr2 hg3
        have bC3 := ((bC2.alloc (.cells #[.int .i64 a1, .int .i64 a1, .int .i64 a2, .int .i64 a2, .int .i64 a3] 82)).kept hg3 (bC2.not_row (by decide) hr2)).kept (grownBy_setCell' w3 N v') (by simp; done)
        obtain ⟨g', cap', hv'⟩ := ownsRow_succ hown'
        subst hv'
        have cS3 := bx3.cell
        have fS3 := bx3.frozen
        refine hK _ _ ?_
        clear hK K
        refine wpAnyIn_ready (rs := [12]) (by kernel_rfl) (by simp) (AllReadyIn.cons rfl (fun K hK => ?_) AllReadyIn.nil)
        simp only [List.getElem_toArray, List.getElem_cons_succ, List.getElem_cons_zero]
        rw [if_pos (show Region.wanted _ _ = true from rfl)]
        gi_wp2_with fail
        refine wpAnyIn_done (by kernel_rfl) ?_ _
        gi_wp2
        refine ⟨hkf.trans (k4.from _), hkc.trans k6, ⟨⟨_, k2, ?_, trivial⟩, bC3, hB2.trans k5, Nat.le_trans hs2 k4.size⟩⟩
        rw [GS.out]
        simpa using k3
      · simp only [List.getElem_toArray, List.getElem_cons_succ, List.getElem_cons_zero]
        rw [if_pos (show Region.wanted _ _ = true from rfl)]
        gi_wp2_with fail
        have cSa := (bS2.alloc (.cells #[.int .i64 a1, .int .i64 a1, .int .i64 a2, .int .i64 a2, .int .i64 a3] 82)).cell
        refine wpAnyIn_ready (rs := [0]) (by kernel_rfl) (by simp) (AllReadyIn.cons rfl (fun K hK => ?_) AllReadyIn.nil)
        simp only [List.getElem_toArray, List.getElem_cons_zero]
        rw [if_pos (show Region.wanted _ _ = true from rfl)]
        gi_wp2_with fail
        refine wpAnyIn_ready (rs := [11]) (by kernel_rfl) (by simp) (AllReadyIn.cons rfl (fun K hK => ?_) AllReadyIn.nil)
        simp only [List.getElem_toArray, List.getElem_cons_succ, List.getElem_cons_zero]
        rw [if_pos (show Region.wanted _ _ = true from rfl)]
        refine operIn_append_own _ (.tmp 14) (.tmp 24) 31 rfl N 82 i0 (gg 0 0 0 0 0) 5 40 Tryz.underlying31 hi hz0 hz1 hz2 rfl (by decide) v pre.length (gauL L pre) rfl (hr2.alloc _) ⟨W'.heap.size, 0, none⟩ 1 1 [.int .i64 a1, .int .i64 a1, .int .i64 a2, .int .i64 a2, .int .i64 a3] rfl rfl (five_new _ _ _ _ _ _) (five_cells _ _ _ _ _) (by unfold maxLen; omega) (by omega) (by simp; omega) ?_
        intro v' w3 hown' hg3 hnil3
        obtain ⟨bx3, k2, k3, k4, k5⟩ := Boxed.appended bS2 (by decide) hr2 (by omega) (Nat.le_refl _) hown' hg3
        have k6 := KeepN.appended (v' := v') bS2 bC2 hr2 hg3
        have bC3 := ((bC2.alloc (.cells #[.int .i64 a1, .int .i64 a1, .int .i64 a2, .int .i64 a2, .int .i64 a3] 82)).kept hg3 (bC2.not_row (by decide) hr2)).kept (grownBy_setCell' w3 N v') (by simp; done)
        obtain ⟨g', cap', hv'⟩ := ownsRow_succ hown'
        subst hv'
        have cS3 := bx3.cell
        have fS3 := bx3.frozen
        refine hK _ _ ?_
        clear hK K
        refine wpAnyIn_ready (rs := [12]) (by kernel_rfl) (by simp) (AllReadyIn.cons rfl (fun K hK => ?_) AllReadyIn.nil)
        simp only [List.getElem_toArray, List.getElem_cons_succ, List.getElem_cons_zero]
        rw [if_pos (show Region.wanted _ _ = true from rfl)]
        gi_wp2_with fail
        refine wpAnyIn_done (by kernel_rfl) ?_ _
        gi_wp2
        refine ⟨hkf.trans (k4.from _), hkc.trans k6, ⟨⟨_, k2, ?_, trivial⟩, bC3, hB2.trans k5, Nat.le_trans hs2 k4.size⟩⟩
        rw [GS.out]
        simpa using k3
    · intro W' hW'
      clear x0 x1 x2 cS C1 C2 bS1 bC1 hr1 hs1 hB1
      simp only [putsL, List.setIfInBounds_toArray, List.set_cons_zero, List.set_cons_succ, List.length_cons, List.length_nil, Nat.reduceAdd, Nat.reduceSub, ledList, List.replicate, List.cons_append, List.nil_append]
      obtain ⟨hB2, hs2, bS2, bC2, hr2, hkf, hkc⟩ := HH.out W' hW'
      have cS2 := bS2.cell
      refine wpAnyIn_ready (rs := [10]) (by kernel_rfl) (by simp) (AllReadyIn.cons rfl (fun K hK => ?_) AllReadyIn.nil)
      simp only [List.getElem_toArray, List.getElem_cons_succ, List.getElem_cons_zero]
      rw [if_pos (show Region.wanted _ _ = true from rfl)]
      gi_wp2_with fail
      refine wpAnyIn_ready (rs := [11]) (by kernel_rfl) (by simp) (AllReadyIn.cons rfl (fun K hK => ?_) AllReadyIn.nil)
      simp only [List.getElem_toArray, List.getElem_cons_succ, List.getElem_cons_zero]
      rw [if_pos (show Region.wanted _ _ = true from rfl)]
      refine operIn_append_own _ (.tmp 14) (.tmp 24) 31 rfl N 82 i0 (gg 0 0 0 0 0) 5 40 Tryz.underlying31 hi hz0 hz1 hz2 rfl (by decide) v pre.length (gauL L pre) rfl (hr2.alloc _) ⟨W'.heap.size, 0, none⟩ 1 1 [.int .i64 a1, .int .i64 a1, .int .i64 a2, .int .i64 a2, .int .i64 a3] rfl rfl (five_new _ _ _ _ _ _) (five_cells _ _ _ _ _) (by unfold maxLen; omega) (by omega) (by simp; omega) ?_
      intro v' w3 hown' hg3 hnil3
      obtain ⟨bx3, k2, k3, k4, k5⟩ := Boxed.appended bS2 (by decide) hr2 (by omega) (Nat.le_refl _) hown' hg3
      have k6 := KeepN.appended (v' := v') bS2 bC2 hr2 hg3
      have bC3 := ((bC2.alloc (.cells #[.int .i64 a1, .int .i64 a1, .int .i64 a2, .int .i64 a2, .int .i64 a3] 82)).kept hg3 (bC2.not_row (by decide) hr2)).kept (grownBy_setCell' w3 N v') (by simp; done)
      obtain ⟨g', cap', hv'⟩ := ownsRow_succ hown'
      subst hv'
      have cS3 := bx3.cell
      have fS3 := bx3.frozen
      refine hK _ _ ?_
      clear hK K
      refine wpAnyIn_ready (rs := [12]) (by kernel_rfl) (by simp) (AllReadyIn.cons rfl (fun K hK => ?_) AllReadyIn.nil)
      simp only [List.getElem_toArray, List.getElem_cons_succ, List.getElem_cons_zero]
      rw [if_pos (show Region.wanted _ _ = true from rfl)]
      gi_wp2_with fail
      refine wpAnyIn_done (by kernel_rfl) ?_ _
      gi_wp2
      refine ⟨hkf.trans (k4.from _), hkc.trans k6, ⟨⟨_, k2, ?_, trivial⟩, bC3, hB2.trans k5, Nat.le_trans hs2 k4.size⟩⟩
      rw [GS.out]
      simpa using k3
  case done =>
    rintro D ks W hD rfl ⟨⟨v, bS1, hr1, -⟩, bC1, hB1, hs1⟩ hK
    have cS := bS1.cell
    gi_wp2
    refine ⟨by simp, .inl ⟨_, _, rfl, run_takeDeferred hK, ?_⟩⟩
    refine ⟨.tuple #[v, .int .i64 0], by simp [results, Tryz.f7, go_sem], v, rfl, own_base (by simpa using ownsRow_putObj hr1 _ hK rfl) hwN, ?_⟩
    exact keep_below hb1 (by rw [hN]; exact hB1.trans (belowK_b (w := w1) (by omega) W D _ _ (by omega) hK rfl rfl))
  case stop =>
    rintro D c pre W _ _ h _
    exact h.elim

end Go.Proofs.YtkmcboincjohlaaGreat
