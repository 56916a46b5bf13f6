/- A region that draws its order, in a fence or in a round, whose lead has one operation on which the end need not wait. -/
import Derived.Test.YtiebbbeijlfedaaQA
namespace Go.Abs
open Go Go.RowKit

def growB2 (ops : Array Oper) (m f : Nat) : Bool :=
  let A := ancs ops.toList []
  decide (m ≤ ops.size) &&
  ((List.range ops.size).all fun i => match ops[i]? with
    | none => true
    | some o => o.after.toList.all fun e => !Region.binds .any e || decide (e.on < i)) &&
  ((List.range m).all fun i => match ops[i]? with
    | none => true
    | some o => o.guard.isNone && growOp o && o.dst.isSome && ((List.range m).all fun j => match dstOf ops j with
        | none => true
        | some t => (i == j || !(o.dst == some t)) && (!(reads ops o).contains t || ancA A i j))) &&
  ((List.range ops.size).all fun k => decide (k < m) || ((List.range m).all fun j => decide (j = f) || ancA A k j))

variable {F : Fence} {n m : Nat} {P : Program} {ops : Array Oper} {Q : Exit → Act → World → Prop} {a a1 : Act} {w : World}

theorem grow_sound2 {f : Nat} {a2 : Act} (hfn : ∀ f, F.fn f) (hn : 1 ≤ n) (hB : growB2 ops m f = true) (hsz : a1.tmps.size = a.tmps.size) (hdf : a1.defers = a.defers)
    (hkeep : ∀ t, (∀ j, j < m → dstOf ops j ≠ some t) → a1.tmps[t]? = a.tmps[t]?)
    (hy : ∀ i o d, i < m → ops[i]? = some o → o.dst = some d → d < a1.tmps.size ∧ ∀ W, Below w.heap.size w W → GrowsAt F n P a1 W o d)
    (hQ : ∀ listed : Array Bool, listed.size = ops.size → (∀ i, i < m → isIn listed i = true) → (∀ i, m ≤ i → isIn listed i = false) → ∀ W, Below w.heap.size w W → wpAnyIn F n P .any ops Q (ops.size - m) listed a1 W)
    (hsz2 : a2.tmps.size = a.tmps.size) (hdf2 : a2.defers = a.defers) (hkeep2 : ∀ t, (∀ j, j < m → j ≠ f → dstOf ops j ≠ some t) → a2.tmps[t]? = a.tmps[t]?) (hsame2 : ∀ t j, j < m → j ≠ f → dstOf ops j = some t → a2.tmps[t]? = a1.tmps[t]?)
    (hE : ∀ listed : Array Bool, listed.size = ops.size → (∀ i, i < m → i ≠ f → isIn listed i = true) → isIn listed f = false → (∀ i, m ≤ i → isIn listed i = false) → ∀ W, Below w.heap.size w W → wpAnyIn F n P .any ops Q (ops.size - m + 1) listed a2 W)
    (hf : f < m) :
    ∀ (k : Nat) (listed : Array Bool) (a' : Act) (W : World), Below w.heap.size w W → Lead ops m a a1 a' listed → left m listed = k → wpAnyIn F n P .any ops Q (ops.size - m + k) listed a' W := by
  unfold growB2 at hB
  simp only [Bool.and_eq_true, List.all_eq_true, List.mem_range, decide_eq_true_eq, Bool.or_eq_true] at hB
  obtain ⟨⟨⟨hm, hback⟩, hpre⟩, htail⟩ := hB
  intro k
  induction k with
  | zero =>
    intro listed a' W hW hi hl
    have hall := left_zero hl
    have : a' = a1 := by
      have ht : a'.tmps = a1.tmps := by
        apply Array.ext_getElem?
        intro t
        by_cases h : ∃ j, j < m ∧ dstOf ops j = some t
        · obtain ⟨j, h1, h2⟩ := h
          exact hi.done t j h1 (hall j h1) h2
        · rw [hkeep t (fun j hj e => h ⟨j, hj, e⟩), hi.rest t (fun j hj _ e => h ⟨j, hj, e⟩)]
      obtain ⟨t1, d1⟩ := a'
      obtain ⟨t2, d2⟩ := a1
      simp only at ht
      have hd : d1 = d2 := hi.defers.trans hdf.symm
      rw [ht, hd]
    subst this
    exact hQ listed hi.size hall hi.tail W hW
  | succ k ih =>
    intro listed a' W hW hi hl
    have hsz' := hi.size
    by_cases hEc : (∀ j, j < m → j ≠ f → isIn listed j = true) ∧ isIn listed f = false
    · obtain ⟨e1, e2⟩ := hEc
      have hleft : left m listed = 1 := by
        have h2 : left m (listed.setIfInBounds f true) + 1 = left m listed := by
          unfold left
          refine (filter_insert (i := f) m hf (by simp [e2]) ?_ fun j hj => ?_).symm
          · have : isIn (listed.setIfInBounds f true) f = true := by rw [isIn_set (by omega)]; simp
            simp [this]
          · rw [isIn_set (by omega)]
            have : (j == f) = false := by simpa using hj
            rw [this, Bool.or_false]
        have h3 : left m (listed.setIfInBounds f true) = 0 := by
          unfold left
          rw [List.length_eq_zero_iff, List.filter_eq_nil_iff]
          intro j hj
          have : isIn (listed.setIfInBounds f true) j = true := by
            rw [isIn_set (by omega)]
            by_cases hjf : j = f
            · subst hjf; simp
            · rw [e1 j (List.mem_range.1 hj) hjf]; rfl
          simp [this]
        omega
      have hk0 : k = 0 := by omega
      subst hk0
      have : a' = a2 := by
        have ht : a'.tmps = a2.tmps := by
          apply Array.ext_getElem?
          intro t
          by_cases h : ∃ j, j < m ∧ j ≠ f ∧ dstOf ops j = some t
          · obtain ⟨j, h1, h2, h3⟩ := h
            rw [hi.done t j h1 (e1 j h1 h2) h3, hsame2 t j h1 h2 h3]
          · rw [hkeep2 t (fun j hj hjf e => h ⟨j, hj, hjf, e⟩), hi.rest t (fun j hj hlj e => h ⟨j, hj, (fun e' => by subst e'; rw [e2] at hlj; cases hlj), e⟩)]
        obtain ⟨t1, d1⟩ := a'
        obtain ⟨t2, d2⟩ := a2
        simp only at ht
        have hd : d1 = d2 := hi.defers.trans hdf2.symm
        rw [ht, hd]
      subst this
      exact hE listed hi.size e1 e2 hi.tail W hW
    refine ⟨fun hnil => ?_, fun i hir => ?_⟩
    · exfalso
      have hall : ∀ i, i < m → isIn listed i = true := by
        intro i
        induction i using Nat.strongRecOn with
        | _ i ih2 =>
          intro him
          cases hli : isIn listed i with
          | true => rfl
          | false =>
            exfalso
            have hin : i < ops.size := by omega
            obtain ⟨o, ho⟩ : ∃ o, ops[i]? = some o := ⟨ops[i], by simp [hin]⟩
            have : i ∈ Region.ready .any ops listed := by
              rw [mem_ready]
              refine ⟨getD_in (by omega) hli, o, ho, fun e he hb => ?_⟩
              have h1 := hback i hin
              rw [ho] at h1
              simp only [List.all_eq_true] at h1
              have h2 := h1 e (by simpa using he)
              simp only [hb, Bool.not_true, Bool.false_or, decide_eq_true_eq] at h2
              exact ih2 e.on h2 (by omega)
            rw [hnil] at this
            cases this
      have : left m listed = 0 := by
        unfold left
        rw [List.length_eq_zero_iff, List.filter_eq_nil_iff]
        intro i hi2
        simp [hall i (List.mem_range.1 hi2)]
      omega
    · obtain ⟨hun, o, ho, hdeps⟩ := mem_ready.1 hir
      have hin := (Array.getElem?_eq_some_iff.1 ho).1
      have hli : isIn listed i = false := getD_both hun
      have up : ∀ j, anc ops i j = true → isIn listed j = true := fun j hj => anc_listed hi.closed i j hj (fun o' ho' e he hb => by
        rw [ho] at ho'; cases ho'; exact hdeps e he hb)
      have him : i < m := by
        rcases Nat.lt_or_ge i m with h | h
        · exact h
        · exfalso
          have hall1 : ∀ j, j < m → j ≠ f → isIn listed j = true := by
            intro j hj hjf
            rcases htail i hin with h1 | h1
            · omega
            · rcases h1 j hj with h2 | h2
              · exact absurd h2 hjf
              · exact up j h2
          have hallf : isIn listed f = true := by
            cases h : isIn listed f with
            | true => rfl
            | false => exact absurd ⟨hall1, h⟩ hEc
          have hall : ∀ j, j < m → isIn listed j = true := by
            intro j hj
            by_cases hjf : j = f
            · subst hjf; exact hallf
            · exact hall1 j hj hjf
          have : left m listed = 0 := by
            unfold left
            rw [List.length_eq_zero_iff, List.filter_eq_nil_iff]
            intro j hj
            simp [hall j (List.mem_range.1 hj)]
          omega
      have hp := hpre i him
      rw [ho] at hp
      simp only [Bool.and_eq_true, List.all_eq_true, List.mem_range, Option.isNone_iff_eq_none] at hp
      obtain ⟨⟨⟨hg, hpl⟩, hds⟩, hj⟩ := hp
      obtain ⟨d, hd⟩ := Option.isSome_iff_exists.1 hds
      have hdi : dstOf ops i = some d := by unfold dstOf; rw [ho]; exact hd
      have agree : ∀ t, t ∈ reads ops o → a'.tmps[t]? = a1.tmps[t]? := by
        intro t ht
        by_cases h : ∃ j, j < m ∧ dstOf ops j = some t
        · obtain ⟨j, h1, h2⟩ := h
          have h3 := hj j h1
          rw [h2] at h3
          simp only [Bool.and_eq_true, Bool.or_eq_true, Bool.not_eq_true', List.contains_eq_mem, decide_eq_false_iff_not] at h3
          rcases h3.2 with h4 | h4
          · exact absurd ht h4
          · exact hi.done t j h1 (up j h4) h2
        · rw [hkeep t (fun j hj e => h ⟨j, hj, e⟩), hi.rest t (fun j hj _ e => h ⟨j, hj, e⟩)]
      have hev : ∀ x ∈ o.op.operands, a'.eval x = a1.eval x := by
        intro x hx
        cases x with
        | tmp t =>
          have := agree t (by unfold reads; exact List.mem_append_left _ (List.mem_filterMap.2 ⟨.tmp t, by simpa using hx, rfl⟩))
          show a'.tmps.getD t undef = a1.tmps.getD t undef
          simp only [Array.getD_eq_getD_getElem?, this]
        | _ => rfl
      have hex : execOp a'.eval o = execOp a1.eval o := execOp_congr o (fun cs b he => by unfold growOp at hpl; rw [he] at hpl; cases hpl) hev
      have hsem : o.semAt F.round a'.eval = execOp a1.eval o := (Oper.semAt_plain F _ o (fun c he => by unfold growOp at hpl; rw [he] at hpl; cases hpl)).trans hex
      obtain ⟨hdl, hrun⟩ := hy i o d him ho hd
      have hw : Region.wanted o (yielded ops a'.tmps) = true := by unfold Region.wanted; rw [hg]
      have hnew : isIn (listed.setIfInBounds i true) i = true := by rw [isIn_set (by omega)]; simp
      have hother : ∀ j, j ≠ i → isIn (listed.setIfInBounds i true) j = isIn listed j := fun j hj => by
        rw [isIn_set (by omega)]
        have : (j == i) = false := by simpa using hj
        rw [this, Bool.or_false]
      have hd2 : d < a'.tmps.size := by rw [hi.len, ← hsz]; exact hdl
      have next : ∀ W', Below w.heap.size w W' → wpAnyIn F n P .any ops Q (ops.size - m + k) (listed.setIfInBounds i true) (a'.put o.dst (a1.eval (.tmp d))) W' := by
        intro W' hW'
        refine ih _ _ _ hW' ⟨by simpa using hsz', ?_, ?_, ?_, ?_, ?_, ?_⟩ ?_
        · intro j oj hoj hlj e he hb
          change isIn _ _ = true at hlj
          change isIn _ _ = true
          by_cases hji : j = i
          · subst hji
            rw [ho] at hoj; cases hoj
            have := hdeps e he hb
            by_cases hee : e.on = j
            · rw [hee]; exact hnew
            · rw [hother _ hee]; exact this
          · rw [hother j hji] at hlj
            have := hi.closed j oj hoj hlj e he hb
            by_cases hee : e.on = i
            · rw [hee]; exact hnew
            · rw [hother _ hee]; exact this
        · intro j hj
          rw [hother j (by omega)]
          exact hi.tail j hj
        · rw [hd]; exact hi.defers
        · rw [hd]; simp [Act.put, hi.len]
        · intro t j hjm hlj hdj
          rw [hd]
          show (a'.tmps.setIfInBounds d _)[t]? = _
          by_cases htd : t = d
          · subst htd
            rw [Array.getElem?_setIfInBounds_self_of_lt hd2]
            show some (a1.tmps.getD t undef) = _
            rw [Array.getD_eq_getD_getElem?, Array.getElem?_eq_getElem hdl]
            rfl
          · rw [Array.getElem?_setIfInBounds_ne (Ne.symm htd)]
            have hji : j ≠ i := fun e => by subst e; rw [hdi] at hdj; cases hdj; exact htd rfl
            rw [hother j hji] at hlj
            exact hi.done t j hjm hlj hdj
        · intro t hno
          rw [hd]
          show (a'.tmps.setIfInBounds d _)[t]? = _
          have htd : t ≠ d := fun e => hno i him hnew (by rw [hdi, e])
          rw [Array.getElem?_setIfInBounds_ne (Ne.symm htd)]
          exact hi.rest t fun j hjm hlj => by
            by_cases hji : j = i
            · subst hji; rw [hli] at hlj; cases hlj
            · exact hno j hjm (by rw [hother j hji]; exact hlj)
        · have := left_set (n := m) (listed := listed) (i := i)
          have h2 : left m (listed.setIfInBounds i true) + 1 = left m listed := by
            unfold left
            refine (filter_insert (i := i) m him (by simp [hli]) ?_ fun j hj => ?_).symm
            · simp [hnew]
            · rw [hother j hj]
          omega
      unfold wpOpIn
      simp only [ho, hw, if_true, Oper.wpIn, hsem]
      refine ⟨fun f _ => hfn f, ?_⟩
      rcases hrun W hW with h1 | ⟨f, args, h1, h2⟩
      · rw [h1]
        exact next W hW
      · rw [h1]
        refine ⟨fun _ => hn, h2.mono ?_⟩
        rintro e W' ⟨rfl, hb⟩
        exact next W' (hW.trans (hb.mono hW.size))


theorem putsL_filter (l : List (Nat × Value)) (d t : Nat) (ht : t ≠ d) : ∀ tm tm' : Array Value, tm.size = tm'.size → tm[t]? = tm'[t]? → (putsL tm (l.filter fun p => p.1 != d))[t]? = (putsL tm' l)[t]? := by
  induction l with
  | nil => intro tm tm' _ h; exact h
  | cons p l ih =>
    intro tm tm' hs h
    by_cases hp : p.1 = d
    · rw [List.filter_cons_of_neg (by simp [hp])]
      refine ih _ _ (by simpa using hs) ?_
      rw [Array.getElem?_setIfInBounds_ne (by omega)]
      exact h
    · rw [List.filter_cons_of_pos (by simpa using hp)]
      refine ih _ _ (by simpa using hs) ?_
      by_cases hpt : p.1 = t
      · subst hpt
        by_cases hlt : p.1 < tm.size
        · rw [Array.getElem?_setIfInBounds_self_of_lt hlt, Array.getElem?_setIfInBounds_self_of_lt (by omega)]
        · rw [Array.getElem?_eq_none (by simp; omega), Array.getElem?_eq_none (by simp; omega)]
      · rw [Array.getElem?_setIfInBounds_ne hpt, Array.getElem?_setIfInBounds_ne hpt]
        exact h

/-- What has been listed where all of the lead but one has. -/
def ledBut (n m f : Nat) : Array Bool := (ledList n m).setIfInBounds f false

theorem listed_but {listed : Array Bool} {n m f : Nat} (hm : m ≤ n) (hf : f < m) (hs : listed.size = n) (h0 : ∀ i, i < m → i ≠ f → isIn listed i = true) (h1 : isIn listed f = false) (h2 : ∀ i, m ≤ i → isIn listed i = false) : listed = ledBut n m f := by
  have e1 : listed.setIfInBounds f true = ledList n m := by
    refine listed_eq hm (by simpa using hs) (fun i hi => ?_) (fun i hi => ?_)
    · rw [isIn_set (by omega)]
      by_cases hif : i = f
      · subst hif; simp
      · rw [h0 i hi hif]; rfl
    · rw [isIn_set (by omega), h2 i hi]
      simp; omega
  have e2 : listed = (listed.setIfInBounds f true).setIfInBounds f false := by
    apply Array.ext_getElem?
    intro i
    by_cases hif : i = f
    · subst hif
      have hlt : i < listed.size := by omega
      rw [Array.getElem?_setIfInBounds_self_of_lt (by simpa using hlt), Array.getElem?_eq_getElem hlt]
      have := h1
      unfold isIn at this
      simpa [Array.getElem?_eq_getElem hlt] using this
    · rw [Array.getElem?_setIfInBounds_ne (Ne.symm hif), Array.getElem?_setIfInBounds_ne (Ne.symm hif)]
  rw [e2, e1]
  rfl

/-- THE LAW. -/
theorem wpIn_region_grown2 {id : Nat} {l : List Oper} (f df : Nat) (vals : List (Nat × Value)) (hm : P.follows .mixedOrders = true) (hfn : ∀ f, F.fn f) (hn : 1 ≤ n) (hB : growB2 l.toArray m f = true) (hf : f < m)
    (hdf : (l[f]?.bind (·.dst)) = some df)
    (hv : vals.map (fun p => some p.1) = (l.take m).map (·.dst)) (hs : slotsB a.tmps.size (l.take m) = true)
    (hy : ∀ W, Below w.heap.size w W → RunsG F n P { a with tmps := putsL a.tmps vals } W (l.take m))
    (hE : ∀ W, Below w.heap.size w W → wpAnyIn F n P .any l.toArray Q (l.length - m + 1) (ledBut l.length m f) { a with tmps := putsL a.tmps (vals.filter fun p => p.1 != df) } W)
    (hQ : ∀ W, Below w.heap.size w W → wpAnyIn F n P .any l.toArray Q (l.length - m) (ledList l.length m) { a with tmps := putsL a.tmps vals } W) :
    (Code.region id l.toArray true).wpIn F n P Q a w := by
  have hB' := hB
  unfold growB2 at hB'
  simp only [Bool.and_eq_true, List.all_eq_true, List.mem_range, decide_eq_true_eq, Bool.or_eq_true] at hB'
  have hmm : m ≤ l.length := by simpa using hB'.1.1.1
  have huniq := hB'.1.2
  refine wpIn_region_any hm ?_
  have hno : ∀ i, isIn (Array.replicate l.toArray.size false) i = false := fun i => getD_replicate_false _ _
  have hd : Below w.heap.size w w.drew := (Below.refl _ w).drew
  have dst_of : ∀ p ∈ vals, ∃ j, j < m ∧ dstOf l.toArray j = some p.1 := by
    intro p hp
    have h1 : some p.1 ∈ vals.map (fun p => some p.1) := List.mem_map.2 ⟨p, hp, rfl⟩
    rw [hv] at h1
    obtain ⟨o, ho, hd⟩ := List.mem_map.1 h1
    obtain ⟨j, hj⟩ := List.mem_iff_getElem?.1 ho
    have hjm : j < m := by
      have := (List.getElem?_eq_some_iff.1 hj).1
      simp at this; omega
    refine ⟨j, hjm, ?_⟩
    rw [List.getElem?_take, if_pos hjm] at hj
    unfold dstOf
    simp [hj, hd]
  have hdff : dstOf l.toArray f = some df := by unfold dstOf; simpa using hdf
  have := grow_sound2 (F := F) (n := n) (P := P) (Q := Q) (w := w) (a := a) (m := m) (f := f) (ops := l.toArray) (a1 := { a with tmps := putsL a.tmps vals }) (a2 := { a with tmps := putsL a.tmps (vals.filter fun p => p.1 != df) }) hfn hn hB (putsL_size _ _) rfl
    (fun t h => putsL_other vals t _ fun p hp e => by obtain ⟨j, h1, h2⟩ := dst_of p hp; exact h j h1 (by rw [h2, e]))
    (fun i o d hi ho hd => by
      have ho' : (l.take m)[i]? = some o := by
        rw [List.getElem?_take, if_pos hi]
        simpa using ho
      refine ⟨?_, fun W hW => (hy W hW).get i o ho' d hd⟩
      unfold slotsB at hs
      rw [List.all_eq_true] at hs
      have := hs o (List.mem_of_getElem? ho')
      rw [hd] at this
      simpa [putsL_size] using this)
    (fun listed hs h1 h2 W hW => by
      have := listed_eq (n := l.length) hmm (by simpa using hs) h1 h2
      subst this
      simpa using hQ W hW)
    (putsL_size _ _) rfl
    (fun t h => putsL_other _ t _ fun p hp e => by
      obtain ⟨hp1, hp2⟩ := List.mem_filter.1 hp
      obtain ⟨j, h1, h2⟩ := dst_of p hp1
      refine h j h1 (fun e' => ?_) (by rw [h2, e])
      subst e'
      rw [hdff] at h2
      cases h2
      simp at hp2)
    (fun t j hj hjf hdj => by
      refine putsL_filter vals df t (fun e => ?_) _ _ rfl rfl
      subst e
      have h1 := huniq j hj
      obtain ⟨oj, hoj, hdo⟩ : ∃ o, l.toArray[j]? = some o ∧ o.dst = some t := by
        unfold dstOf at hdj
        cases ho : l.toArray[j]? with
        | none => rw [ho] at hdj; cases hdj
        | some o => rw [ho] at hdj; exact ⟨o, rfl, hdj⟩
      rw [hoj] at h1
      simp only [Bool.and_eq_true, List.all_eq_true, List.mem_range] at h1
      have h2 := h1.2 f hf
      rw [hdff] at h2
      simp only [Bool.and_eq_true, Bool.or_eq_true, beq_iff_eq, Bool.not_eq_true'] at h2
      rcases h2.1 with h3 | h3
      · exact hjf h3
      · rw [hdo] at h3; simp at h3)
    (fun listed hs h0 h1 h2 W hW => by
      have := listed_but (n := l.length) hmm hf (by simpa using hs) h0 h1 h2
      subst this
      simpa using hE W hW)
    hf m (Array.replicate l.toArray.size false) a w.drew hd
    ⟨by simp, fun j oj _ hl => (by rw [getD_replicate_false] at hl; cases hl), fun i _ => hno i, rfl, rfl, fun t j _ hl => (by rw [hno] at hl; cases hl), fun t _ => rfl⟩
    (by unfold left; rw [List.filter_eq_self.2 (fun i _ => by rw [hno]; rfl)]; simp)
  have e : l.toArray.size - m + m = l.toArray.size := by simp; omega
  rw [e] at this
  exact this

end Go.Abs
