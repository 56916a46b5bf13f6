/- The abstract machine, part QC. -/
import Derived.Test.YtpknllbglppjcaaAbsC
/- A region that draws its order, in a fence: what leads up to its end only reads; the end comes last in every order. -/
namespace Go.Abs
open Go Go.RowKit

/-- An operation that is about to make no call and waits for nothing. -/
def plainOp (o : Oper) : Bool :=
  match o.op with
  | .call _ | .select .. => false
  | _ => true

def leadB (ops : Array Oper) (m : Nat) : Bool :=
  let A := ancs ops.toList []
  decide (m ≤ ops.size) &&
  ((List.range ops.size).all fun i => match ops[i]? with
    | none => true
    | some o => o.after.toList.all fun e => !Region.binds .any e || decide (e.on < i)) &&
  ((List.range m).all fun i => match ops[i]? with
    | none => true
    | some o => o.guard.isNone && plainOp o && o.dst.isSome && ((List.range m).all fun j => match dstOf ops j with
        | none => true
        | some t => (i == j || !(o.dst == some t)) && (!(reads ops o).contains t || ancA A i j))) &&
  ((List.range ops.size).all fun k => decide (k < m) || ((List.range m).all fun j => ancA A k j))

theorem about_plain {P : Program} {o : Oper} (h : plainOp o = true) (w : World) (ρ : Operand → Value) : o.about P w ρ = none := by
  unfold plainOp at h
  unfold Oper.about
  cases ho : o.op <;> first | rfl | (rw [ho] at h; cases h)

structure Lead (ops : Array Oper) (m : Nat) (a a1 a' : Act) (listed : Array Bool) : Prop where
  size : listed.size = ops.size
  closed : Closed ops listed
  tail : ∀ i, m ≤ i → isIn listed i = false
  defers : a'.defers = a.defers
  len : a'.tmps.size = a.tmps.size
  done : ∀ t j, j < m → isIn listed j = true → dstOf ops j = some t → a'.tmps[t]? = a1.tmps[t]?
  rest : ∀ t, (∀ j, j < m → isIn listed j = true → dstOf ops j ≠ some t) → a'.tmps[t]? = a.tmps[t]?

variable {F : Fence} {n m : Nat} {P : Program} {ops : Array Oper} {Q : Exit → Act → World → Prop} {a a1 : Act} {w : World}

theorem lead_sound (hro : F.round = none) (hB : leadB ops m = true) (hsz : a1.tmps.size = a.tmps.size) (hdf : a1.defers = a.defers)
    (hkeep : ∀ t, (∀ j, j < m → dstOf ops j ≠ some t) → a1.tmps[t]? = a.tmps[t]?)
    (hy : ∀ i o d, i < m → ops[i]? = some o → o.dst = some d → (execOp a1.eval o).run P w = .ok (.value (a1.eval (.tmp d))) w ∧ d < a1.tmps.size)
    (hQ : ∀ listed : Array Bool, listed.size = ops.size → (∀ i, i < m → isIn listed i = true) → (∀ i, m ≤ i → isIn listed i = false) → wpAnyIn F n P .any ops Q (ops.size - m) listed a1 w) :
    ∀ (k : Nat) (listed : Array Bool) (a' : Act), Lead ops m a a1 a' listed → left m listed = k → wpAnyIn F n P .any ops Q (ops.size - m + k) listed a' w := by
  unfold leadB at hB
  simp only [Bool.and_eq_true, List.all_eq_true, List.mem_range, decide_eq_true_eq, Bool.or_eq_true] at hB
  obtain ⟨⟨⟨hm, hback⟩, hpre⟩, htail⟩ := hB
  intro k
  induction k with
  | zero =>
    intro listed a' hi hl
    have hall := left_zero hl
    have : a' = a1 := by
      have ht : a'.tmps = a1.tmps := by
        apply Array.ext_getElem?
        intro t
        by_cases h : ∃ j, j < m ∧ dstOf ops j = some t
        · obtain ⟨j, h1, h2⟩ := h
          exact hi.done t j h1 (hall j h1) h2
        · rw [hkeep t (fun j hj e => h ⟨j, hj, e⟩), hi.rest t (fun j hj _ e => h ⟨j, hj, e⟩)]
      obtain ⟨t1, d1⟩ := a'
      obtain ⟨t2, d2⟩ := a1
      simp only at ht
      have hd : d1 = d2 := hi.defers.trans hdf.symm
      rw [ht, hd]
    subst this
    exact hQ listed hi.size hall hi.tail
  | succ k ih =>
    intro listed a' hi hl
    have hsz' := hi.size
    refine ⟨fun hnil => ?_, fun i hir => ?_⟩
    · exfalso
      -- the first that is not listed is ready
      have hall : ∀ i, i < m → isIn listed i = true := by
        intro i
        induction i using Nat.strongRecOn with
        | _ i ih2 =>
          intro him
          cases hli : isIn listed i with
          | true => rfl
          | false =>
            exfalso
            have hin : i < ops.size := by omega
            obtain ⟨o, ho⟩ : ∃ o, ops[i]? = some o := ⟨ops[i], by simp [hin]⟩
            have : i ∈ Region.ready .any ops listed := by
              rw [mem_ready]
              refine ⟨getD_in (by omega) hli, o, ho, fun e he hb => ?_⟩
              have h1 := hback i hin
              rw [ho] at h1
              simp only [List.all_eq_true] at h1
              have h2 := h1 e (by simpa using he)
              simp only [hb, Bool.not_true, Bool.false_or, decide_eq_true_eq] at h2
              exact ih2 e.on h2 (by omega)
            rw [hnil] at this
            cases this
      have : left m listed = 0 := by
        unfold left
        rw [List.length_eq_zero_iff, List.filter_eq_nil_iff]
        intro i hi2
        simp [hall i (List.mem_range.1 hi2)]
      omega
    · obtain ⟨hun, o, ho, hdeps⟩ := mem_ready.1 hir
      have hin := (Array.getElem?_eq_some_iff.1 ho).1
      have hli : isIn listed i = false := getD_both hun
      have up : ∀ j, anc ops i j = true → isIn listed j = true := fun j hj => anc_listed hi.closed i j hj (fun o' ho' e he hb => by
        rw [ho] at ho'; cases ho'; exact hdeps e he hb)
      have him : i < m := by
        rcases Nat.lt_or_ge i m with h | h
        · exact h
        · exfalso
          have hall : ∀ j, j < m → isIn listed j = true := by
            intro j hj
            rcases htail i hin with h1 | h1
            · omega
            · exact up j (h1 j hj)
          have : left m listed = 0 := by
            unfold left
            rw [List.length_eq_zero_iff, List.filter_eq_nil_iff]
            intro j hj
            simp [hall j (List.mem_range.1 hj)]
          omega
      have hp := hpre i him
      rw [ho] at hp
      simp only [Bool.and_eq_true, List.all_eq_true, List.mem_range, Option.isNone_iff_eq_none] at hp
      obtain ⟨⟨⟨hg, hpl⟩, hds⟩, hj⟩ := hp
      obtain ⟨d, hd⟩ := Option.isSome_iff_exists.1 hds
      have hdi : dstOf ops i = some d := by unfold dstOf; rw [ho]; exact hd
      have agree : ∀ t, t ∈ reads ops o → a'.tmps[t]? = a1.tmps[t]? := by
        intro t ht
        by_cases h : ∃ j, j < m ∧ dstOf ops j = some t
        · obtain ⟨j, h1, h2⟩ := h
          have h3 := hj j h1
          rw [h2] at h3
          simp only [Bool.and_eq_true, Bool.or_eq_true, Bool.not_eq_true', List.contains_eq_mem, decide_eq_false_iff_not] at h3
          rcases h3.2 with h4 | h4
          · exact absurd ht h4
          · exact hi.done t j h1 (up j h4) h2
        · rw [hkeep t (fun j hj e => h ⟨j, hj, e⟩), hi.rest t (fun j hj _ e => h ⟨j, hj, e⟩)]
      have hev : ∀ x ∈ o.op.operands, a'.eval x = a1.eval x := by
        intro x hx
        cases x with
        | tmp t =>
          have := agree t (by unfold reads; exact List.mem_append_left _ (List.mem_filterMap.2 ⟨.tmp t, by simpa using hx, rfl⟩))
          show a'.tmps.getD t undef = a1.tmps.getD t undef
          simp only [Array.getD_eq_getD_getElem?, this]
        | _ => rfl
      have hex : execOp a'.eval o = execOp a1.eval o := execOp_congr o (fun cs b he => by unfold plainOp at hpl; rw [he] at hpl; cases hpl) hev
      obtain ⟨hrun, hdl⟩ := hy i o d him ho hd
      have hw : Region.wanted o (yielded ops a'.tmps) = true := by unfold Region.wanted; rw [hg]
      unfold wpOpIn
      simp only [ho]
      have hab : ∀ f, o.about P w a'.eval = some f → F.fn f := fun f hf => by rw [about_plain hpl] at hf; cases hf
      simp only [hw, if_true, Oper.wpIn, hro, Oper.semAt_none, hex, hrun, Oper.uponIn]
      refine ⟨hab, ?_⟩
      have hnew : isIn (listed.setIfInBounds i true) i = true := by rw [isIn_set (by omega)]; simp
      have hother : ∀ j, j ≠ i → isIn (listed.setIfInBounds i true) j = isIn listed j := fun j hj => by
        rw [isIn_set (by omega)]
        have : (j == i) = false := by simpa using hj
        rw [this, Bool.or_false]
      have hd2 : d < a'.tmps.size := by rw [hi.len, ← hsz]; exact hdl
      refine ih _ _ ⟨by simpa using hsz', ?_, ?_, ?_, ?_, ?_, ?_⟩ ?_
      · intro j oj hoj hlj e he hb
        change isIn _ _ = true at hlj
        change isIn _ _ = true
        by_cases hji : j = i
        · subst hji
          rw [ho] at hoj; cases hoj
          have := hdeps e he hb
          by_cases hee : e.on = j
          · rw [hee]; exact hnew
          · rw [hother _ hee]; exact this
        · rw [hother j hji] at hlj
          have := hi.closed j oj hoj hlj e he hb
          by_cases hee : e.on = i
          · rw [hee]; exact hnew
          · rw [hother _ hee]; exact this
      · intro j hj
        rw [hother j (by omega)]
        exact hi.tail j hj
      · rw [hd]; exact hi.defers
      · rw [hd]; simp [Act.put, hi.len]
      · intro t j hjm hlj hdj
        rw [hd]
        show (a'.tmps.setIfInBounds d _)[t]? = _
        by_cases htd : t = d
        · subst htd
          rw [Array.getElem?_setIfInBounds_self_of_lt hd2]
          show some (a1.tmps.getD t undef) = _
          rw [Array.getD_eq_getD_getElem?, Array.getElem?_eq_getElem hdl]
          rfl
        · rw [Array.getElem?_setIfInBounds_ne (Ne.symm htd)]
          have hji : j ≠ i := fun e => by subst e; rw [hdi] at hdj; cases hdj; exact htd rfl
          rw [hother j hji] at hlj
          exact hi.done t j hjm hlj hdj
      · intro t hno
        rw [hd]
        show (a'.tmps.setIfInBounds d _)[t]? = _
        have htd : t ≠ d := fun e => hno i him hnew (by rw [hdi, e])
        rw [Array.getElem?_setIfInBounds_ne (Ne.symm htd)]
        exact hi.rest t fun j hjm hlj => by
          by_cases hji : j = i
          · subst hji; rw [hli] at hlj; cases hlj
          · exact hno j hjm (by rw [hother j hji]; exact hlj)
      · have := left_set (n := m) (listed := listed) (i := i)
        have h2 : left m (listed.setIfInBounds i true) + 1 = left m listed := by
          unfold left
          refine (filter_insert (i := i) m him (by simp [hli]) ?_ fun j hj => ?_).symm
          · simp [hnew]
          · rw [hother j hj]
        omega

/-- THE LAW. -/
theorem wpIn_region_lead {id : Nat} (hm : P.follows .mixedOrders = true) (hro : F.round = none) (hB : leadB ops m = true) (hsz : a1.tmps.size = a.tmps.size) (hdf : a1.defers = a.defers)
    (hkeep : ∀ t, (∀ j, j < m → dstOf ops j ≠ some t) → a1.tmps[t]? = a.tmps[t]?)
    (hy : ∀ i o d, i < m → ops[i]? = some o → o.dst = some d → (execOp a1.eval o).run P w.drew = .ok (.value (a1.eval (.tmp d))) w.drew ∧ d < a1.tmps.size)
    (hQ : ∀ listed : Array Bool, listed.size = ops.size → (∀ i, i < m → isIn listed i = true) → (∀ i, m ≤ i → isIn listed i = false) → wpAnyIn F n P .any ops Q (ops.size - m) listed a1 w.drew) :
    (Code.region id ops true).wpIn F n P Q a w := by
  have hmm : m ≤ ops.size := by
    unfold leadB at hB
    simp only [Bool.and_eq_true, decide_eq_true_eq] at hB
    exact hB.1.1.1
  refine wpIn_region_any hm ?_
  have hno : ∀ i, isIn (Array.replicate ops.size false) i = false := fun i => getD_replicate_false _ _
  have := lead_sound (F := F) (n := n) (P := P) (Q := Q) (w := w.drew) hro hB hsz hdf hkeep hy hQ m (Array.replicate ops.size false) a
    ⟨by simp, fun j oj _ hl => (by rw [getD_replicate_false] at hl; cases hl), fun i _ => hno i, rfl, rfl, fun t j _ hl => (by rw [hno] at hl; cases hl), fun t _ => rfl⟩
    (by unfold left; rw [List.filter_eq_self.2 (fun i _ => by simp [hno])]; simp)
  have e : ops.size - m + m = ops.size := by omega
  rw [e] at this
  exact this

end Go.Abs

/- The law on regions with a lead, told by a list of slots and values. -/
namespace Go.Abs
open Go Go.RowKit

variable {F : Fence} {n m : Nat} {P : Program} {ops : Array Oper} {Q : Exit → Act → World → Prop} {a a1 : Act} {w : World}

/-- Each operation yields what the frame holds in its slot. -/
def Runs (P : Program) (a1 : Act) (w : World) : List Oper → Prop
  | [] => True
  | o :: l => (∀ d, o.dst = some d → (execOp a1.eval o).run P w = .ok (.value (a1.eval (.tmp d))) w ∧ d < a1.tmps.size) ∧ Runs P a1 w l

theorem Runs.get : ∀ {l : List Oper}, Runs P a1 w l → ∀ (i : Nat) (o : Oper), l[i]? = some o → ∀ d, o.dst = some d → (execOp a1.eval o).run P w = .ok (.value (a1.eval (.tmp d))) w ∧ d < a1.tmps.size
  | [], _, i, o, h => by simp at h
  | o' :: l, hr, 0, o, h => by simp at h; subst h; exact hr.1
  | o' :: l, hr, i + 1, o, h => hr.2.get i o (by simpa using h)

def putsL (tm : Array Value) : List (Nat × Value) → Array Value
  | [] => tm
  | (t, v) :: l => putsL (tm.setIfInBounds t v) l

theorem putsL_size (l : List (Nat × Value)) : ∀ tm : Array Value, (putsL tm l).size = tm.size := by
  induction l with
  | nil => intro tm; rfl
  | cons p l ih => intro tm; rw [show putsL tm (p :: l) = putsL (tm.setIfInBounds p.1 p.2) l from rfl, ih]; simp

theorem putsL_other (l : List (Nat × Value)) (t : Nat) : ∀ tm : Array Value, (∀ p ∈ l, p.1 ≠ t) → (putsL tm l)[t]? = tm[t]? := by
  induction l with
  | nil => intro tm _; rfl
  | cons p l ih =>
    intro tm h
    rw [show putsL tm (p :: l) = putsL (tm.setIfInBounds p.1 p.2) l from rfl, ih _ (fun q hq => h q (by simp [hq])), Array.getElem?_setIfInBounds_ne (h p (by simp))]

/-- The list of what is listed, once all of the lead is. -/
def ledList (n m : Nat) : Array Bool := (List.replicate m true ++ List.replicate (n - m) false).toArray

theorem listed_eq {listed : Array Bool} {n m : Nat} (hm : m ≤ n) (hs : listed.size = n) (h1 : ∀ i, i < m → isIn listed i = true) (h2 : ∀ i, m ≤ i → isIn listed i = false) : listed = ledList n m := by
  apply Array.ext_getElem?
  intro i
  unfold ledList
  have e0 : (List.replicate m true ++ List.replicate (n - m) false).toArray[i]? = (List.replicate m true ++ List.replicate (n - m) false)[i]? := List.getElem?_toArray ..
  rw [e0]
  by_cases hl : i < n
  · have e1 : listed[i]? = some (listed.getD i false) := by simp [Array.getD_eq_getD_getElem?, show i < listed.size by omega]
    rw [e1]
    by_cases him : i < m
    · have := h1 i him
      unfold isIn at this
      rw [this, List.getElem?_append_left (by simpa using him)]
      simp [him]
    · have := h2 i (by omega)
      unfold isIn at this
      rw [this, List.getElem?_append_right (by simp; omega), List.length_replicate, List.getElem?_replicate, if_pos (by omega)]
  · rw [Array.getElem?_eq_none (by omega), List.getElem?_eq_none (by simp; omega)]

theorem wpIn_region_led {id : Nat} {l : List Oper} (vals : List (Nat × Value)) (hm : P.follows .mixedOrders = true) (hro : F.round = none) (hB : leadB l.toArray m = true)
    (hv : vals.map (fun p => some p.1) = (l.take m).map (·.dst))
    (hy : Runs P { a with tmps := putsL a.tmps vals } w.drew (l.take m))
    (hQ : wpAnyIn F n P .any l.toArray Q (l.length - m) (ledList l.length m) { a with tmps := putsL a.tmps vals } w.drew) :
    (Code.region id l.toArray true).wpIn F n P Q a w := by
  have hmm : m ≤ l.length := by
    unfold leadB at hB
    simp only [Bool.and_eq_true, decide_eq_true_eq] at hB
    simpa using hB.1.1.1
  refine wpIn_region_lead (a1 := { a with tmps := putsL a.tmps vals }) hm hro hB (putsL_size _ _) rfl ?_ ?_ ?_
  · intro t h
    refine putsL_other vals t _ fun p hp e => ?_
    have h1 : some p.1 ∈ vals.map (fun p => some p.1) := List.mem_map.2 ⟨p, hp, rfl⟩
    rw [hv] at h1
    obtain ⟨o, ho, hd⟩ := List.mem_map.1 h1
    obtain ⟨j, hj⟩ := List.mem_iff_getElem?.1 ho
    have hjm : j < m := by
      have := (List.getElem?_eq_some_iff.1 hj).1
      simp at this; omega
    refine h j hjm ?_
    rw [List.getElem?_take, if_pos hjm] at hj
    unfold dstOf
    simp [hj, hd, e]
  · intro i o d hi ho hd
    refine hy.get i o ?_ d hd
    rw [List.getElem?_take, if_pos hi]
    simpa using ho
  · intro listed hs h1 h2
    have := listed_eq (n := l.length) hmm (by simpa using hs) h1 h2
    subst this
    simpa using hQ

end Go.Abs
