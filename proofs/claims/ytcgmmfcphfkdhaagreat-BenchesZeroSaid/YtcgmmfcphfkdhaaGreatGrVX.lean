/- The abstract machine, part GrVX. -/
import Derived.Test.YtcgmmfcphfkdhaaGreatGrAbsC
import Derived.OwnWalkIn
import Derived.RegionTactic
/- A region that draws its order, in a fence: what leads up to its end only reads; the end comes last in every order. -/
namespace Go.Abs
open Go Go.RowKit

/-- An operation that is about to make no call and waits for nothing. -/
def plainOp (o : Oper) : Bool :=
  match o.op with
  | .call _ | .select .. => false
  | _ => true

def leadB (ops : Array Oper) (m : Nat) : Bool :=
  let A := ancs ops.toList []
  decide (m ≤ ops.size) &&
  ((List.range ops.size).all fun i => match ops[i]? with
    | none => true
    | some o => o.after.toList.all fun e => !Region.binds .any e || decide (e.on < i)) &&
  ((List.range m).all fun i => match ops[i]? with
    | none => true
    | some o => o.guard.isNone && plainOp o && o.dst.isSome && ((List.range m).all fun j => match dstOf ops j with
        | none => true
        | some t => (i == j || !(o.dst == some t)) && (!(reads ops o).contains t || ancA A i j))) &&
  ((List.range ops.size).all fun k => decide (k < m) || ((List.range m).all fun j => ancA A k j))

theorem about_plain {P : Program} {o : Oper} (h : plainOp o = true) (w : World) (ρ : Operand → Value) : o.about P w ρ = none := by
  unfold plainOp at h
  unfold Oper.about
  cases ho : o.op <;> first | rfl | (rw [ho] at h; cases h)

structure Lead (ops : Array Oper) (m : Nat) (a a1 a' : Act) (listed : Array Bool) : Prop where
  size : listed.size = ops.size
  closed : Closed ops listed
  tail : ∀ i, m ≤ i → isIn listed i = false
  defers : a'.defers = a.defers
  len : a'.tmps.size = a.tmps.size
  done : ∀ t j, j < m → isIn listed j = true → dstOf ops j = some t → a'.tmps[t]? = a1.tmps[t]?
  rest : ∀ t, (∀ j, j < m → isIn listed j = true → dstOf ops j ≠ some t) → a'.tmps[t]? = a.tmps[t]?

variable {F : Fence} {n m : Nat} {P : Program} {ops : Array Oper} {Q : Exit → Act → World → Prop} {a a1 : Act} {w : World}

theorem lead_sound (hro : F.round = none) (hB : leadB ops m = true) (hsz : a1.tmps.size = a.tmps.size) (hdf : a1.defers = a.defers)
    (hkeep : ∀ t, (∀ j, j < m → dstOf ops j ≠ some t) → a1.tmps[t]? = a.tmps[t]?)
    (hy : ∀ i o d, i < m → ops[i]? = some o → o.dst = some d → (execOp a1.eval o).run P w = .ok (.value (a1.eval (.tmp d))) w ∧ d < a1.tmps.size)
    (hQ : ∀ listed : Array Bool, listed.size = ops.size → (∀ i, i < m → isIn listed i = true) → (∀ i, m ≤ i → isIn listed i = false) → wpAnyIn F n P .any ops Q (ops.size - m) listed a1 w) :
    ∀ (k : Nat) (listed : Array Bool) (a' : Act), Lead ops m a a1 a' listed → left m listed = k → wpAnyIn F n P .any ops Q (ops.size - m + k) listed a' w := by
  unfold leadB at hB
  simp only [Bool.and_eq_true, List.all_eq_true, List.mem_range, decide_eq_true_eq, Bool.or_eq_true] at hB
  obtain ⟨⟨⟨hm, hback⟩, hpre⟩, htail⟩ := hB
  intro k
  induction k with
  | zero =>
    intro listed a' hi hl
    have hall := left_zero hl
    have : a' = a1 := by
      have ht : a'.tmps = a1.tmps := by
        apply Array.ext_getElem?
        intro t
        by_cases h : ∃ j, j < m ∧ dstOf ops j = some t
        · obtain ⟨j, h1, h2⟩ := h
          exact hi.done t j h1 (hall j h1) h2
        · rw [hkeep t (fun j hj e => h ⟨j, hj, e⟩), hi.rest t (fun j hj _ e => h ⟨j, hj, e⟩)]
      obtain ⟨t1, d1⟩ := a'
      obtain ⟨t2, d2⟩ := a1
      simp only at ht
      have hd : d1 = d2 := hi.defers.trans hdf.symm
      rw [ht, hd]
    subst this
    exact hQ listed hi.size hall hi.tail
  | succ k ih =>
    intro listed a' hi hl
    have hsz' := hi.size
    refine ⟨fun hnil => ?_, fun i hir => ?_⟩
    · exfalso
      -- the first that is not listed is ready
      have hall : ∀ i, i < m → isIn listed i = true := by
        intro i
        induction i using Nat.strongRecOn with
        | _ i ih2 =>
          intro him
          cases hli : isIn listed i with
          | true => rfl
          | false =>
            exfalso
            have hin : i < ops.size := by omega
            obtain ⟨o, ho⟩ : ∃ o, ops[i]? = some o := ⟨ops[i], by simp [hin]⟩
            have : i ∈ Region.ready .any ops listed := by
              rw [mem_ready]
              refine ⟨getD_in (by omega) hli, o, ho, fun e he hb => ?_⟩
              have h1 := hback i hin
              rw [ho] at h1
              simp only [List.all_eq_true] at h1
              have h2 := h1 e (by simpa using he)
              simp only [hb, Bool.not_true, Bool.false_or, decide_eq_true_eq] at h2
              exact ih2 e.on h2 (by omega)
            rw [hnil] at this
            cases this
      have : left m listed = 0 := by
        unfold left
        rw [List.length_eq_zero_iff, List.filter_eq_nil_iff]
        intro i hi2
        simp [hall i (List.mem_range.1 hi2)]
      omega
    · obtain ⟨hun, o, ho, hdeps⟩ := mem_ready.1 hir
      have hin := (Array.getElem?_eq_some_iff.1 ho).1
      have hli : isIn listed i = false := getD_both hun
      have up : ∀ j, anc ops i j = true → isIn listed j = true := fun j hj => anc_listed hi.closed i j hj (fun o' ho' e he hb => by
        rw [ho] at ho'; cases ho'; exact hdeps e he hb)
      have him : i < m := by
        rcases Nat.lt_or_ge i m with h | h
        · exact h
        · exfalso
          have hall : ∀ j, j < m → isIn listed j = true := by
            intro j hj
            rcases htail i hin with h1 | h1
            · omega
            · exact up j (h1 j hj)
          have : left m listed = 0 := by
            unfold left
            rw [List.length_eq_zero_iff, List.filter_eq_nil_iff]
            intro j hj
            simp [hall j (List.mem_range.1 hj)]
          omega
      have hp := hpre i him
      rw [ho] at hp
      simp only [Bool.and_eq_true, List.all_eq_true, List.mem_range, Option.isNone_iff_eq_none] at hp
      obtain ⟨⟨⟨hg, hpl⟩, hds⟩, hj⟩ := hp
      obtain ⟨d, hd⟩ := Option.isSome_iff_exists.1 hds
      have hdi : dstOf ops i = some d := by unfold dstOf; rw [ho]; exact hd
      have agree : ∀ t, t ∈ reads ops o → a'.tmps[t]? = a1.tmps[t]? := by
        intro t ht
        by_cases h : ∃ j, j < m ∧ dstOf ops j = some t
        · obtain ⟨j, h1, h2⟩ := h
          have h3 := hj j h1
          rw [h2] at h3
          simp only [Bool.and_eq_true, Bool.or_eq_true, Bool.not_eq_true', List.contains_eq_mem, decide_eq_false_iff_not] at h3
          rcases h3.2 with h4 | h4
          · exact absurd ht h4
          · exact hi.done t j h1 (up j h4) h2
        · rw [hkeep t (fun j hj e => h ⟨j, hj, e⟩), hi.rest t (fun j hj _ e => h ⟨j, hj, e⟩)]
      have hev : ∀ x ∈ o.op.operands, a'.eval x = a1.eval x := by
        intro x hx
        cases x with
        | tmp t =>
          have := agree t (by unfold reads; exact List.mem_append_left _ (List.mem_filterMap.2 ⟨.tmp t, by simpa using hx, rfl⟩))
          show a'.tmps.getD t undef = a1.tmps.getD t undef
          simp only [Array.getD_eq_getD_getElem?, this]
        | _ => rfl
      have hex : execOp a'.eval o = execOp a1.eval o := execOp_congr o (fun cs b he => by unfold plainOp at hpl; rw [he] at hpl; cases hpl) hev
      obtain ⟨hrun, hdl⟩ := hy i o d him ho hd
      have hw : Region.wanted o (yielded ops a'.tmps) = true := by unfold Region.wanted; rw [hg]
      unfold wpOpIn
      simp only [ho]
      have hab : ∀ f, o.about P w a'.eval = some f → F.fn f := fun f hf => by rw [about_plain hpl] at hf; cases hf
      simp only [hw, if_true, Oper.wpIn, hro, Oper.semAt_none, hex, hrun, Oper.uponIn]
      refine ⟨hab, ?_⟩
      have hnew : isIn (listed.setIfInBounds i true) i = true := by rw [isIn_set (by omega)]; simp
      have hother : ∀ j, j ≠ i → isIn (listed.setIfInBounds i true) j = isIn listed j := fun j hj => by
        rw [isIn_set (by omega)]
        have : (j == i) = false := by simpa using hj
        rw [this, Bool.or_false]
      have hd2 : d < a'.tmps.size := by rw [hi.len, ← hsz]; exact hdl
      refine ih _ _ ⟨by simpa using hsz', ?_, ?_, ?_, ?_, ?_, ?_⟩ ?_
      · intro j oj hoj hlj e he hb
        change isIn _ _ = true at hlj
        change isIn _ _ = true
        by_cases hji : j = i
        · subst hji
          rw [ho] at hoj; cases hoj
          have := hdeps e he hb
          by_cases hee : e.on = j
          · rw [hee]; exact hnew
          · rw [hother _ hee]; exact this
        · rw [hother j hji] at hlj
          have := hi.closed j oj hoj hlj e he hb
          by_cases hee : e.on = i
          · rw [hee]; exact hnew
          · rw [hother _ hee]; exact this
      · intro j hj
        rw [hother j (by omega)]
        exact hi.tail j hj
      · rw [hd]; exact hi.defers
      · rw [hd]; simp [Act.put, hi.len]
      · intro t j hjm hlj hdj
        rw [hd]
        show (a'.tmps.setIfInBounds d _)[t]? = _
        by_cases htd : t = d
        · subst htd
          rw [Array.getElem?_setIfInBounds_self_of_lt hd2]
          show some (a1.tmps.getD t undef) = _
          rw [Array.getD_eq_getD_getElem?, Array.getElem?_eq_getElem hdl]
          rfl
        · rw [Array.getElem?_setIfInBounds_ne (Ne.symm htd)]
          have hji : j ≠ i := fun e => by subst e; rw [hdi] at hdj; cases hdj; exact htd rfl
          rw [hother j hji] at hlj
          exact hi.done t j hjm hlj hdj
      · intro t hno
        rw [hd]
        show (a'.tmps.setIfInBounds d _)[t]? = _
        have htd : t ≠ d := fun e => hno i him hnew (by rw [hdi, e])
        rw [Array.getElem?_setIfInBounds_ne (Ne.symm htd)]
        exact hi.rest t fun j hjm hlj => by
          by_cases hji : j = i
          · subst hji; rw [hli] at hlj; cases hlj
          · exact hno j hjm (by rw [hother j hji]; exact hlj)
      · have := left_set (n := m) (listed := listed) (i := i)
        have h2 : left m (listed.setIfInBounds i true) + 1 = left m listed := by
          unfold left
          refine (filter_insert (i := i) m him (by simp [hli]) ?_ fun j hj => ?_).symm
          · simp [hnew]
          · rw [hother j hj]
        omega

/-- THE LAW. -/
theorem wpIn_region_lead {id : Nat} (hm : P.follows .mixedOrders = true) (hro : F.round = none) (hB : leadB ops m = true) (hsz : a1.tmps.size = a.tmps.size) (hdf : a1.defers = a.defers)
    (hkeep : ∀ t, (∀ j, j < m → dstOf ops j ≠ some t) → a1.tmps[t]? = a.tmps[t]?)
    (hy : ∀ i o d, i < m → ops[i]? = some o → o.dst = some d → (execOp a1.eval o).run P w.drew = .ok (.value (a1.eval (.tmp d))) w.drew ∧ d < a1.tmps.size)
    (hQ : ∀ listed : Array Bool, listed.size = ops.size → (∀ i, i < m → isIn listed i = true) → (∀ i, m ≤ i → isIn listed i = false) → wpAnyIn F n P .any ops Q (ops.size - m) listed a1 w.drew) :
    (Code.region id ops true).wpIn F n P Q a w := by
  have hmm : m ≤ ops.size := by
    unfold leadB at hB
    simp only [Bool.and_eq_true, decide_eq_true_eq] at hB
    exact hB.1.1.1
  refine wpIn_region_any hm ?_
  have hno : ∀ i, isIn (Array.replicate ops.size false) i = false := fun i => getD_replicate_false _ _
  have := lead_sound (F := F) (n := n) (P := P) (Q := Q) (w := w.drew) hro hB hsz hdf hkeep hy hQ m (Array.replicate ops.size false) a
    ⟨by simp, fun j oj _ hl => (by rw [getD_replicate_false] at hl; cases hl), fun i _ => hno i, rfl, rfl, fun t j _ hl => (by rw [hno] at hl; cases hl), fun t _ => rfl⟩
    (by unfold left; rw [List.filter_eq_self.2 (fun i _ => by simp [hno])]; simp)
  have e : ops.size - m + m = ops.size := by omega
  rw [e] at this
  exact this

end Go.Abs

/- The law on regions with a lead, told by a list of slots and values. -/
namespace Go.Abs
open Go Go.RowKit

variable {F : Fence} {n m : Nat} {P : Program} {ops : Array Oper} {Q : Exit → Act → World → Prop} {a a1 : Act} {w : World}

/-- Each operation yields what the frame holds in its slot. -/
def Runs (P : Program) (a1 : Act) (w : World) : List Oper → Prop
  | [] => True
  | o :: l => (∀ d, o.dst = some d → (execOp a1.eval o).run P w = .ok (.value (a1.eval (.tmp d))) w ∧ d < a1.tmps.size) ∧ Runs P a1 w l

theorem Runs.get : ∀ {l : List Oper}, Runs P a1 w l → ∀ (i : Nat) (o : Oper), l[i]? = some o → ∀ d, o.dst = some d → (execOp a1.eval o).run P w = .ok (.value (a1.eval (.tmp d))) w ∧ d < a1.tmps.size
  | [], _, i, o, h => by simp at h
  | o' :: l, hr, 0, o, h => by simp at h; subst h; exact hr.1
  | o' :: l, hr, i + 1, o, h => hr.2.get i o (by simpa using h)

def putsL (tm : Array Value) : List (Nat × Value) → Array Value
  | [] => tm
  | (t, v) :: l => putsL (tm.setIfInBounds t v) l

theorem putsL_size (l : List (Nat × Value)) : ∀ tm : Array Value, (putsL tm l).size = tm.size := by
  induction l with
  | nil => intro tm; rfl
  | cons p l ih => intro tm; rw [show putsL tm (p :: l) = putsL (tm.setIfInBounds p.1 p.2) l from rfl, ih]; simp

theorem putsL_other (l : List (Nat × Value)) (t : Nat) : ∀ tm : Array Value, (∀ p ∈ l, p.1 ≠ t) → (putsL tm l)[t]? = tm[t]? := by
  induction l with
  | nil => intro tm _; rfl
  | cons p l ih =>
    intro tm h
    rw [show putsL tm (p :: l) = putsL (tm.setIfInBounds p.1 p.2) l from rfl, ih _ (fun q hq => h q (by simp [hq])), Array.getElem?_setIfInBounds_ne (h p (by simp))]

/-- The list of what is listed, once all of the lead is. -/
def ledList (n m : Nat) : Array Bool := (List.replicate m true ++ List.replicate (n - m) false).toArray

theorem listed_eq {listed : Array Bool} {n m : Nat} (hm : m ≤ n) (hs : listed.size = n) (h1 : ∀ i, i < m → isIn listed i = true) (h2 : ∀ i, m ≤ i → isIn listed i = false) : listed = ledList n m := by
  apply Array.ext_getElem?
  intro i
  unfold ledList
  have e0 : (List.replicate m true ++ List.replicate (n - m) false).toArray[i]? = (List.replicate m true ++ List.replicate (n - m) false)[i]? := List.getElem?_toArray ..
  rw [e0]
  by_cases hl : i < n
  · have e1 : listed[i]? = some (listed.getD i false) := by simp [Array.getD_eq_getD_getElem?, show i < listed.size by omega]
    rw [e1]
    by_cases him : i < m
    · have := h1 i him
      unfold isIn at this
      rw [this, List.getElem?_append_left (by simpa using him)]
      simp [him]
    · have := h2 i (by omega)
      unfold isIn at this
      rw [this, List.getElem?_append_right (by simp; omega), List.length_replicate, List.getElem?_replicate, if_pos (by omega)]
  · rw [Array.getElem?_eq_none (by omega), List.getElem?_eq_none (by simp; omega)]

theorem wpIn_region_led {id : Nat} {l : List Oper} (vals : List (Nat × Value)) (hm : P.follows .mixedOrders = true) (hro : F.round = none) (hB : leadB l.toArray m = true)
    (hv : vals.map (fun p => some p.1) = (l.take m).map (·.dst))
    (hy : Runs P { a with tmps := putsL a.tmps vals } w.drew (l.take m))
    (hQ : wpAnyIn F n P .any l.toArray Q (l.length - m) (ledList l.length m) { a with tmps := putsL a.tmps vals } w.drew) :
    (Code.region id l.toArray true).wpIn F n P Q a w := by
  have hmm : m ≤ l.length := by
    unfold leadB at hB
    simp only [Bool.and_eq_true, decide_eq_true_eq] at hB
    simpa using hB.1.1.1
  refine wpIn_region_lead (a1 := { a with tmps := putsL a.tmps vals }) hm hro hB (putsL_size _ _) rfl ?_ ?_ ?_
  · intro t h
    refine putsL_other vals t _ fun p hp e => ?_
    have h1 : some p.1 ∈ vals.map (fun p => some p.1) := List.mem_map.2 ⟨p, hp, rfl⟩
    rw [hv] at h1
    obtain ⟨o, ho, hd⟩ := List.mem_map.1 h1
    obtain ⟨j, hj⟩ := List.mem_iff_getElem?.1 ho
    have hjm : j < m := by
      have := (List.getElem?_eq_some_iff.1 hj).1
      simp at this; omega
    refine h j hjm ?_
    rw [List.getElem?_take, if_pos hjm] at hj
    unfold dstOf
    simp [hj, hd, e]
  · intro i o d hi ho hd
    refine hy.get i o ?_ d hd
    rw [List.getElem?_take, if_pos hi]
    simpa using ho
  · intro listed hs h1 h2
    have := listed_eq (n := l.length) hmm (by simpa using hs) h1 h2
    subst this
    simpa using hQ

end Go.Abs

/- A region that draws its order, in a fence or in a round: what leads up to its end reads, or calls what only makes memory; the end comes last in every order. -/
namespace Go.Abs
open Go Go.RowKit

/-- An operation that waits for nothing and defers nothing. -/
def growOp (o : Oper) : Bool :=
  match o.op with
  | .select .. | .defer _ => false
  | _ => true

def growB (ops : Array Oper) (m : Nat) : Bool :=
  let A := ancs ops.toList []
  decide (m ≤ ops.size) &&
  ((List.range ops.size).all fun i => match ops[i]? with
    | none => true
    | some o => o.after.toList.all fun e => !Region.binds .any e || decide (e.on < i)) &&
  ((List.range m).all fun i => match ops[i]? with
    | none => true
    | some o => o.guard.isNone && growOp o && o.dst.isSome && ((List.range m).all fun j => match dstOf ops j with
        | none => true
        | some t => (i == j || !(o.dst == some t)) && (!(reads ops o).contains t || ancA A i j))) &&
  ((List.range ops.size).all fun k => decide (k < m) || ((List.range m).all fun j => ancA A k j))

/-- What an operation of the lead does in a world: it yields what the frame holds in its slot, or it calls what yields it and only makes memory. -/
def GrowsAt (F : Fence) (n : Nat) (P : Program) (a1 : Act) (W : World) (o : Oper) (d : Nat) : Prop :=
  (execOp a1.eval o).run P W = .ok (.value (a1.eval (.tmp d))) W ∨
  ∃ f args, (execOp a1.eval o).run P W = .ok (.enter f args) W ∧ CallsIn F (n - 1) P f args W fun e W' => e = .returned (a1.eval (.tmp d)) ∧ Below W.heap.size W W'

variable {F : Fence} {n m : Nat} {P : Program} {ops : Array Oper} {Q : Exit → Act → World → Prop} {a a1 : Act} {w : World}

theorem grow_sound (hfn : ∀ f, F.fn f) (hn : 1 ≤ n) (hB : growB ops m = true) (hsz : a1.tmps.size = a.tmps.size) (hdf : a1.defers = a.defers)
    (hkeep : ∀ t, (∀ j, j < m → dstOf ops j ≠ some t) → a1.tmps[t]? = a.tmps[t]?)
    (hy : ∀ i o d, i < m → ops[i]? = some o → o.dst = some d → d < a1.tmps.size ∧ ∀ W, Below w.heap.size w W → GrowsAt F n P a1 W o d)
    (hQ : ∀ listed : Array Bool, listed.size = ops.size → (∀ i, i < m → isIn listed i = true) → (∀ i, m ≤ i → isIn listed i = false) → ∀ W, Below w.heap.size w W → wpAnyIn F n P .any ops Q (ops.size - m) listed a1 W) :
    ∀ (k : Nat) (listed : Array Bool) (a' : Act) (W : World), Below w.heap.size w W → Lead ops m a a1 a' listed → left m listed = k → wpAnyIn F n P .any ops Q (ops.size - m + k) listed a' W := by
  unfold growB at hB
  simp only [Bool.and_eq_true, List.all_eq_true, List.mem_range, decide_eq_true_eq, Bool.or_eq_true] at hB
  obtain ⟨⟨⟨hm, hback⟩, hpre⟩, htail⟩ := hB
  intro k
  induction k with
  | zero =>
    intro listed a' W hW hi hl
    have hall := left_zero hl
    have : a' = a1 := by
      have ht : a'.tmps = a1.tmps := by
        apply Array.ext_getElem?
        intro t
        by_cases h : ∃ j, j < m ∧ dstOf ops j = some t
        · obtain ⟨j, h1, h2⟩ := h
          exact hi.done t j h1 (hall j h1) h2
        · rw [hkeep t (fun j hj e => h ⟨j, hj, e⟩), hi.rest t (fun j hj _ e => h ⟨j, hj, e⟩)]
      obtain ⟨t1, d1⟩ := a'
      obtain ⟨t2, d2⟩ := a1
      simp only at ht
      have hd : d1 = d2 := hi.defers.trans hdf.symm
      rw [ht, hd]
    subst this
    exact hQ listed hi.size hall hi.tail W hW
  | succ k ih =>
    intro listed a' W hW hi hl
    have hsz' := hi.size
    refine ⟨fun hnil => ?_, fun i hir => ?_⟩
    · exfalso
      have hall : ∀ i, i < m → isIn listed i = true := by
        intro i
        induction i using Nat.strongRecOn with
        | _ i ih2 =>
          intro him
          cases hli : isIn listed i with
          | true => rfl
          | false =>
            exfalso
            have hin : i < ops.size := by omega
            obtain ⟨o, ho⟩ : ∃ o, ops[i]? = some o := ⟨ops[i], by simp [hin]⟩
            have : i ∈ Region.ready .any ops listed := by
              rw [mem_ready]
              refine ⟨getD_in (by omega) hli, o, ho, fun e he hb => ?_⟩
              have h1 := hback i hin
              rw [ho] at h1
              simp only [List.all_eq_true] at h1
              have h2 := h1 e (by simpa using he)
              simp only [hb, Bool.not_true, Bool.false_or, decide_eq_true_eq] at h2
              exact ih2 e.on h2 (by omega)
            rw [hnil] at this
            cases this
      have : left m listed = 0 := by
        unfold left
        rw [List.length_eq_zero_iff, List.filter_eq_nil_iff]
        intro i hi2
        simp [hall i (List.mem_range.1 hi2)]
      omega
    · obtain ⟨hun, o, ho, hdeps⟩ := mem_ready.1 hir
      have hin := (Array.getElem?_eq_some_iff.1 ho).1
      have hli : isIn listed i = false := getD_both hun
      have up : ∀ j, anc ops i j = true → isIn listed j = true := fun j hj => anc_listed hi.closed i j hj (fun o' ho' e he hb => by
        rw [ho] at ho'; cases ho'; exact hdeps e he hb)
      have him : i < m := by
        rcases Nat.lt_or_ge i m with h | h
        · exact h
        · exfalso
          have hall : ∀ j, j < m → isIn listed j = true := by
            intro j hj
            rcases htail i hin with h1 | h1
            · omega
            · exact up j (h1 j hj)
          have : left m listed = 0 := by
            unfold left
            rw [List.length_eq_zero_iff, List.filter_eq_nil_iff]
            intro j hj
            simp [hall j (List.mem_range.1 hj)]
          omega
      have hp := hpre i him
      rw [ho] at hp
      simp only [Bool.and_eq_true, List.all_eq_true, List.mem_range, Option.isNone_iff_eq_none] at hp
      obtain ⟨⟨⟨hg, hpl⟩, hds⟩, hj⟩ := hp
      obtain ⟨d, hd⟩ := Option.isSome_iff_exists.1 hds
      have hdi : dstOf ops i = some d := by unfold dstOf; rw [ho]; exact hd
      have agree : ∀ t, t ∈ reads ops o → a'.tmps[t]? = a1.tmps[t]? := by
        intro t ht
        by_cases h : ∃ j, j < m ∧ dstOf ops j = some t
        · obtain ⟨j, h1, h2⟩ := h
          have h3 := hj j h1
          rw [h2] at h3
          simp only [Bool.and_eq_true, Bool.or_eq_true, Bool.not_eq_true', List.contains_eq_mem, decide_eq_false_iff_not] at h3
          rcases h3.2 with h4 | h4
          · exact absurd ht h4
          · exact hi.done t j h1 (up j h4) h2
        · rw [hkeep t (fun j hj e => h ⟨j, hj, e⟩), hi.rest t (fun j hj _ e => h ⟨j, hj, e⟩)]
      have hev : ∀ x ∈ o.op.operands, a'.eval x = a1.eval x := by
        intro x hx
        cases x with
        | tmp t =>
          have := agree t (by unfold reads; exact List.mem_append_left _ (List.mem_filterMap.2 ⟨.tmp t, by simpa using hx, rfl⟩))
          show a'.tmps.getD t undef = a1.tmps.getD t undef
          simp only [Array.getD_eq_getD_getElem?, this]
        | _ => rfl
      have hex : execOp a'.eval o = execOp a1.eval o := execOp_congr o (fun cs b he => by unfold growOp at hpl; rw [he] at hpl; cases hpl) hev
      have hsem : o.semAt F.round a'.eval = execOp a1.eval o := (Oper.semAt_plain F _ o (fun c he => by unfold growOp at hpl; rw [he] at hpl; cases hpl)).trans hex
      obtain ⟨hdl, hrun⟩ := hy i o d him ho hd
      have hw : Region.wanted o (yielded ops a'.tmps) = true := by unfold Region.wanted; rw [hg]
      have hnew : isIn (listed.setIfInBounds i true) i = true := by rw [isIn_set (by omega)]; simp
      have hother : ∀ j, j ≠ i → isIn (listed.setIfInBounds i true) j = isIn listed j := fun j hj => by
        rw [isIn_set (by omega)]
        have : (j == i) = false := by simpa using hj
        rw [this, Bool.or_false]
      have hd2 : d < a'.tmps.size := by rw [hi.len, ← hsz]; exact hdl
      have next : ∀ W', Below w.heap.size w W' → wpAnyIn F n P .any ops Q (ops.size - m + k) (listed.setIfInBounds i true) (a'.put o.dst (a1.eval (.tmp d))) W' := by
        intro W' hW'
        refine ih _ _ _ hW' ⟨by simpa using hsz', ?_, ?_, ?_, ?_, ?_, ?_⟩ ?_
        · intro j oj hoj hlj e he hb
          change isIn _ _ = true at hlj
          change isIn _ _ = true
          by_cases hji : j = i
          · subst hji
            rw [ho] at hoj; cases hoj
            have := hdeps e he hb
            by_cases hee : e.on = j
            · rw [hee]; exact hnew
            · rw [hother _ hee]; exact this
          · rw [hother j hji] at hlj
            have := hi.closed j oj hoj hlj e he hb
            by_cases hee : e.on = i
            · rw [hee]; exact hnew
            · rw [hother _ hee]; exact this
        · intro j hj
          rw [hother j (by omega)]
          exact hi.tail j hj
        · rw [hd]; exact hi.defers
        · rw [hd]; simp [Act.put, hi.len]
        · intro t j hjm hlj hdj
          rw [hd]
          show (a'.tmps.setIfInBounds d _)[t]? = _
          by_cases htd : t = d
          · subst htd
            rw [Array.getElem?_setIfInBounds_self_of_lt hd2]
            show some (a1.tmps.getD t undef) = _
            rw [Array.getD_eq_getD_getElem?, Array.getElem?_eq_getElem hdl]
            rfl
          · rw [Array.getElem?_setIfInBounds_ne (Ne.symm htd)]
            have hji : j ≠ i := fun e => by subst e; rw [hdi] at hdj; cases hdj; exact htd rfl
            rw [hother j hji] at hlj
            exact hi.done t j hjm hlj hdj
        · intro t hno
          rw [hd]
          show (a'.tmps.setIfInBounds d _)[t]? = _
          have htd : t ≠ d := fun e => hno i him hnew (by rw [hdi, e])
          rw [Array.getElem?_setIfInBounds_ne (Ne.symm htd)]
          exact hi.rest t fun j hjm hlj => by
            by_cases hji : j = i
            · subst hji; rw [hli] at hlj; cases hlj
            · exact hno j hjm (by rw [hother j hji]; exact hlj)
        · have := left_set (n := m) (listed := listed) (i := i)
          have h2 : left m (listed.setIfInBounds i true) + 1 = left m listed := by
            unfold left
            refine (filter_insert (i := i) m him (by simp [hli]) ?_ fun j hj => ?_).symm
            · simp [hnew]
            · rw [hother j hj]
          omega
      unfold wpOpIn
      simp only [ho, hw, if_true, Oper.wpIn, hsem]
      refine ⟨fun f _ => hfn f, ?_⟩
      rcases hrun W hW with h1 | ⟨f, args, h1, h2⟩
      · rw [h1]
        exact next W hW
      · rw [h1]
        refine ⟨fun _ => hn, h2.mono ?_⟩
        rintro e W' ⟨rfl, hb⟩
        exact next W' (hW.trans (hb.mono hW.size))

/-- THE LAW. -/
theorem wpIn_region_grow {id : Nat} (hm : P.follows .mixedOrders = true) (hfn : ∀ f, F.fn f) (hn : 1 ≤ n) (hB : growB ops m = true) (hsz : a1.tmps.size = a.tmps.size) (hdf : a1.defers = a.defers)
    (hkeep : ∀ t, (∀ j, j < m → dstOf ops j ≠ some t) → a1.tmps[t]? = a.tmps[t]?)
    (hy : ∀ i o d, i < m → ops[i]? = some o → o.dst = some d → d < a1.tmps.size ∧ ∀ W, Below w.heap.size w W → GrowsAt F n P a1 W o d)
    (hQ : ∀ listed : Array Bool, listed.size = ops.size → (∀ i, i < m → isIn listed i = true) → (∀ i, m ≤ i → isIn listed i = false) → ∀ W, Below w.heap.size w W → wpAnyIn F n P .any ops Q (ops.size - m) listed a1 W) :
    (Code.region id ops true).wpIn F n P Q a w := by
  have hmm : m ≤ ops.size := by
    unfold growB at hB
    simp only [Bool.and_eq_true, decide_eq_true_eq] at hB
    exact hB.1.1.1
  refine wpIn_region_any hm ?_
  have hno : ∀ i, isIn (Array.replicate ops.size false) i = false := fun i => getD_replicate_false _ _
  have hd : Below w.heap.size w w.drew := (Below.refl _ w).drew
  have := grow_sound (F := F) (n := n) (P := P) (Q := Q) (w := w) hfn hn hB hsz hdf hkeep hy hQ m (Array.replicate ops.size false) a w.drew hd
    ⟨by simp, fun j oj _ hl => (by rw [getD_replicate_false] at hl; cases hl), fun i _ => hno i, rfl, rfl, fun t j _ hl => (by rw [hno] at hl; cases hl), fun t _ => rfl⟩
    (by unfold left; rw [List.filter_eq_self.2 (fun i _ => by simp [hno])]; simp)
  have e : ops.size - m + m = ops.size := by omega
  rw [e] at this
  exact this

/-- Each operation yields what the frame holds in its slot, or calls what does. -/
def RunsG (F : Fence) (n : Nat) (P : Program) (a1 : Act) (W : World) : List Oper → Prop
  | [] => True
  | o :: l => (∀ d, o.dst = some d → GrowsAt F n P a1 W o d) ∧ RunsG F n P a1 W l

theorem RunsG.get {W : World} : ∀ {l : List Oper}, RunsG F n P a1 W l → ∀ (i : Nat) (o : Oper), l[i]? = some o → ∀ d, o.dst = some d → GrowsAt F n P a1 W o d
  | [], _, i, o, h => by simp at h
  | o' :: l, hr, 0, o, h => by simp at h; subst h; exact hr.1
  | o' :: l, hr, i + 1, o, h => hr.2.get i o (by simpa using h)

/-- The slots lie in the frame. -/
def slotsB (size : Nat) (l : List Oper) : Bool := l.all fun o => match o.dst with | none => true | some d => decide (d < size)

theorem wpIn_region_grown {id : Nat} {l : List Oper} (vals : List (Nat × Value)) (hm : P.follows .mixedOrders = true) (hfn : ∀ f, F.fn f) (hn : 1 ≤ n) (hB : growB l.toArray m = true)
    (hv : vals.map (fun p => some p.1) = (l.take m).map (·.dst)) (hs : slotsB a.tmps.size (l.take m) = true)
    (hy : ∀ W, Below w.heap.size w W → RunsG F n P { a with tmps := putsL a.tmps vals } W (l.take m))
    (hQ : ∀ W, Below w.heap.size w W → wpAnyIn F n P .any l.toArray Q (l.length - m) (ledList l.length m) { a with tmps := putsL a.tmps vals } W) :
    (Code.region id l.toArray true).wpIn F n P Q a w := by
  have hmm : m ≤ l.length := by
    unfold growB at hB
    simp only [Bool.and_eq_true, decide_eq_true_eq] at hB
    simpa using hB.1.1.1
  refine wpIn_region_grow (a1 := { a with tmps := putsL a.tmps vals }) hm hfn hn hB (putsL_size _ _) rfl ?_ ?_ ?_
  · intro t h
    refine putsL_other vals t _ fun p hp e => ?_
    have h1 : some p.1 ∈ vals.map (fun p => some p.1) := List.mem_map.2 ⟨p, hp, rfl⟩
    rw [hv] at h1
    obtain ⟨o, ho, hd⟩ := List.mem_map.1 h1
    obtain ⟨j, hj⟩ := List.mem_iff_getElem?.1 ho
    have hjm : j < m := by
      have := (List.getElem?_eq_some_iff.1 hj).1
      simp at this; omega
    refine h j hjm ?_
    rw [List.getElem?_take, if_pos hjm] at hj
    unfold dstOf
    simp [hj, hd, e]
  · intro i o d hi ho hd
    have ho' : (l.take m)[i]? = some o := by
      rw [List.getElem?_take, if_pos hi]
      simpa using ho
    refine ⟨?_, fun W hW => (hy W hW).get i o ho' d hd⟩
    unfold slotsB at hs
    rw [List.all_eq_true] at hs
    have := hs o (List.mem_of_getElem? ho')
    rw [hd] at this
    simpa [putsL_size] using this
  · intro listed hs h1 h2 W hW
    have := listed_eq (n := l.length) hmm (by simpa using hs) h1 h2
    subst this
    simpa using hQ W hW

end Go.Abs

/- A region that draws its order, its operations told one by one: what each yields depends on what it waits for alone, and what it makes lies above. -/
namespace Go.Abs
open Go Go.RowKit

variable {P : Program} {md : Region.Mode} {ops : Array Oper} {Q : Exit → Act → World → Prop}

theorem wpAny_invV (Inv : Array Bool → Act → World → Prop)
    (hstep : ∀ listed a w i, listed.size = ops.size → Inv listed a w → i ∈ Region.ready md ops listed → wpOp P ops Q i (Inv (listed.setIfInBounds i true)) a w)
    (hdone : ∀ listed a w, Inv listed a w → Region.ready md ops listed = [] → Q .normal a w) :
    ∀ (fuel : Nat) (listed : Array Bool) (a : Act) (w : World), listed.size = ops.size → listed.toList.countP (fun b => !b) ≤ fuel → Inv listed a w → wpAny P md ops Q fuel listed a w := by
  intro fuel
  induction fuel with
  | zero =>
    intro listed a w hs hc hi
    have hr : Region.ready md ops listed = [] := by
      rw [List.eq_nil_iff_forall_not_mem]
      intro i h
      obtain ⟨hl, o, ho, -⟩ := mem_ready.1 h
      have hlt : i < listed.size := by rw [hs]; exact (Array.getElem?_eq_some_iff.1 ho).1
      have h0 : listed.toList.countP (fun b => !b) = 0 := by omega
      rw [List.countP_eq_zero] at h0
      have := h0 (listed[i]) (by simp)
      simp [Array.getD_eq_getD_getElem?, hlt] at hl
      simp [hl] at this
    exact ⟨hr, hdone listed a w hi hr⟩
  | succ fuel ih =>
    intro listed a w hs hc hi
    refine ⟨hdone listed a w hi, fun i h => ?_⟩
    refine wpOp_mono (fun a' w' hi' => ih _ a' w' (by simpa using hs) ?_ hi') (hstep listed a w i hs hi h)
    obtain ⟨hl, o, ho, -⟩ := mem_ready.1 h
    have hlt : i < listed.size := by rw [hs]; exact (Array.getElem?_eq_some_iff.1 ho).1
    have hl' : listed.toList[i]'(by simpa using hlt) = false := by simpa [Array.getD_eq_getD_getElem?, hlt] using hl
    rw [Array.toList_setIfInBounds, List.countP_set]
    · simp only [Bool.not_true, Bool.false_eq_true, if_false, hl', Bool.not_false, if_true]
      omega
    · simpa using hlt


/-- An operation ends with a value, or calls what returns one; it leaves what was there. -/
def StepsTo (P : Program) (c : Sem Next) (W : World) (R : Value → World → Prop) : Prop :=
  (∃ v W', c.run P W = .ok (.value v) W' ∧ Below W.heap.size W W' ∧ R v W') ∨
  (∃ f args W', c.run P W = .ok (.enter f args) W' ∧ Below W.heap.size W W' ∧ Calls P f args W' fun e W'' => ∃ v, e = .returned v ∧ Below W'.heap.size W' W'' ∧ R v W'')

/-- No guard; each writes a slot of its own. -/
def valsB (size : Nat) (l : List Oper) : Bool :=
  (l.all fun o => o.guard.isNone && (match o.dst with | none => false | some d => decide (d < size))) &&
  ((List.range l.length).all fun i => (List.range l.length).all fun j => i == j || !(dstOf l.toArray i == dstOf l.toArray j)) &&
  ((List.range l.length).all fun i => match l[i]? with
    | none => true
    | some o => o.after.toList.all fun e => !Region.binds .any e || decide (e.on < i))

structure VInv (Val : Nat → Value → World → Prop) (l : List Oper) (a : Act) (w : World) (listed : Array Bool) (a' : Act) (W : World) : Prop where
  len : a'.tmps.size = a.tmps.size
  defers : a'.defers = a.defers
  below : Below w.heap.size w W
  vals : ∀ i d, isIn listed i = true → dstOf l.toArray i = some d → Val i (a'.tmps.getD d undef) W
  rest : ∀ t, (∀ i, isIn listed i = true → dstOf l.toArray i ≠ some t) → a'.tmps[t]? = a.tmps[t]?

/-- All values that the operations from i on may yield, one after the other. -/
def VQ (Val : Nat → Value → World → Prop) (W : World) (Q : Array Value → Prop) : Nat → List (Option Nat) → Array Value → Prop
  | _, [], tm => Q tm
  | i, none :: ds, tm => VQ Val W Q (i + 1) ds tm
  | i, some d :: ds, tm => ∀ v, Val i v W → VQ Val W Q (i + 1) ds (tm.setIfInBounds d v)

theorem VQ.get {Val : Nat → Value → World → Prop} {W : World} {Q : Array Value → Prop} {tm' : Array Value} :
    ∀ (ds : List (Option Nat)) (i : Nat) (tm : Array Value), VQ Val W Q i ds tm → tm.size = tm'.size →
      (∀ j d, ds[j]? = some (some d) → d < tm'.size ∧ Val (i + j) (tm'.getD d undef) W) → (∀ t, (∀ j : Nat, ds[j]? ≠ some (some t)) → tm'[t]? = tm[t]?) → Q tm'
  | [], i, tm, h, hs, h1, h2 => by
    have e : tm' = tm := by
      apply Array.ext_getElem?
      intro t
      exact h2 t (fun j e => by simp at e)
    rw [e]; exact h
  | none :: ds, i, tm, h, hs, h1, h2 => by
    refine VQ.get ds (i + 1) tm h hs (fun j d hj => ?_) (fun t ht => h2 t (fun j hj => ?_))
    · have := h1 (j + 1) d (by simpa using hj)
      rwa [show i + 1 + j = i + (j + 1) by omega]
    · cases j with
      | zero => simp at hj
      | succ j => exact ht j (by simpa using hj)
  | some d :: ds, i, tm, h, hs, h1, h2 => by
    obtain ⟨hd, hv⟩ := h1 0 d rfl
    refine VQ.get ds (i + 1) _ (h _ hv) (by simpa using hs) (fun j d' hj => ?_) (fun t ht => ?_)
    · have := h1 (j + 1) d' (by simpa using hj)
      rwa [show i + 1 + j = i + (j + 1) by omega]
    · by_cases e : d = t
      · subst e
        rw [Array.getElem?_setIfInBounds_self_of_lt (by omega), Array.getElem?_eq_getElem hd, Array.getD_eq_getD_getElem?, Array.getElem?_eq_getElem hd]
        rfl
      · rw [Array.getElem?_setIfInBounds_ne e]
        refine h2 t (fun j hj => ?_)
        cases j with
        | zero => simp at hj; exact e hj
        | succ j => exact ht j (by simpa using hj)

theorem wp_region_vals {id : Nat} {l : List Oper} {a : Act} {w : World} (Val : Nat → Value → World → Prop) (hm : P.follows .mixedOrders = true) (hB : valsB a.tmps.size l = true)
    (hst : ∀ i v W W', Val i v W → Below W.heap.size W W' → Val i v W')
    (hstep : ∀ i o, l[i]? = some o → ∀ (a' : Act) W, Below w.heap.size w W → (∀ t, (l.map (·.dst)).contains (some t) = false → a'.eval (.tmp t) = a.eval (.tmp t)) →
      (∀ e ∈ o.after.toList, Region.binds .any e = true → ∀ d, dstOf l.toArray e.on = some d → Val e.on (a'.eval (.tmp d)) W) → StepsTo P (execOp a'.eval o) W (Val i))
    (hQ : ∀ W, Below w.heap.size w W → VQ Val W (fun tm => Q .normal { a with tmps := tm } W) 0 (l.map (·.dst)) a.tmps) :
    (Code.region id l.toArray true).wp P Q a w := by
  unfold valsB at hB
  simp only [Bool.and_eq_true, List.all_eq_true, List.mem_range, Bool.or_eq_true, beq_iff_eq, Bool.not_eq_true', Option.isNone_iff_eq_none] at hB
  obtain ⟨⟨hB1, hB2⟩, hB3⟩ := hB
  have hd : ∀ i o, l[i]? = some o → ∃ d, o.dst = some d ∧ d < a.tmps.size ∧ o.guard = none ∧ dstOf l.toArray i = some d := by
    intro i o ho
    obtain ⟨h1, h2⟩ := hB1 o (List.mem_of_getElem? ho)
    cases hdo : o.dst with
    | none => rw [hdo] at h2; cases h2
    | some d =>
      rw [hdo] at h2
      refine ⟨d, rfl, by simpa using h2, h1, ?_⟩
      unfold dstOf
      simp [ho, hdo]
  have hdi : ∀ i d, dstOf l.toArray i = some d → ∃ o, l[i]? = some o ∧ o.dst = some d := by
    intro i d h
    unfold dstOf at h
    cases ho : l[i]? with
    | none => simp [ho] at h
    | some o => exact ⟨o, rfl, by simpa [ho] using h⟩
  have hne : ∀ i j d, dstOf l.toArray i = some d → dstOf l.toArray j = some d → i = j := by
    intro i j d h1 h2
    obtain ⟨o1, g1, -⟩ := hdi i d h1
    obtain ⟨o2, g2, -⟩ := hdi j d h2
    rcases hB2 i (List.getElem?_eq_some_iff.1 g1).1 j (List.getElem?_eq_some_iff.1 g2).1 with e | e
    · exact e
    · rw [h1, h2] at e
      simp at e
  refine wp_region_any hm (wpAny_invV (fun L a' W => L.size = l.length ∧ VInv Val l a w L a' W) ?_ ?_ _ _ _ _ (by simp) ?_ ?_)
  · rintro listed a' W i hsz ⟨hls, hi⟩ hr
    obtain ⟨hun, o, ho, hdep⟩ := mem_ready.1 hr
    have ho' : l[i]? = some o := by simpa using ho
    obtain ⟨d, hdo, hds, hgu, hdst⟩ := hd i o ho'
    have hil : i < listed.size := by rw [hsz]; exact (Array.getElem?_eq_some_iff.1 ho).1
    have hfresh : isIn listed i = false := by
      unfold isIn
      rw [Array.getD_eq_getD_getElem?, Array.getElem?_eq_getElem hil] at hun ⊢
      simpa using hun
    have next : ∀ v W', Below W.heap.size W W' → Val i v W' → VInv Val l a w (listed.setIfInBounds i true) (a'.put o.dst v) W' := by
      intro v W' hW' hv
      rw [hdo]
      have hlen : d < a'.tmps.size := by rw [hi.len]; exact hds
      refine ⟨by simp [Act.put, hi.len], hi.defers, hi.below.trans (hW'.mono hi.below.size), fun j dj hj hdj => ?_, fun t ht => ?_⟩
      · show Val j ((a'.tmps.setIfInBounds d v).getD dj undef) W'
        by_cases hji : j = i
        · subst hji
          rw [hdst] at hdj
          cases hdj
          rw [Array.getD_eq_getD_getElem?, Array.getElem?_setIfInBounds_self_of_lt hlen]
          exact hv
        · have hjl : isIn listed j = true := by
            rw [isIn_set hil] at hj
            simpa [hji] using hj
          have hdd : d ≠ dj := fun e => by subst e; exact hji (hne j i d hdj hdst)
          rw [Array.getD_eq_getD_getElem?, Array.getElem?_setIfInBounds_ne hdd, ← Array.getD_eq_getD_getElem?]
          exact hst j _ _ _ (hi.vals j dj hjl hdj) hW'
      · show (a'.tmps.setIfInBounds d v)[t]? = _
        have htd : d ≠ t := fun e => by
          subst e
          exact ht i (by rw [isIn_set hil]; simp) hdst
        rw [Array.getElem?_setIfInBounds_ne htd]
        exact hi.rest t (fun j hj => ht j (by rw [isIn_set hil, hj]; rfl))
    have hS := hstep i o ho' a' W hi.below
      (fun t ht => by
        have := hi.rest t (fun j _ e => by
          obtain ⟨o2, g1, g2⟩ := hdi j t e
          have : some t ∈ l.map (·.dst) := List.mem_map.2 ⟨o2, List.mem_of_getElem? g1, g2⟩
          rw [← List.contains_iff_mem, ht] at this
          cases this)
        show a'.tmps.getD t undef = a.tmps.getD t undef
        simp only [Array.getD_eq_getD_getElem?, this])
      (fun e he hb de hde => hi.vals e.on de (hdep e (by simpa using he) hb) hde)
    refine wpOp_step (o := o) ho (fun K hK => ?_)
    rw [if_pos (show Region.wanted o _ = true by unfold Region.wanted; rw [hgu])]
    unfold Oper.wp
    rcases hS with ⟨v, W', h1, h2, h3⟩ | ⟨f, args, W', h1, h2, h3⟩
    · rw [h1]
      exact hK _ _ ⟨by simpa using hls, next v W' h2 h3⟩
    · rw [h1]
      refine h3.mono ?_
      rintro e W'' ⟨v, rfl, hb, hv⟩
      exact hK _ _ ⟨by simpa using hls, next v W'' (h2.trans (hb.mono h2.size)) hv⟩
  · intro listed a' W hi hr
    obtain ⟨hls, hi⟩ := hi
    have hall : ∀ i, i < l.length → isIn listed i = true := by
      intro i
      induction i using Nat.strongRecOn with
      | _ i ih =>
        intro hin
        cases hli : isIn listed i with
        | true => rfl
        | false =>
          exfalso
          have ho : l[i]? = some l[i] := List.getElem?_eq_getElem hin
          have : i ∈ Region.ready .any l.toArray listed := by
            rw [mem_ready]
            refine ⟨getD_in (by rw [hls]; exact hin) hli, l[i], by simp, fun e he hb => ?_⟩
            have h1 := hB3 i hin
            rw [ho] at h1
            simp only [List.all_eq_true] at h1
            have h2 := h1 e (by simpa using he)
            simp only [hb, Bool.not_true, Bool.false_or, decide_eq_true_eq] at h2
            exact ih e.on h2 (by omega)
          rw [hr] at this
          cases this
    have := VQ.get (tm' := a'.tmps) (l.map (·.dst)) 0 a.tmps (hQ W hi.below) hi.len.symm
      (fun j d hj => by
        rw [List.getElem?_map] at hj
        cases ho : l[j]? with
        | none => rw [ho] at hj; cases hj
        | some o =>
          rw [ho] at hj
          obtain ⟨d', h1, h2, -, h4⟩ := hd j o ho
          simp only [Option.map_some, Option.some.injEq] at hj
          rw [h1] at hj
          cases hj
          refine ⟨by rw [hi.len]; exact h2, ?_⟩
          rw [Nat.zero_add]
          exact hi.vals j d (hall j (List.getElem?_eq_some_iff.1 ho).1) h4)
      (fun t ht => hi.rest t (fun j _ e => ht j (by
        obtain ⟨o, h1, h2⟩ := hdi j t e
        simp [h1, h2])))
    have e : ({ a with tmps := a'.tmps } : Act) = a' := by
      obtain ⟨t1, d1⟩ := a'
      have := hi.defers
      simp only at this
      simp [this]
    rwa [e] at this
  · refine Nat.le_trans List.countP_le_length ?_
    simp
  · refine ⟨by simp, rfl, rfl, (Below.refl _ w).drew, fun i d h => ?_, fun t _ => rfl⟩
    unfold isIn at h
    rw [getD_replicate_false] at h
    cases h

end Go.Abs

/- A region that draws its order, whose lead is told operation by operation, and whose end waits for all of the lead. -/
namespace Go.Abs
open Go Go.RowKit

variable {P : Program} {Q : Exit → Act → World → Prop}

def valsTB (size : Nat) (l : List Oper) (m : Nat) : Bool :=
  let A := ancs l []
  decide (m ≤ l.length) && valsB size (l.take m) &&
  ((List.range l.length).all fun i => match l[i]? with
    | none => true
    | some o => o.after.toList.all fun e => !Region.binds .any e || decide (e.on < i)) &&
  ((List.range l.length).all fun k => decide (k < m) || ((List.range m).all fun j => ancA A k j))

theorem wp_region_valsT {id : Nat} {l : List Oper} {a : Act} {w : World} (m : Nat) (Val : Nat → Value → World → Prop) (hm : P.follows .mixedOrders = true) (hB : valsTB a.tmps.size l m = true)
    (hst : ∀ i v W W', Val i v W → Below W.heap.size W W' → Val i v W')
    (hstep : ∀ i o, (l.take m)[i]? = some o → ∀ (a' : Act) W, Below w.heap.size w W → (∀ t, ((l.take m).map (·.dst)).contains (some t) = false → a'.eval (.tmp t) = a.eval (.tmp t)) →
      (∀ e ∈ o.after.toList, Region.binds .any e = true → ∀ d, dstOf (l.take m).toArray e.on = some d → Val e.on (a'.eval (.tmp d)) W) → StepsTo P (execOp a'.eval o) W (Val i))
    (hQ : ∀ W, Below w.heap.size w W → VQ Val W (fun tm => wpAny P .any l.toArray Q (l.length - m) (ledList l.length m) { a with tmps := tm } W) 0 ((l.take m).map (·.dst)) a.tmps) :
    (Code.region id l.toArray true).wp P Q a w := by
  unfold valsTB at hB
  simp only [Bool.and_eq_true, decide_eq_true_eq] at hB
  obtain ⟨⟨⟨hml, hBp⟩, hback⟩, htail⟩ := hB
  simp only [List.all_eq_true, List.mem_range, Bool.or_eq_true, decide_eq_true_eq] at htail hback
  unfold valsB at hBp
  simp only [Bool.and_eq_true, List.all_eq_true, List.mem_range, Bool.or_eq_true, beq_iff_eq, Bool.not_eq_true', Option.isNone_iff_eq_none] at hBp
  obtain ⟨⟨hB1, hB2⟩, -⟩ := hBp
  have hpl : (l.take m).length = m := by simp; omega
  have hd : ∀ i o, (l.take m)[i]? = some o → ∃ d, o.dst = some d ∧ d < a.tmps.size ∧ o.guard = none ∧ dstOf (l.take m).toArray i = some d := by
    intro i o ho
    obtain ⟨h1, h2⟩ := hB1 o (List.mem_of_getElem? ho)
    cases hdo : o.dst with
    | none => rw [hdo] at h2; cases h2
    | some d =>
      rw [hdo] at h2
      refine ⟨d, rfl, by simpa using h2, h1, ?_⟩
      unfold dstOf
      rw [List.getElem?_toArray, ho]
      exact hdo
  have hdi : ∀ i d, dstOf (l.take m).toArray i = some d → ∃ o, (l.take m)[i]? = some o ∧ o.dst = some d := by
    intro i d h
    unfold dstOf at h
    rw [List.getElem?_toArray] at h
    cases ho : (l.take m)[i]? with
    | none => rw [ho] at h; cases h
    | some o => rw [ho] at h; exact ⟨o, rfl, h⟩
  have hne : ∀ i j d, dstOf (l.take m).toArray i = some d → dstOf (l.take m).toArray j = some d → i = j := by
    intro i j d h1 h2
    obtain ⟨o1, g1, -⟩ := hdi i d h1
    obtain ⟨o2, g2, -⟩ := hdi j d h2
    rcases hB2 i (List.getElem?_eq_some_iff.1 g1).1 j (List.getElem?_eq_some_iff.1 g2).1 with e | e
    · exact e
    · rw [h1, h2] at e
      simp at e
  have main : ∀ (k : Nat) (listed : Array Bool) (a' : Act) (W : World), listed.size = l.length → Closed l.toArray listed → (∀ i, m ≤ i → isIn listed i = false) → VInv Val (l.take m) a w listed a' W → left m listed = k →
      wpAny P .any l.toArray Q (l.length - m + k) listed a' W := by
    intro k
    induction k with
    | zero =>
      intro listed a' W hls _ ht hi hl
      have hall := left_zero hl
      have e1 := listed_eq hml hls hall ht
      have := VQ.get (tm' := a'.tmps) ((l.take m).map (·.dst)) 0 a.tmps (hQ W hi.below) hi.len.symm
        (fun j d hj => by
          rw [List.getElem?_map] at hj
          cases ho : (l.take m)[j]? with
          | none => rw [ho] at hj; cases hj
          | some o =>
            rw [ho] at hj
            obtain ⟨d', h1, h2, -, h4⟩ := hd j o ho
            simp only [Option.map_some, Option.some.injEq] at hj
            rw [h1] at hj
            cases hj
            refine ⟨by rw [hi.len]; exact h2, ?_⟩
            rw [Nat.zero_add]
            exact hi.vals j d (hall j (by have := (List.getElem?_eq_some_iff.1 ho).1; omega)) h4)
        (fun t ht => hi.rest t (fun j _ e => ht j (by
          obtain ⟨o, h1, h2⟩ := hdi j t e
          rw [List.getElem?_map, h1]
          simp [h2])))
      have e : ({ a with tmps := a'.tmps } : Act) = a' := by
        obtain ⟨t1, d1⟩ := a'
        have := hi.defers
        simp only at this
        simp [this]
      rw [e, ← e1] at this
      exact this
    | succ k ih =>
      intro listed a' W hls hcl ht hi hl
      refine ⟨fun hnil => ?_, fun i hir => ?_⟩
      · exfalso
        have hall : ∀ i, i < m → isIn listed i = true := by
          intro i
          induction i using Nat.strongRecOn with
          | _ i ih2 =>
            intro him
            cases hli : isIn listed i with
            | true => rfl
            | false =>
              exfalso
              have hin : i < l.length := by omega
              have ho : l[i]? = some l[i] := List.getElem?_eq_getElem hin
              have : i ∈ Region.ready .any l.toArray listed := by
                rw [mem_ready]
                refine ⟨getD_in (by omega) hli, l[i], by rw [List.getElem?_toArray]; exact ho, fun e he hb => ?_⟩
                have h1 := hback i hin
                rw [ho] at h1
                simp only [List.all_eq_true] at h1
                have h2 := h1 e (by simpa using he)
                simp only [hb, Bool.not_true, Bool.false_or, decide_eq_true_eq] at h2
                exact ih2 e.on h2 (by omega)
              rw [hnil] at this
              cases this
        have : left m listed = 0 := by
          unfold left
          rw [List.length_eq_zero_iff, List.filter_eq_nil_iff]
          intro i hi2
          simp [hall i (List.mem_range.1 hi2)]
        omega
      · obtain ⟨hun, o, ho, hdep⟩ := mem_ready.1 hir
        rw [List.getElem?_toArray] at ho
        have hin := (List.getElem?_eq_some_iff.1 ho).1
        have hil : i < listed.size := by omega
        have hli : isIn listed i = false := getD_both hun
        have up : ∀ j, anc l.toArray i j = true → isIn listed j = true := fun j hj => anc_listed hcl i j hj (fun o' ho' e he hb => by
          rw [List.getElem?_toArray, ho] at ho'; cases ho'; exact hdep e he hb)
        have him : i < m := by
          rcases Nat.lt_or_ge i m with h | h
          · exact h
          · exfalso
            have hall : ∀ j, j < m → isIn listed j = true := by
              intro j hj
              rcases htail i hin with h1 | h1
              · omega
              · exact up j (h1 j hj)
            have : left m listed = 0 := by
              unfold left
              rw [List.length_eq_zero_iff, List.filter_eq_nil_iff]
              intro j hj
              simp [hall j (List.mem_range.1 hj)]
            omega
        have hop : (l.take m)[i]? = some o := by rw [List.getElem?_take, if_pos him]; exact ho
        obtain ⟨d, hdo, hds, hgu, hdst⟩ := hd i o hop
        have hnew : isIn (listed.setIfInBounds i true) i = true := by rw [isIn_set hil]; simp
        have hother : ∀ j, j ≠ i → isIn (listed.setIfInBounds i true) j = isIn listed j := fun j hj => by
          rw [isIn_set hil]
          have : (j == i) = false := by simpa using hj
          rw [this, Bool.or_false]
        have next : ∀ v W', Below W.heap.size W W' → Val i v W' → wpAny P .any l.toArray Q (l.length - m + k) (listed.setIfInBounds i true) (a'.put o.dst v) W' := by
          intro v W' hW' hv
          rw [hdo]
          have hlen : d < a'.tmps.size := by rw [hi.len]; exact hds
          refine ih _ _ _ (by simpa using hls) ?_ ?_ ⟨by simp [Act.put, hi.len], hi.defers, hi.below.trans (hW'.mono hi.below.size), fun j dj hj hdj => ?_, fun t ht => ?_⟩ ?_
          · intro j oj hoj hlj e he hb
            change isIn _ _ = true at hlj
            change isIn _ _ = true
            by_cases hji : j = i
            · subst hji
              rw [List.getElem?_toArray, ho] at hoj; cases hoj
              have := hdep e he hb
              by_cases hee : e.on = j
              · rw [hee]; exact hnew
              · rw [hother _ hee]; exact this
            · rw [hother j hji] at hlj
              have := hcl j oj hoj hlj e he hb
              by_cases hee : e.on = i
              · rw [hee]; exact hnew
              · rw [hother _ hee]; exact this
          · intro j hj
            rw [hother j (by omega)]
            exact ht j hj
          · show Val j ((a'.tmps.setIfInBounds d v).getD dj undef) W'
            by_cases hji : j = i
            · subst hji
              rw [hdst] at hdj
              cases hdj
              rw [Array.getD_eq_getD_getElem?, Array.getElem?_setIfInBounds_self_of_lt hlen]
              exact hv
            · rw [hother j hji] at hj
              have hdd : d ≠ dj := fun e => by subst e; exact hji (hne j i d hdj hdst)
              rw [Array.getD_eq_getD_getElem?, Array.getElem?_setIfInBounds_ne hdd, ← Array.getD_eq_getD_getElem?]
              exact hst j _ _ _ (hi.vals j dj hj hdj) hW'
          · show (a'.tmps.setIfInBounds d v)[t]? = _
            have htd : d ≠ t := fun e => by
              subst e
              exact ht i hnew hdst
            rw [Array.getElem?_setIfInBounds_ne htd]
            refine hi.rest t (fun j hj => ht j ?_)
            by_cases hji : j = i
            · subst hji; exact hnew
            · rw [hother j hji]; exact hj
          · have h2 : left m (listed.setIfInBounds i true) + 1 = left m listed := by
              unfold left
              refine (filter_insert (i := i) m him (by simp [hli]) ?_ fun j hj => ?_).symm
              · simp [hnew]
              · rw [hother j hj]
            omega
        have hS := hstep i o hop a' W hi.below
          (fun t ht => by
            have := hi.rest t (fun j _ e => by
              obtain ⟨o2, g1, g2⟩ := hdi j t e
              have : some t ∈ (l.take m).map (·.dst) := List.mem_map.2 ⟨o2, List.mem_of_getElem? g1, g2⟩
              rw [← List.contains_iff_mem, ht] at this
              cases this)
            show a'.tmps.getD t undef = a.tmps.getD t undef
            simp only [Array.getD_eq_getD_getElem?, this])
          (fun e he hb de hde => hi.vals e.on de (hdep e (by simpa using he) hb) hde)
        refine wpOp_step (o := o) (by rw [List.getElem?_toArray]; exact ho) (fun K hK => ?_)
        rw [if_pos (show Region.wanted o _ = true by unfold Region.wanted; rw [hgu])]
        unfold Oper.wp
        rcases hS with ⟨v, W', h1, h2, h3⟩ | ⟨f, args, W', h1, h2, h3⟩
        · rw [h1]
          exact hK _ _ (next v W' h2 h3)
        · rw [h1]
          refine h3.mono ?_
          rintro e W'' ⟨v, rfl, hb, hv⟩
          exact hK _ _ (next v W'' (h2.trans (hb.mono h2.size)) hv)
  refine wp_region_any hm ?_
  have hno : ∀ i, isIn (Array.replicate l.toArray.size false) i = false := fun i => getD_replicate_false _ _
  have := main m (Array.replicate l.toArray.size false) a w.drew (by simp) (fun j oj _ hl => (by rw [getD_replicate_false] at hl; cases hl)) (fun i _ => hno i)
    ⟨rfl, rfl, (Below.refl _ w).drew, fun i d h => (by rw [hno] at h; cases h), fun t _ => rfl⟩
    (by unfold left; rw [List.filter_eq_self.2 (fun i _ => by rw [hno]; rfl)]; simp)
  have e : l.length - m + m = l.toArray.size := by simp; omega
  rw [e] at this
  exact this

end Go.Abs

/- A region that draws its order: its lead told operation by operation, where an operation may also change what is there (an append into a row of one's own); its end waits for all of the lead. -/
namespace Go.Abs
open Go Go.RowKit

variable {P : Program} {Q : Exit → Act → World → Prop}

/-- An operation ends with a value, or calls what returns one; from W to W' it does what Rel says. -/
def StepsR (P : Program) (c : Sem Next) (W : World) (Rel : World → World → Prop) (R : Value → World → Prop) : Prop :=
  (∃ v W', c.run P W = .ok (.value v) W' ∧ Rel W W' ∧ R v W') ∨
  (∃ f args, c.run P W = .ok (.enter f args) W ∧ Calls P f args W fun e W'' => ∃ v, e = .returned v ∧ Rel W W'' ∧ R v W'')

structure VInvR (Val : Nat → Value → World → Prop) (Good : Array Bool → World → Prop) (l : List Oper) (a : Act) (listed : Array Bool) (a' : Act) (W : World) : Prop where
  len : a'.tmps.size = a.tmps.size
  defers : a'.defers = a.defers
  good : Good listed W
  vals : ∀ i d, isIn listed i = true → dstOf l.toArray i = some d → Val i (a'.tmps.getD d undef) W
  rest : ∀ t, (∀ i, isIn listed i = true → dstOf l.toArray i ≠ some t) → a'.tmps[t]? = a.tmps[t]?

theorem wp_region_valsR {id : Nat} {l : List Oper} {a : Act} {w : World} (m : Nat) (Val : Nat → Value → World → Prop) (Rel : Nat → World → World → Prop) (Good : Array Bool → World → Prop) (hm : P.follows .mixedOrders = true) (hB : valsTB a.tmps.size l m = true)
    (hg0 : Good (Array.replicate l.length false) w.drew)
    (hgood : ∀ (listed : Array Bool) j W W', listed.size = l.length → j < m → isIn listed j = false → Good listed W → Rel j W W' → Good (listed.setIfInBounds j true) W')
    (hst : ∀ (listed : Array Bool) i j v W W', i < m → j < m → i ≠ j → anc l.toArray i j = false → isIn listed j = false → Val i v W → Good listed W → Rel j W W' → Val i v W')
    (hstep : ∀ i o, (l.take m)[i]? = some o → ∀ (listed : Array Bool) (a' : Act) W, isIn listed i = false → Good listed W → (∀ t, ((l.take m).map (·.dst)).contains (some t) = false → a'.eval (.tmp t) = a.eval (.tmp t)) →
      (∀ e ∈ o.after.toList, Region.binds .any e = true → ∀ d, dstOf (l.take m).toArray e.on = some d → Val e.on (a'.eval (.tmp d)) W) → StepsR P (execOp a'.eval o) W (Rel i) (Val i))
    (hQ : ∀ listed W, listed = ledList l.length m → Good listed W → VQ Val W (fun tm => wpAny P .any l.toArray Q (l.length - m) listed { a with tmps := tm } W) 0 ((l.take m).map (·.dst)) a.tmps) :
    (Code.region id l.toArray true).wp P Q a w := by
  unfold valsTB at hB
  simp only [Bool.and_eq_true, decide_eq_true_eq] at hB
  obtain ⟨⟨⟨hml, hBp⟩, hback⟩, htail⟩ := hB
  simp only [List.all_eq_true, List.mem_range, Bool.or_eq_true, decide_eq_true_eq] at htail hback
  unfold valsB at hBp
  simp only [Bool.and_eq_true, List.all_eq_true, List.mem_range, Bool.or_eq_true, beq_iff_eq, Bool.not_eq_true', Option.isNone_iff_eq_none] at hBp
  obtain ⟨⟨hB1, hB2⟩, -⟩ := hBp
  have hpl : (l.take m).length = m := by simp; omega
  have hd : ∀ i o, (l.take m)[i]? = some o → ∃ d, o.dst = some d ∧ d < a.tmps.size ∧ o.guard = none ∧ dstOf (l.take m).toArray i = some d := by
    intro i o ho
    obtain ⟨h1, h2⟩ := hB1 o (List.mem_of_getElem? ho)
    cases hdo : o.dst with
    | none => rw [hdo] at h2; cases h2
    | some d =>
      rw [hdo] at h2
      refine ⟨d, rfl, by simpa using h2, h1, ?_⟩
      unfold dstOf
      rw [List.getElem?_toArray, ho]
      exact hdo
  have hdi : ∀ i d, dstOf (l.take m).toArray i = some d → ∃ o, (l.take m)[i]? = some o ∧ o.dst = some d := by
    intro i d h
    unfold dstOf at h
    rw [List.getElem?_toArray] at h
    cases ho : (l.take m)[i]? with
    | none => rw [ho] at h; cases h
    | some o => rw [ho] at h; exact ⟨o, rfl, h⟩
  have hne : ∀ i j d, dstOf (l.take m).toArray i = some d → dstOf (l.take m).toArray j = some d → i = j := by
    intro i j d h1 h2
    obtain ⟨o1, g1, -⟩ := hdi i d h1
    obtain ⟨o2, g2, -⟩ := hdi j d h2
    rcases hB2 i (List.getElem?_eq_some_iff.1 g1).1 j (List.getElem?_eq_some_iff.1 g2).1 with e | e
    · exact e
    · rw [h1, h2] at e
      simp at e
  have main : ∀ (k : Nat) (listed : Array Bool) (a' : Act) (W : World), listed.size = l.length → Closed l.toArray listed → (∀ i, m ≤ i → isIn listed i = false) → VInvR Val Good (l.take m) a listed a' W → left m listed = k →
      wpAny P .any l.toArray Q (l.length - m + k) listed a' W := by
    intro k
    induction k with
    | zero =>
      intro listed a' W hls _ ht hi hl
      have hall := left_zero hl
      have e1 := listed_eq hml hls hall ht
      have := VQ.get (tm' := a'.tmps) ((l.take m).map (·.dst)) 0 a.tmps (hQ listed W e1 hi.good) hi.len.symm
        (fun j d hj => by
          rw [List.getElem?_map] at hj
          cases ho : (l.take m)[j]? with
          | none => rw [ho] at hj; cases hj
          | some o =>
            rw [ho] at hj
            obtain ⟨d', h1, h2, -, h4⟩ := hd j o ho
            simp only [Option.map_some, Option.some.injEq] at hj
            rw [h1] at hj
            cases hj
            refine ⟨by rw [hi.len]; exact h2, ?_⟩
            rw [Nat.zero_add]
            exact hi.vals j d (hall j (by have := (List.getElem?_eq_some_iff.1 ho).1; omega)) h4)
        (fun t ht => hi.rest t (fun j _ e => ht j (by
          obtain ⟨o, h1, h2⟩ := hdi j t e
          rw [List.getElem?_map, h1]
          simp [h2])))
      have e : ({ a with tmps := a'.tmps } : Act) = a' := by
        obtain ⟨t1, d1⟩ := a'
        have := hi.defers
        simp only at this
        simp [this]
      rw [e] at this
      exact this
    | succ k ih =>
      intro listed a' W hls hcl ht hi hl
      refine ⟨fun hnil => ?_, fun i hir => ?_⟩
      · exfalso
        have hall : ∀ i, i < m → isIn listed i = true := by
          intro i
          induction i using Nat.strongRecOn with
          | _ i ih2 =>
            intro him
            cases hli : isIn listed i with
            | true => rfl
            | false =>
              exfalso
              have hin : i < l.length := by omega
              have ho : l[i]? = some l[i] := List.getElem?_eq_getElem hin
              have : i ∈ Region.ready .any l.toArray listed := by
                rw [mem_ready]
                refine ⟨getD_in (by omega) hli, l[i], by rw [List.getElem?_toArray]; exact ho, fun e he hb => ?_⟩
                have h1 := hback i hin
                rw [ho] at h1
                simp only [List.all_eq_true] at h1
                have h2 := h1 e (by simpa using he)
                simp only [hb, Bool.not_true, Bool.false_or, decide_eq_true_eq] at h2
                exact ih2 e.on h2 (by omega)
              rw [hnil] at this
              cases this
        have : left m listed = 0 := by
          unfold left
          rw [List.length_eq_zero_iff, List.filter_eq_nil_iff]
          intro i hi2
          simp [hall i (List.mem_range.1 hi2)]
        omega
      · obtain ⟨hun, o, ho, hdep⟩ := mem_ready.1 hir
        rw [List.getElem?_toArray] at ho
        have hin := (List.getElem?_eq_some_iff.1 ho).1
        have hil : i < listed.size := by omega
        have hli : isIn listed i = false := getD_both hun
        have up : ∀ j, anc l.toArray i j = true → isIn listed j = true := fun j hj => anc_listed hcl i j hj (fun o' ho' e he hb => by
          rw [List.getElem?_toArray, ho] at ho'; cases ho'; exact hdep e he hb)
        have him : i < m := by
          rcases Nat.lt_or_ge i m with h | h
          · exact h
          · exfalso
            have hall : ∀ j, j < m → isIn listed j = true := by
              intro j hj
              rcases htail i hin with h1 | h1
              · omega
              · exact up j (h1 j hj)
            have : left m listed = 0 := by
              unfold left
              rw [List.length_eq_zero_iff, List.filter_eq_nil_iff]
              intro j hj
              simp [hall j (List.mem_range.1 hj)]
            omega
        have hop : (l.take m)[i]? = some o := by rw [List.getElem?_take, if_pos him]; exact ho
        obtain ⟨d, hdo, hds, hgu, hdst⟩ := hd i o hop
        have hnew : isIn (listed.setIfInBounds i true) i = true := by rw [isIn_set hil]; simp
        have hother : ∀ j, j ≠ i → isIn (listed.setIfInBounds i true) j = isIn listed j := fun j hj => by
          rw [isIn_set hil]
          have : (j == i) = false := by simpa using hj
          rw [this, Bool.or_false]
        have next : ∀ v W', Rel i W W' → Val i v W' → wpAny P .any l.toArray Q (l.length - m + k) (listed.setIfInBounds i true) (a'.put o.dst v) W' := by
          intro v W' hW' hv
          rw [hdo]
          have hlen : d < a'.tmps.size := by rw [hi.len]; exact hds
          refine ih _ _ _ (by simpa using hls) ?_ ?_ ⟨by simp [Act.put, hi.len], hi.defers, hgood listed i W W' hls him hli hi.good hW', fun j dj hj hdj => ?_, fun t ht => ?_⟩ ?_
          · intro j oj hoj hlj e he hb
            change isIn _ _ = true at hlj
            change isIn _ _ = true
            by_cases hji : j = i
            · subst hji
              rw [List.getElem?_toArray, ho] at hoj; cases hoj
              have := hdep e he hb
              by_cases hee : e.on = j
              · rw [hee]; exact hnew
              · rw [hother _ hee]; exact this
            · rw [hother j hji] at hlj
              have := hcl j oj hoj hlj e he hb
              by_cases hee : e.on = i
              · rw [hee]; exact hnew
              · rw [hother _ hee]; exact this
          · intro j hj
            rw [hother j (by omega)]
            exact ht j hj
          · show Val j ((a'.tmps.setIfInBounds d v).getD dj undef) W'
            by_cases hji : j = i
            · subst hji
              rw [hdst] at hdj
              cases hdj
              rw [Array.getD_eq_getD_getElem?, Array.getElem?_setIfInBounds_self_of_lt hlen]
              exact hv
            · rw [hother j hji] at hj
              have hdd : d ≠ dj := fun e => by subst e; exact hji (hne j i d hdj hdst)
              rw [Array.getD_eq_getD_getElem?, Array.getElem?_setIfInBounds_ne hdd, ← Array.getD_eq_getD_getElem?]
              have hjm : j < m := by
                rcases Nat.lt_or_ge j m with h | h
                · exact h
                · rw [ht j h] at hj; cases hj
              refine hst listed j i _ W W' hjm him hji ?_ hli (hi.vals j dj hj hdj) hi.good hW'
              cases hanc : anc l.toArray j i with
              | false => rfl
              | true =>
                exfalso
                have := anc_listed hcl j i hanc (fun o' ho' e he hb => hcl j o' ho' hj e he hb)
                change isIn listed i = true at this
                rw [hli] at this
                cases this
          · show (a'.tmps.setIfInBounds d v)[t]? = _
            have htd : d ≠ t := fun e => by
              subst e
              exact ht i hnew hdst
            rw [Array.getElem?_setIfInBounds_ne htd]
            refine hi.rest t (fun j hj => ht j ?_)
            by_cases hji : j = i
            · subst hji; exact hnew
            · rw [hother j hji]; exact hj
          · have h2 : left m (listed.setIfInBounds i true) + 1 = left m listed := by
              unfold left
              refine (filter_insert (i := i) m him (by simp [hli]) ?_ fun j hj => ?_).symm
              · simp [hnew]
              · rw [hother j hj]
            omega
        have hS := hstep i o hop listed a' W hli hi.good
          (fun t ht => by
            have := hi.rest t (fun j _ e => by
              obtain ⟨o2, g1, g2⟩ := hdi j t e
              have : some t ∈ (l.take m).map (·.dst) := List.mem_map.2 ⟨o2, List.mem_of_getElem? g1, g2⟩
              rw [← List.contains_iff_mem, ht] at this
              cases this)
            show a'.tmps.getD t undef = a.tmps.getD t undef
            simp only [Array.getD_eq_getD_getElem?, this])
          (fun e he hb de hde => hi.vals e.on de (hdep e (by simpa using he) hb) hde)
        refine wpOp_step (o := o) (by rw [List.getElem?_toArray]; exact ho) (fun K hK => ?_)
        rw [if_pos (show Region.wanted o _ = true by unfold Region.wanted; rw [hgu])]
        unfold Oper.wp
        rcases hS with ⟨v, W', h1, h2, h3⟩ | ⟨f, args, h1, h3⟩
        · rw [h1]
          exact hK _ _ (next v W' h2 h3)
        · rw [h1]
          refine h3.mono ?_
          rintro e W'' ⟨v, rfl, hb, hv⟩
          exact hK _ _ (next v W'' hb hv)
  refine wp_region_any hm ?_
  have hno : ∀ i, isIn (Array.replicate l.toArray.size false) i = false := fun i => getD_replicate_false _ _
  have := main m (Array.replicate l.toArray.size false) a w.drew (by simp) (fun j oj _ hl => (by rw [getD_replicate_false] at hl; cases hl)) (fun i _ => hno i)
    ⟨rfl, rfl, (by simpa using hg0), fun i d h => (by rw [hno] at h; cases h), fun t _ => rfl⟩
    (by unfold left; rw [List.filter_eq_self.2 (fun i _ => by rw [hno]; rfl)]; simp)
  have e : l.length - m + m = l.toArray.size := by simp; omega
  rw [e] at this
  exact this

end Go.Abs

/- A region that draws its order: its lead told operation by operation, where an operation may change what is there; each knows that what it waits for is done. -/
namespace Go.Abs
open Go Go.RowKit

variable {P : Program} {Q : Exit → Act → World → Prop}

theorem wp_region_valsA {id : Nat} {l : List Oper} {a : Act} {w : World} (m : Nat) (Val : Nat → Value → World → Prop) (Rel : Nat → World → World → Prop) (Good : Array Bool → World → Prop) (hm : P.follows .mixedOrders = true) (hB : valsTB a.tmps.size l m = true)
    (hg0 : Good (Array.replicate l.length false) w.drew)
    (hgood : ∀ (listed : Array Bool) j W W', listed.size = l.length → j < m → isIn listed j = false → (∀ k, anc l.toArray j k = true → isIn listed k = true) → Good listed W → Rel j W W' → Good (listed.setIfInBounds j true) W')
    (hst : ∀ (listed : Array Bool) i j v W W', i < m → j < m → i ≠ j → anc l.toArray i j = false → isIn listed j = false → Val i v W → Good listed W → Rel j W W' → Val i v W')
    (hstep : ∀ i o, (l.take m)[i]? = some o → ∀ (listed : Array Bool) (a' : Act) W, isIn listed i = false → (∀ k, anc l.toArray i k = true → isIn listed k = true) → Good listed W → (∀ t, ((l.take m).map (·.dst)).contains (some t) = false → a'.eval (.tmp t) = a.eval (.tmp t)) →
      (∀ e ∈ o.after.toList, Region.binds .any e = true → ∀ d, dstOf (l.take m).toArray e.on = some d → Val e.on (a'.eval (.tmp d)) W) → StepsR P (execOp a'.eval o) W (Rel i) (Val i))
    (hQ : ∀ listed W, listed = ledList l.length m → Good listed W → VQ Val W (fun tm => wpAny P .any l.toArray Q (l.length - m) listed { a with tmps := tm } W) 0 ((l.take m).map (·.dst)) a.tmps) :
    (Code.region id l.toArray true).wp P Q a w := by
  unfold valsTB at hB
  simp only [Bool.and_eq_true, decide_eq_true_eq] at hB
  obtain ⟨⟨⟨hml, hBp⟩, hback⟩, htail⟩ := hB
  simp only [List.all_eq_true, List.mem_range, Bool.or_eq_true, decide_eq_true_eq] at htail hback
  unfold valsB at hBp
  simp only [Bool.and_eq_true, List.all_eq_true, List.mem_range, Bool.or_eq_true, beq_iff_eq, Bool.not_eq_true', Option.isNone_iff_eq_none] at hBp
  obtain ⟨⟨hB1, hB2⟩, -⟩ := hBp
  have hpl : (l.take m).length = m := by simp; omega
  have hd : ∀ i o, (l.take m)[i]? = some o → ∃ d, o.dst = some d ∧ d < a.tmps.size ∧ o.guard = none ∧ dstOf (l.take m).toArray i = some d := by
    intro i o ho
    obtain ⟨h1, h2⟩ := hB1 o (List.mem_of_getElem? ho)
    cases hdo : o.dst with
    | none => rw [hdo] at h2; cases h2
    | some d =>
      rw [hdo] at h2
      refine ⟨d, rfl, by simpa using h2, h1, ?_⟩
      unfold dstOf
      rw [List.getElem?_toArray, ho]
      exact hdo
  have hdi : ∀ i d, dstOf (l.take m).toArray i = some d → ∃ o, (l.take m)[i]? = some o ∧ o.dst = some d := by
    intro i d h
    unfold dstOf at h
    rw [List.getElem?_toArray] at h
    cases ho : (l.take m)[i]? with
    | none => rw [ho] at h; cases h
    | some o => rw [ho] at h; exact ⟨o, rfl, h⟩
  have hne : ∀ i j d, dstOf (l.take m).toArray i = some d → dstOf (l.take m).toArray j = some d → i = j := by
    intro i j d h1 h2
    obtain ⟨o1, g1, -⟩ := hdi i d h1
    obtain ⟨o2, g2, -⟩ := hdi j d h2
    rcases hB2 i (List.getElem?_eq_some_iff.1 g1).1 j (List.getElem?_eq_some_iff.1 g2).1 with e | e
    · exact e
    · rw [h1, h2] at e
      simp at e
  have main : ∀ (k : Nat) (listed : Array Bool) (a' : Act) (W : World), listed.size = l.length → Closed l.toArray listed → (∀ i, m ≤ i → isIn listed i = false) → VInvR Val Good (l.take m) a listed a' W → left m listed = k →
      wpAny P .any l.toArray Q (l.length - m + k) listed a' W := by
    intro k
    induction k with
    | zero =>
      intro listed a' W hls _ ht hi hl
      have hall := left_zero hl
      have e1 := listed_eq hml hls hall ht
      have := VQ.get (tm' := a'.tmps) ((l.take m).map (·.dst)) 0 a.tmps (hQ listed W e1 hi.good) hi.len.symm
        (fun j d hj => by
          rw [List.getElem?_map] at hj
          cases ho : (l.take m)[j]? with
          | none => rw [ho] at hj; cases hj
          | some o =>
            rw [ho] at hj
            obtain ⟨d', h1, h2, -, h4⟩ := hd j o ho
            simp only [Option.map_some, Option.some.injEq] at hj
            rw [h1] at hj
            cases hj
            refine ⟨by rw [hi.len]; exact h2, ?_⟩
            rw [Nat.zero_add]
            exact hi.vals j d (hall j (by have := (List.getElem?_eq_some_iff.1 ho).1; omega)) h4)
        (fun t ht => hi.rest t (fun j _ e => ht j (by
          obtain ⟨o, h1, h2⟩ := hdi j t e
          rw [List.getElem?_map, h1]
          simp [h2])))
      have e : ({ a with tmps := a'.tmps } : Act) = a' := by
        obtain ⟨t1, d1⟩ := a'
        have := hi.defers
        simp only at this
        simp [this]
      rw [e] at this
      exact this
    | succ k ih =>
      intro listed a' W hls hcl ht hi hl
      refine ⟨fun hnil => ?_, fun i hir => ?_⟩
      · exfalso
        have hall : ∀ i, i < m → isIn listed i = true := by
          intro i
          induction i using Nat.strongRecOn with
          | _ i ih2 =>
            intro him
            cases hli : isIn listed i with
            | true => rfl
            | false =>
              exfalso
              have hin : i < l.length := by omega
              have ho : l[i]? = some l[i] := List.getElem?_eq_getElem hin
              have : i ∈ Region.ready .any l.toArray listed := by
                rw [mem_ready]
                refine ⟨getD_in (by omega) hli, l[i], by rw [List.getElem?_toArray]; exact ho, fun e he hb => ?_⟩
                have h1 := hback i hin
                rw [ho] at h1
                simp only [List.all_eq_true] at h1
                have h2 := h1 e (by simpa using he)
                simp only [hb, Bool.not_true, Bool.false_or, decide_eq_true_eq] at h2
                exact ih2 e.on h2 (by omega)
              rw [hnil] at this
              cases this
        have : left m listed = 0 := by
          unfold left
          rw [List.length_eq_zero_iff, List.filter_eq_nil_iff]
          intro i hi2
          simp [hall i (List.mem_range.1 hi2)]
        omega
      · obtain ⟨hun, o, ho, hdep⟩ := mem_ready.1 hir
        rw [List.getElem?_toArray] at ho
        have hin := (List.getElem?_eq_some_iff.1 ho).1
        have hil : i < listed.size := by omega
        have hli : isIn listed i = false := getD_both hun
        have up : ∀ j, anc l.toArray i j = true → isIn listed j = true := fun j hj => anc_listed hcl i j hj (fun o' ho' e he hb => by
          rw [List.getElem?_toArray, ho] at ho'; cases ho'; exact hdep e he hb)
        have him : i < m := by
          rcases Nat.lt_or_ge i m with h | h
          · exact h
          · exfalso
            have hall : ∀ j, j < m → isIn listed j = true := by
              intro j hj
              rcases htail i hin with h1 | h1
              · omega
              · exact up j (h1 j hj)
            have : left m listed = 0 := by
              unfold left
              rw [List.length_eq_zero_iff, List.filter_eq_nil_iff]
              intro j hj
              simp [hall j (List.mem_range.1 hj)]
            omega
        have hop : (l.take m)[i]? = some o := by rw [List.getElem?_take, if_pos him]; exact ho
        obtain ⟨d, hdo, hds, hgu, hdst⟩ := hd i o hop
        have hnew : isIn (listed.setIfInBounds i true) i = true := by rw [isIn_set hil]; simp
        have hother : ∀ j, j ≠ i → isIn (listed.setIfInBounds i true) j = isIn listed j := fun j hj => by
          rw [isIn_set hil]
          have : (j == i) = false := by simpa using hj
          rw [this, Bool.or_false]
        have next : ∀ v W', Rel i W W' → Val i v W' → wpAny P .any l.toArray Q (l.length - m + k) (listed.setIfInBounds i true) (a'.put o.dst v) W' := by
          intro v W' hW' hv
          rw [hdo]
          have hlen : d < a'.tmps.size := by rw [hi.len]; exact hds
          refine ih _ _ _ (by simpa using hls) ?_ ?_ ⟨by simp [Act.put, hi.len], hi.defers, hgood listed i W W' hls him hli up hi.good hW', fun j dj hj hdj => ?_, fun t ht => ?_⟩ ?_
          · intro j oj hoj hlj e he hb
            change isIn _ _ = true at hlj
            change isIn _ _ = true
            by_cases hji : j = i
            · subst hji
              rw [List.getElem?_toArray, ho] at hoj; cases hoj
              have := hdep e he hb
              by_cases hee : e.on = j
              · rw [hee]; exact hnew
              · rw [hother _ hee]; exact this
            · rw [hother j hji] at hlj
              have := hcl j oj hoj hlj e he hb
              by_cases hee : e.on = i
              · rw [hee]; exact hnew
              · rw [hother _ hee]; exact this
          · intro j hj
            rw [hother j (by omega)]
            exact ht j hj
          · show Val j ((a'.tmps.setIfInBounds d v).getD dj undef) W'
            by_cases hji : j = i
            · subst hji
              rw [hdst] at hdj
              cases hdj
              rw [Array.getD_eq_getD_getElem?, Array.getElem?_setIfInBounds_self_of_lt hlen]
              exact hv
            · rw [hother j hji] at hj
              have hdd : d ≠ dj := fun e => by subst e; exact hji (hne j i d hdj hdst)
              rw [Array.getD_eq_getD_getElem?, Array.getElem?_setIfInBounds_ne hdd, ← Array.getD_eq_getD_getElem?]
              have hjm : j < m := by
                rcases Nat.lt_or_ge j m with h | h
                · exact h
                · rw [ht j h] at hj; cases hj
              refine hst listed j i _ W W' hjm him hji ?_ hli (hi.vals j dj hj hdj) hi.good hW'
              cases hanc : anc l.toArray j i with
              | false => rfl
              | true =>
                exfalso
                have := anc_listed hcl j i hanc (fun o' ho' e he hb => hcl j o' ho' hj e he hb)
                change isIn listed i = true at this
                rw [hli] at this
                cases this
          · show (a'.tmps.setIfInBounds d v)[t]? = _
            have htd : d ≠ t := fun e => by
              subst e
              exact ht i hnew hdst
            rw [Array.getElem?_setIfInBounds_ne htd]
            refine hi.rest t (fun j hj => ht j ?_)
            by_cases hji : j = i
            · subst hji; exact hnew
            · rw [hother j hji]; exact hj
          · have h2 : left m (listed.setIfInBounds i true) + 1 = left m listed := by
              unfold left
              refine (filter_insert (i := i) m him (by simp [hli]) ?_ fun j hj => ?_).symm
              · simp [hnew]
              · rw [hother j hj]
            omega
        have hS := hstep i o hop listed a' W hli up hi.good
          (fun t ht => by
            have := hi.rest t (fun j _ e => by
              obtain ⟨o2, g1, g2⟩ := hdi j t e
              have : some t ∈ (l.take m).map (·.dst) := List.mem_map.2 ⟨o2, List.mem_of_getElem? g1, g2⟩
              rw [← List.contains_iff_mem, ht] at this
              cases this)
            show a'.tmps.getD t undef = a.tmps.getD t undef
            simp only [Array.getD_eq_getD_getElem?, this])
          (fun e he hb de hde => hi.vals e.on de (hdep e (by simpa using he) hb) hde)
        refine wpOp_step (o := o) (by rw [List.getElem?_toArray]; exact ho) (fun K hK => ?_)
        rw [if_pos (show Region.wanted o _ = true by unfold Region.wanted; rw [hgu])]
        unfold Oper.wp
        rcases hS with ⟨v, W', h1, h2, h3⟩ | ⟨f, args, h1, h3⟩
        · rw [h1]
          exact hK _ _ (next v W' h2 h3)
        · rw [h1]
          refine h3.mono ?_
          rintro e W'' ⟨v, rfl, hb, hv⟩
          exact hK _ _ (next v W'' hb hv)
  refine wp_region_any hm ?_
  have hno : ∀ i, isIn (Array.replicate l.toArray.size false) i = false := fun i => getD_replicate_false _ _
  have := main m (Array.replicate l.toArray.size false) a w.drew (by simp) (fun j oj _ hl => (by rw [getD_replicate_false] at hl; cases hl)) (fun i _ => hno i)
    ⟨rfl, rfl, (by simpa using hg0), fun i d h => (by rw [hno] at h; cases h), fun t _ => rfl⟩
    (by unfold left; rw [List.filter_eq_self.2 (fun i _ => by rw [hno]; rfl)]; simp)
  have e : l.length - m + m = l.toArray.size := by simp; omega
  rw [e] at this
  exact this

end Go.Abs
