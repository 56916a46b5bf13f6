/- The abstract machine, part QA. -/
import Derived.Test.YtpknllbglppjcaaQC
import Derived.OwnWalkIn
/- A region that draws its order, in a fence or in a round: what leads up to its end reads, or calls what only makes memory; the end comes last in every order. -/
namespace Go.Abs
open Go Go.RowKit

/-- An operation that waits for nothing and defers nothing. -/
def growOp (o : Oper) : Bool :=
  match o.op with
  | .select .. | .defer _ => false
  | _ => true

def growB (ops : Array Oper) (m : Nat) : Bool :=
  let A := ancs ops.toList []
  decide (m ≤ ops.size) &&
  ((List.range ops.size).all fun i => match ops[i]? with
    | none => true
    | some o => o.after.toList.all fun e => !Region.binds .any e || decide (e.on < i)) &&
  ((List.range m).all fun i => match ops[i]? with
    | none => true
    | some o => o.guard.isNone && growOp o && o.dst.isSome && ((List.range m).all fun j => match dstOf ops j with
        | none => true
        | some t => (i == j || !(o.dst == some t)) && (!(reads ops o).contains t || ancA A i j))) &&
  ((List.range ops.size).all fun k => decide (k < m) || ((List.range m).all fun j => ancA A k j))

/-- What an operation of the lead does in a world: it yields what the frame holds in its slot, or it calls what yields it and only makes memory. -/
def GrowsAt (F : Fence) (n : Nat) (P : Program) (a1 : Act) (W : World) (o : Oper) (d : Nat) : Prop :=
  (execOp a1.eval o).run P W = .ok (.value (a1.eval (.tmp d))) W ∨
  ∃ f args, (execOp a1.eval o).run P W = .ok (.enter f args) W ∧ CallsIn F (n - 1) P f args W fun e W' => e = .returned (a1.eval (.tmp d)) ∧ Below W.heap.size W W'

variable {F : Fence} {n m : Nat} {P : Program} {ops : Array Oper} {Q : Exit → Act → World → Prop} {a a1 : Act} {w : World}

theorem grow_sound (hfn : ∀ f, F.fn f) (hn : 1 ≤ n) (hB : growB ops m = true) (hsz : a1.tmps.size = a.tmps.size) (hdf : a1.defers = a.defers)
    (hkeep : ∀ t, (∀ j, j < m → dstOf ops j ≠ some t) → a1.tmps[t]? = a.tmps[t]?)
    (hy : ∀ i o d, i < m → ops[i]? = some o → o.dst = some d → d < a1.tmps.size ∧ ∀ W, Below w.heap.size w W → GrowsAt F n P a1 W o d)
    (hQ : ∀ listed : Array Bool, listed.size = ops.size → (∀ i, i < m → isIn listed i = true) → (∀ i, m ≤ i → isIn listed i = false) → ∀ W, Below w.heap.size w W → wpAnyIn F n P .any ops Q (ops.size - m) listed a1 W) :
    ∀ (k : Nat) (listed : Array Bool) (a' : Act) (W : World), Below w.heap.size w W → Lead ops m a a1 a' listed → left m listed = k → wpAnyIn F n P .any ops Q (ops.size - m + k) listed a' W := by
  unfold growB at hB
  simp only [Bool.and_eq_true, List.all_eq_true, List.mem_range, decide_eq_true_eq, Bool.or_eq_true] at hB
  obtain ⟨⟨⟨hm, hback⟩, hpre⟩, htail⟩ := hB
  intro k
  induction k with
  | zero =>
    intro listed a' W hW hi hl
    have hall := left_zero hl
    have : a' = a1 := by
      have ht : a'.tmps = a1.tmps := by
        apply Array.ext_getElem?
        intro t
        by_cases h : ∃ j, j < m ∧ dstOf ops j = some t
        · obtain ⟨j, h1, h2⟩ := h
          exact hi.done t j h1 (hall j h1) h2
        · rw [hkeep t (fun j hj e => h ⟨j, hj, e⟩), hi.rest t (fun j hj _ e => h ⟨j, hj, e⟩)]
      obtain ⟨t1, d1⟩ := a'
      obtain ⟨t2, d2⟩ := a1
      simp only at ht
      have hd : d1 = d2 := hi.defers.trans hdf.symm
      rw [ht, hd]
    subst this
    exact hQ listed hi.size hall hi.tail W hW
  | succ k ih =>
    intro listed a' W hW hi hl
    have hsz' := hi.size
    refine ⟨fun hnil => ?_, fun i hir => ?_⟩
    · exfalso
      have hall : ∀ i, i < m → isIn listed i = true := by
        intro i
        induction i using Nat.strongRecOn with
        | _ i ih2 =>
          intro him
          cases hli : isIn listed i with
          | true => rfl
          | false =>
            exfalso
            have hin : i < ops.size := by omega
            obtain ⟨o, ho⟩ : ∃ o, ops[i]? = some o := ⟨ops[i], by simp [hin]⟩
            have : i ∈ Region.ready .any ops listed := by
              rw [mem_ready]
              refine ⟨getD_in (by omega) hli, o, ho, fun e he hb => ?_⟩
              have h1 := hback i hin
              rw [ho] at h1
              simp only [List.all_eq_true] at h1
              have h2 := h1 e (by simpa using he)
              simp only [hb, Bool.not_true, Bool.false_or, decide_eq_true_eq] at h2
              exact ih2 e.on h2 (by omega)
            rw [hnil] at this
            cases this
      have : left m listed = 0 := by
        unfold left
        rw [List.length_eq_zero_iff, List.filter_eq_nil_iff]
        intro i hi2
        simp [hall i (List.mem_range.1 hi2)]
      omega
    · obtain ⟨hun, o, ho, hdeps⟩ := mem_ready.1 hir
      have hin := (Array.getElem?_eq_some_iff.1 ho).1
      have hli : isIn listed i = false := getD_both hun
      have up : ∀ j, anc ops i j = true → isIn listed j = true := fun j hj => anc_listed hi.closed i j hj (fun o' ho' e he hb => by
        rw [ho] at ho'; cases ho'; exact hdeps e he hb)
      have him : i < m := by
        rcases Nat.lt_or_ge i m with h | h
        · exact h
        · exfalso
          have hall : ∀ j, j < m → isIn listed j = true := by
            intro j hj
            rcases htail i hin with h1 | h1
            · omega
            · exact up j (h1 j hj)
          have : left m listed = 0 := by
            unfold left
            rw [List.length_eq_zero_iff, List.filter_eq_nil_iff]
            intro j hj
            simp [hall j (List.mem_range.1 hj)]
          omega
      have hp := hpre i him
      rw [ho] at hp
      simp only [Bool.and_eq_true, List.all_eq_true, List.mem_range, Option.isNone_iff_eq_none] at hp
      obtain ⟨⟨⟨hg, hpl⟩, hds⟩, hj⟩ := hp
      obtain ⟨d, hd⟩ := Option.isSome_iff_exists.1 hds
      have hdi : dstOf ops i = some d := by unfold dstOf; rw [ho]; exact hd
      have agree : ∀ t, t ∈ reads ops o → a'.tmps[t]? = a1.tmps[t]? := by
        intro t ht
        by_cases h : ∃ j, j < m ∧ dstOf ops j = some t
        · obtain ⟨j, h1, h2⟩ := h
          have h3 := hj j h1
          rw [h2] at h3
          simp only [Bool.and_eq_true, Bool.or_eq_true, Bool.not_eq_true', List.contains_eq_mem, decide_eq_false_iff_not] at h3
          rcases h3.2 with h4 | h4
          · exact absurd ht h4
          · exact hi.done t j h1 (up j h4) h2
        · rw [hkeep t (fun j hj e => h ⟨j, hj, e⟩), hi.rest t (fun j hj _ e => h ⟨j, hj, e⟩)]
      have hev : ∀ x ∈ o.op.operands, a'.eval x = a1.eval x := by
        intro x hx
        cases x with
        | tmp t =>
          have := agree t (by unfold reads; exact List.mem_append_left _ (List.mem_filterMap.2 ⟨.tmp t, by simpa using hx, rfl⟩))
          show a'.tmps.getD t undef = a1.tmps.getD t undef
          simp only [Array.getD_eq_getD_getElem?, this]
        | _ => rfl
      have hex : execOp a'.eval o = execOp a1.eval o := execOp_congr o (fun cs b he => by unfold growOp at hpl; rw [he] at hpl; cases hpl) hev
      have hsem : o.semAt F.round a'.eval = execOp a1.eval o := (Oper.semAt_plain F _ o (fun c he => by unfold growOp at hpl; rw [he] at hpl; cases hpl)).trans hex
      obtain ⟨hdl, hrun⟩ := hy i o d him ho hd
      have hw : Region.wanted o (yielded ops a'.tmps) = true := by unfold Region.wanted; rw [hg]
      have hnew : isIn (listed.setIfInBounds i true) i = true := by rw [isIn_set (by omega)]; simp
      have hother : ∀ j, j ≠ i → isIn (listed.setIfInBounds i true) j = isIn listed j := fun j hj => by
        rw [isIn_set (by omega)]
        have : (j == i) = false := by simpa using hj
        rw [this, Bool.or_false]
      have hd2 : d < a'.tmps.size := by rw [hi.len, ← hsz]; exact hdl
      have next : ∀ W', Below w.heap.size w W' → wpAnyIn F n P .any ops Q (ops.size - m + k) (listed.setIfInBounds i true) (a'.put o.dst (a1.eval (.tmp d))) W' := by
        intro W' hW'
        refine ih _ _ _ hW' ⟨by simpa using hsz', ?_, ?_, ?_, ?_, ?_, ?_⟩ ?_
        · intro j oj hoj hlj e he hb
          change isIn _ _ = true at hlj
          change isIn _ _ = true
          by_cases hji : j = i
          · subst hji
            rw [ho] at hoj; cases hoj
            have := hdeps e he hb
            by_cases hee : e.on = j
            · rw [hee]; exact hnew
            · rw [hother _ hee]; exact this
          · rw [hother j hji] at hlj
            have := hi.closed j oj hoj hlj e he hb
            by_cases hee : e.on = i
            · rw [hee]; exact hnew
            · rw [hother _ hee]; exact this
        · intro j hj
          rw [hother j (by omega)]
          exact hi.tail j hj
        · rw [hd]; exact hi.defers
        · rw [hd]; simp [Act.put, hi.len]
        · intro t j hjm hlj hdj
          rw [hd]
          show (a'.tmps.setIfInBounds d _)[t]? = _
          by_cases htd : t = d
          · subst htd
            rw [Array.getElem?_setIfInBounds_self_of_lt hd2]
            show some (a1.tmps.getD t undef) = _
            rw [Array.getD_eq_getD_getElem?, Array.getElem?_eq_getElem hdl]
            rfl
          · rw [Array.getElem?_setIfInBounds_ne (Ne.symm htd)]
            have hji : j ≠ i := fun e => by subst e; rw [hdi] at hdj; cases hdj; exact htd rfl
            rw [hother j hji] at hlj
            exact hi.done t j hjm hlj hdj
        · intro t hno
          rw [hd]
          show (a'.tmps.setIfInBounds d _)[t]? = _
          have htd : t ≠ d := fun e => hno i him hnew (by rw [hdi, e])
          rw [Array.getElem?_setIfInBounds_ne (Ne.symm htd)]
          exact hi.rest t fun j hjm hlj => by
            by_cases hji : j = i
            · subst hji; rw [hli] at hlj; cases hlj
            · exact hno j hjm (by rw [hother j hji]; exact hlj)
        · have := left_set (n := m) (listed := listed) (i := i)
          have h2 : left m (listed.setIfInBounds i true) + 1 = left m listed := by
            unfold left
            refine (filter_insert (i := i) m him (by simp [hli]) ?_ fun j hj => ?_).symm
            · simp [hnew]
            · rw [hother j hj]
          omega
      unfold wpOpIn
      simp only [ho, hw, if_true, Oper.wpIn, hsem]
      refine ⟨fun f _ => hfn f, ?_⟩
      rcases hrun W hW with h1 | ⟨f, args, h1, h2⟩
      · rw [h1]
        exact next W hW
      · rw [h1]
        refine ⟨fun _ => hn, h2.mono ?_⟩
        rintro e W' ⟨rfl, hb⟩
        exact next W' (hW.trans (hb.mono hW.size))

/-- THE LAW. -/
theorem wpIn_region_grow {id : Nat} (hm : P.follows .mixedOrders = true) (hfn : ∀ f, F.fn f) (hn : 1 ≤ n) (hB : growB ops m = true) (hsz : a1.tmps.size = a.tmps.size) (hdf : a1.defers = a.defers)
    (hkeep : ∀ t, (∀ j, j < m → dstOf ops j ≠ some t) → a1.tmps[t]? = a.tmps[t]?)
    (hy : ∀ i o d, i < m → ops[i]? = some o → o.dst = some d → d < a1.tmps.size ∧ ∀ W, Below w.heap.size w W → GrowsAt F n P a1 W o d)
    (hQ : ∀ listed : Array Bool, listed.size = ops.size → (∀ i, i < m → isIn listed i = true) → (∀ i, m ≤ i → isIn listed i = false) → ∀ W, Below w.heap.size w W → wpAnyIn F n P .any ops Q (ops.size - m) listed a1 W) :
    (Code.region id ops true).wpIn F n P Q a w := by
  have hmm : m ≤ ops.size := by
    unfold growB at hB
    simp only [Bool.and_eq_true, decide_eq_true_eq] at hB
    exact hB.1.1.1
  refine wpIn_region_any hm ?_
  have hno : ∀ i, isIn (Array.replicate ops.size false) i = false := fun i => getD_replicate_false _ _
  have hd : Below w.heap.size w w.drew := (Below.refl _ w).drew
  have := grow_sound (F := F) (n := n) (P := P) (Q := Q) (w := w) hfn hn hB hsz hdf hkeep hy hQ m (Array.replicate ops.size false) a w.drew hd
    ⟨by simp, fun j oj _ hl => (by rw [getD_replicate_false] at hl; cases hl), fun i _ => hno i, rfl, rfl, fun t j _ hl => (by rw [hno] at hl; cases hl), fun t _ => rfl⟩
    (by unfold left; rw [List.filter_eq_self.2 (fun i _ => by simp [hno])]; simp)
  have e : ops.size - m + m = ops.size := by omega
  rw [e] at this
  exact this

/-- Each operation yields what the frame holds in its slot, or calls what does. -/
def RunsG (F : Fence) (n : Nat) (P : Program) (a1 : Act) (W : World) : List Oper → Prop
  | [] => True
  | o :: l => (∀ d, o.dst = some d → GrowsAt F n P a1 W o d) ∧ RunsG F n P a1 W l

theorem RunsG.get {W : World} : ∀ {l : List Oper}, RunsG F n P a1 W l → ∀ (i : Nat) (o : Oper), l[i]? = some o → ∀ d, o.dst = some d → GrowsAt F n P a1 W o d
  | [], _, i, o, h => by simp at h
  | o' :: l, hr, 0, o, h => by simp at h; subst h; exact hr.1
  | o' :: l, hr, i + 1, o, h => hr.2.get i o (by simpa using h)

/-- The slots lie in the frame. -/
def slotsB (size : Nat) (l : List Oper) : Bool := l.all fun o => match o.dst with | none => true | some d => decide (d < size)

theorem wpIn_region_grown {id : Nat} {l : List Oper} (vals : List (Nat × Value)) (hm : P.follows .mixedOrders = true) (hfn : ∀ f, F.fn f) (hn : 1 ≤ n) (hB : growB l.toArray m = true)
    (hv : vals.map (fun p => some p.1) = (l.take m).map (·.dst)) (hs : slotsB a.tmps.size (l.take m) = true)
    (hy : ∀ W, Below w.heap.size w W → RunsG F n P { a with tmps := putsL a.tmps vals } W (l.take m))
    (hQ : ∀ W, Below w.heap.size w W → wpAnyIn F n P .any l.toArray Q (l.length - m) (ledList l.length m) { a with tmps := putsL a.tmps vals } W) :
    (Code.region id l.toArray true).wpIn F n P Q a w := by
  have hmm : m ≤ l.length := by
    unfold growB at hB
    simp only [Bool.and_eq_true, decide_eq_true_eq] at hB
    simpa using hB.1.1.1
  refine wpIn_region_grow (a1 := { a with tmps := putsL a.tmps vals }) hm hfn hn hB (putsL_size _ _) rfl ?_ ?_ ?_
  · intro t h
    refine putsL_other vals t _ fun p hp e => ?_
    have h1 : some p.1 ∈ vals.map (fun p => some p.1) := List.mem_map.2 ⟨p, hp, rfl⟩
    rw [hv] at h1
    obtain ⟨o, ho, hd⟩ := List.mem_map.1 h1
    obtain ⟨j, hj⟩ := List.mem_iff_getElem?.1 ho
    have hjm : j < m := by
      have := (List.getElem?_eq_some_iff.1 hj).1
      simp at this; omega
    refine h j hjm ?_
    rw [List.getElem?_take, if_pos hjm] at hj
    unfold dstOf
    simp [hj, hd, e]
  · intro i o d hi ho hd
    have ho' : (l.take m)[i]? = some o := by
      rw [List.getElem?_take, if_pos hi]
      simpa using ho
    refine ⟨?_, fun W hW => (hy W hW).get i o ho' d hd⟩
    unfold slotsB at hs
    rw [List.all_eq_true] at hs
    have := hs o (List.mem_of_getElem? ho')
    rw [hd] at this
    simpa [putsL_size] using this
  · intro listed hs h1 h2 W hW
    have := listed_eq (n := l.length) hmm (by simpa using hs) h1 h2
    subst this
    simpa using hQ W hW

end Go.Abs

/- A region that draws its order, in a fence or in a round: what leads up to its end keeps an invariant of the world; the end comes last in every order. -/
namespace Go.Abs
open Go Go.RowKit

def keepB (ops : Array Oper) (m : Nat) : Bool :=
  let A := ancs ops.toList []
  decide (m ≤ ops.size) &&
  ((List.range ops.size).all fun i => match ops[i]? with
    | none => true
    | some o => o.after.toList.all fun e => !Region.binds .any e || decide (e.on < i)) &&
  ((List.range m).all fun i => match ops[i]? with
    | none => true
    | some o => o.guard.isNone && growOp o && ((List.range m).all fun j => match dstOf ops j with
        | none => true
        | some t => (i == j || !(o.dst == some t)) && (!(reads ops o).contains t || ancA A i j))) &&
  ((List.range ops.size).all fun k => decide (k < m) || ((List.range m).all fun j => ancA A k j))

/-- What an operation of the lead does in a world: it yields what the frame holds in its slot, or it calls what yields it; the invariant is kept. -/
def DoesAt (F : Fence) (n : Nat) (P : Program) (I : World → Prop) (a1 : Act) (W : World) (o : Oper) : Prop :=
  (∃ v W2, (execOp a1.eval o).run P W = .ok (.value v) W2 ∧ I W2 ∧ ∀ d, o.dst = some d → v = a1.eval (.tmp d)) ∨
  (∃ f args, (execOp a1.eval o).run P W = .ok (.enter f args) W ∧ CallsIn F (n - 1) P f args W fun e W' => ∃ v, e = .returned v ∧ I W' ∧ ∀ d, o.dst = some d → v = a1.eval (.tmp d)) ∨
  (∃ W2, (execOp a1.eval o).run P W = .ok .skip W2 ∧ I W2 ∧ o.dst = none)

theorem DoesAt.val {F : Fence} {n : Nat} {P : Program} {I : World → Prop} {a1 : Act} {W : World} {o : Oper} {d : Nat} (hd : o.dst = some d) (h : (execOp a1.eval o).run P W = .ok (.value (a1.eval (.tmp d))) W) (hI : I W) : DoesAt F n P I a1 W o :=
  .inl ⟨_, _, h, hI, fun d' hd' => by rw [hd] at hd'; cases hd'; rfl⟩

theorem DoesAt.put {F : Fence} {n : Nat} {P : Program} {I : World → Prop} {a1 : Act} {W W2 : World} {o : Oper} (hd : o.dst = none) (h : (execOp a1.eval o).run P W = .ok .skip W2) (hI : I W2) : DoesAt F n P I a1 W o :=
  .inr (.inr ⟨_, h, hI, hd⟩)

theorem DoesAt.call {F : Fence} {n : Nat} {P : Program} {I : World → Prop} {a1 : Act} {W : World} {o : Oper} {d : Nat} (hd : o.dst = some d) (f : FuncId) (args : Array Value) (h : (execOp a1.eval o).run P W = .ok (.enter f args) W)
    (hc : CallsIn F (n - 1) P f args W fun e W' => e = .returned (a1.eval (.tmp d)) ∧ I W') : DoesAt F n P I a1 W o :=
  .inr (.inl ⟨f, args, h, hc.mono fun e W' ⟨h1, h2⟩ => ⟨_, h1, h2, fun d' hd' => by rw [hd] at hd'; cases hd'; rfl⟩⟩)

variable {F : Fence} {n m : Nat} {I : World → Prop} {P : Program} {ops : Array Oper} {Q : Exit → Act → World → Prop} {a a1 : Act} {w : World}

theorem keep_sound (hfn : ∀ f, F.fn f) (hn : 1 ≤ n) (hB : keepB ops m = true) (hsz : a1.tmps.size = a.tmps.size) (hdf : a1.defers = a.defers)
    (hkeep : ∀ t, (∀ j, j < m → dstOf ops j ≠ some t) → a1.tmps[t]? = a.tmps[t]?)
    (hy : ∀ i o, i < m → ops[i]? = some o → (∀ d, o.dst = some d → d < a1.tmps.size) ∧ ∀ W, I W → DoesAt F n P I a1 W o)
    (hQ : ∀ listed : Array Bool, listed.size = ops.size → (∀ i, i < m → isIn listed i = true) → (∀ i, m ≤ i → isIn listed i = false) → ∀ W, I W → wpAnyIn F n P .any ops Q (ops.size - m) listed a1 W) :
    ∀ (k : Nat) (listed : Array Bool) (a' : Act) (W : World), I W → Lead ops m a a1 a' listed → left m listed = k → wpAnyIn F n P .any ops Q (ops.size - m + k) listed a' W := by
  unfold keepB at hB
  simp only [Bool.and_eq_true, List.all_eq_true, List.mem_range, decide_eq_true_eq, Bool.or_eq_true] at hB
  obtain ⟨⟨⟨hm, hback⟩, hpre⟩, htail⟩ := hB
  intro k
  induction k with
  | zero =>
    intro listed a' W hW hi hl
    have hall := left_zero hl
    have : a' = a1 := by
      have ht : a'.tmps = a1.tmps := by
        apply Array.ext_getElem?
        intro t
        by_cases h : ∃ j, j < m ∧ dstOf ops j = some t
        · obtain ⟨j, h1, h2⟩ := h
          exact hi.done t j h1 (hall j h1) h2
        · rw [hkeep t (fun j hj e => h ⟨j, hj, e⟩), hi.rest t (fun j hj _ e => h ⟨j, hj, e⟩)]
      obtain ⟨t1, d1⟩ := a'
      obtain ⟨t2, d2⟩ := a1
      simp only at ht
      have hd : d1 = d2 := hi.defers.trans hdf.symm
      rw [ht, hd]
    subst this
    exact hQ listed hi.size hall hi.tail W hW
  | succ k ih =>
    intro listed a' W hW hi hl
    have hsz' := hi.size
    refine ⟨fun hnil => ?_, fun i hir => ?_⟩
    · exfalso
      have hall : ∀ i, i < m → isIn listed i = true := by
        intro i
        induction i using Nat.strongRecOn with
        | _ i ih2 =>
          intro him
          cases hli : isIn listed i with
          | true => rfl
          | false =>
            exfalso
            have hin : i < ops.size := by omega
            obtain ⟨o, ho⟩ : ∃ o, ops[i]? = some o := ⟨ops[i], by simp [hin]⟩
            have : i ∈ Region.ready .any ops listed := by
              rw [mem_ready]
              refine ⟨getD_in (by omega) hli, o, ho, fun e he hb => ?_⟩
              have h1 := hback i hin
              rw [ho] at h1
              simp only [List.all_eq_true] at h1
              have h2 := h1 e (by simpa using he)
              simp only [hb, Bool.not_true, Bool.false_or, decide_eq_true_eq] at h2
              exact ih2 e.on h2 (by omega)
            rw [hnil] at this
            cases this
      have : left m listed = 0 := by
        unfold left
        rw [List.length_eq_zero_iff, List.filter_eq_nil_iff]
        intro i hi2
        simp [hall i (List.mem_range.1 hi2)]
      omega
    · obtain ⟨hun, o, ho, hdeps⟩ := mem_ready.1 hir
      have hin := (Array.getElem?_eq_some_iff.1 ho).1
      have hli : isIn listed i = false := getD_both hun
      have up : ∀ j, anc ops i j = true → isIn listed j = true := fun j hj => anc_listed hi.closed i j hj (fun o' ho' e he hb => by
        rw [ho] at ho'; cases ho'; exact hdeps e he hb)
      have him : i < m := by
        rcases Nat.lt_or_ge i m with h | h
        · exact h
        · exfalso
          have hall : ∀ j, j < m → isIn listed j = true := by
            intro j hj
            rcases htail i hin with h1 | h1
            · omega
            · exact up j (h1 j hj)
          have : left m listed = 0 := by
            unfold left
            rw [List.length_eq_zero_iff, List.filter_eq_nil_iff]
            intro j hj
            simp [hall j (List.mem_range.1 hj)]
          omega
      have hp := hpre i him
      rw [ho] at hp
      simp only [Bool.and_eq_true, List.all_eq_true, List.mem_range, Option.isNone_iff_eq_none] at hp
      obtain ⟨⟨hg, hpl⟩, hj⟩ := hp
      have hdi : dstOf ops i = o.dst := by unfold dstOf; rw [ho]; rfl
      have agree : ∀ t, t ∈ reads ops o → a'.tmps[t]? = a1.tmps[t]? := by
        intro t ht
        by_cases h : ∃ j, j < m ∧ dstOf ops j = some t
        · obtain ⟨j, h1, h2⟩ := h
          have h3 := hj j h1
          rw [h2] at h3
          simp only [Bool.and_eq_true, Bool.or_eq_true, Bool.not_eq_true', List.contains_eq_mem, decide_eq_false_iff_not] at h3
          rcases h3.2 with h4 | h4
          · exact absurd ht h4
          · exact hi.done t j h1 (up j h4) h2
        · rw [hkeep t (fun j hj e => h ⟨j, hj, e⟩), hi.rest t (fun j hj _ e => h ⟨j, hj, e⟩)]
      have hev : ∀ x ∈ o.op.operands, a'.eval x = a1.eval x := by
        intro x hx
        cases x with
        | tmp t =>
          have := agree t (by unfold reads; exact List.mem_append_left _ (List.mem_filterMap.2 ⟨.tmp t, by simpa using hx, rfl⟩))
          show a'.tmps.getD t undef = a1.tmps.getD t undef
          simp only [Array.getD_eq_getD_getElem?, this]
        | _ => rfl
      have hex : execOp a'.eval o = execOp a1.eval o := execOp_congr o (fun cs b he => by unfold growOp at hpl; rw [he] at hpl; cases hpl) hev
      have hsem : o.semAt F.round a'.eval = execOp a1.eval o := (Oper.semAt_plain F _ o (fun c he => by unfold growOp at hpl; rw [he] at hpl; cases hpl)).trans hex
      obtain ⟨hdl, hrun⟩ := hy i o him ho
      have hw : Region.wanted o (yielded ops a'.tmps) = true := by unfold Region.wanted; rw [hg]
      have hnew : isIn (listed.setIfInBounds i true) i = true := by rw [isIn_set (by omega)]; simp
      have hother : ∀ j, j ≠ i → isIn (listed.setIfInBounds i true) j = isIn listed j := fun j hj => by
        rw [isIn_set (by omega)]
        have : (j == i) = false := by simpa using hj
        rw [this, Bool.or_false]
      have next : ∀ v W', I W' → (∀ d, o.dst = some d → v = a1.eval (.tmp d)) → wpAnyIn F n P .any ops Q (ops.size - m + k) (listed.setIfInBounds i true) (a'.put o.dst v) W' := by
        intro v W' hW' hv
        refine ih _ _ _ hW' ⟨by simpa using hsz', ?_, ?_, ?_, ?_, ?_, ?_⟩ ?_
        · intro j oj hoj hlj e he hb
          change isIn _ _ = true at hlj
          change isIn _ _ = true
          by_cases hji : j = i
          · subst hji
            rw [ho] at hoj; cases hoj
            have := hdeps e he hb
            by_cases hee : e.on = j
            · rw [hee]; exact hnew
            · rw [hother _ hee]; exact this
          · rw [hother j hji] at hlj
            have := hi.closed j oj hoj hlj e he hb
            by_cases hee : e.on = i
            · rw [hee]; exact hnew
            · rw [hother _ hee]; exact this
        · intro j hj
          rw [hother j (by omega)]
          exact hi.tail j hj
        · cases o.dst <;> exact hi.defers
        · cases o.dst <;> simp [Act.put, hi.len]
        · intro t j hjm hlj hdj
          cases hd : o.dst with
          | none =>
            have hji : j ≠ i := fun e => by subst e; rw [hdi, hd] at hdj; cases hdj
            rw [hother j hji] at hlj
            exact hi.done t j hjm hlj hdj
          | some d =>
            have hdl := hdl d hd
            have hd2 : d < a'.tmps.size := by rw [hi.len, ← hsz]; exact hdl
            rw [hv d hd]
            show (a'.tmps.setIfInBounds d _)[t]? = _
            by_cases htd : t = d
            · subst htd
              rw [Array.getElem?_setIfInBounds_self_of_lt hd2]
              show some (a1.tmps.getD t undef) = _
              rw [Array.getD_eq_getD_getElem?, Array.getElem?_eq_getElem hdl]
              rfl
            · rw [Array.getElem?_setIfInBounds_ne (Ne.symm htd)]
              have hji : j ≠ i := fun e => by subst e; rw [hdi, hd] at hdj; cases hdj; exact htd rfl
              rw [hother j hji] at hlj
              exact hi.done t j hjm hlj hdj
        · intro t hno
          cases hd : o.dst with
          | none =>
            exact hi.rest t fun j hjm hlj => by
              by_cases hji : j = i
              · subst hji; rw [hli] at hlj; cases hlj
              · exact hno j hjm (by rw [hother j hji]; exact hlj)
          | some d =>
            show (a'.tmps.setIfInBounds d _)[t]? = _
            have htd : t ≠ d := fun e => hno i him hnew (by rw [hdi, hd, e])
            rw [Array.getElem?_setIfInBounds_ne (Ne.symm htd)]
            exact hi.rest t fun j hjm hlj => by
              by_cases hji : j = i
              · subst hji; rw [hli] at hlj; cases hlj
              · exact hno j hjm (by rw [hother j hji]; exact hlj)
        · have := left_set (n := m) (listed := listed) (i := i)
          have h2 : left m (listed.setIfInBounds i true) + 1 = left m listed := by
            unfold left
            refine (filter_insert (i := i) m him (by simp [hli]) ?_ fun j hj => ?_).symm
            · simp [hnew]
            · rw [hother j hj]
          omega
      unfold wpOpIn
      simp only [ho, hw, if_true, Oper.wpIn, hsem]
      refine ⟨fun f _ => hfn f, ?_⟩
      rcases hrun W hW with ⟨v, W2, h1, h2, h3⟩ | ⟨f, args, h1, h2⟩ | ⟨W2, h1, h2, h3⟩
      · rw [h1]
        exact next v W2 h2 h3
      · rw [h1]
        refine ⟨fun _ => hn, h2.mono ?_⟩
        rintro e W' ⟨v, rfl, h3, h4⟩
        exact next v W' h3 h4
      · rw [h1]
        exact next undef W2 h2 (fun d hd => by rw [h3] at hd; cases hd)

/-- THE LAW. -/
theorem wpIn_region_keep {id : Nat} (hm : P.follows .mixedOrders = true) (hfn : ∀ f, F.fn f) (hn : 1 ≤ n) (hB : keepB ops m = true) (hI : I w.drew) (hsz : a1.tmps.size = a.tmps.size) (hdf : a1.defers = a.defers)
    (hkeep : ∀ t, (∀ j, j < m → dstOf ops j ≠ some t) → a1.tmps[t]? = a.tmps[t]?)
    (hy : ∀ i o, i < m → ops[i]? = some o → (∀ d, o.dst = some d → d < a1.tmps.size) ∧ ∀ W, I W → DoesAt F n P I a1 W o)
    (hQ : ∀ listed : Array Bool, listed.size = ops.size → (∀ i, i < m → isIn listed i = true) → (∀ i, m ≤ i → isIn listed i = false) → ∀ W, I W → wpAnyIn F n P .any ops Q (ops.size - m) listed a1 W) :
    (Code.region id ops true).wpIn F n P Q a w := by
  have hmm : m ≤ ops.size := by
    unfold keepB at hB
    simp only [Bool.and_eq_true, decide_eq_true_eq] at hB
    exact hB.1.1.1
  refine wpIn_region_any hm ?_
  have hno : ∀ i, isIn (Array.replicate ops.size false) i = false := fun i => getD_replicate_false _ _
  have := keep_sound (F := F) (n := n) (P := P) (I := I) (Q := Q) hfn hn hB hsz hdf hkeep hy hQ m (Array.replicate ops.size false) a w.drew hI
    ⟨by simp, fun j oj _ hl => (by rw [getD_replicate_false] at hl; cases hl), fun i _ => hno i, rfl, rfl, fun t j _ hl => (by rw [hno] at hl; cases hl), fun t _ => rfl⟩
    (by unfold left; rw [List.filter_eq_self.2 (fun i _ => by simp [hno])]; simp)
  have e : ops.size - m + m = ops.size := by omega
  rw [e] at this
  exact this

/-- Each operation does what it must. -/
def RunsI (F : Fence) (n : Nat) (P : Program) (I : World → Prop) (a1 : Act) (W : World) : List Oper → Prop
  | [] => True
  | o :: l => DoesAt F n P I a1 W o ∧ RunsI F n P I a1 W l

theorem RunsI.get {W : World} : ∀ {l : List Oper}, RunsI F n P I a1 W l → ∀ (i : Nat) (o : Oper), l[i]? = some o → DoesAt F n P I a1 W o
  | [], _, i, o, h => by simp at h
  | o' :: l, hr, 0, o, h => by simp at h; subst h; exact hr.1
  | o' :: l, hr, i + 1, o, h => hr.2.get i o (by simpa using h)

theorem wpIn_region_kept {id : Nat} {l : List Oper} (I : World → Prop) (vals : List (Nat × Value)) (hm : P.follows .mixedOrders = true) (hfn : ∀ f, F.fn f) (hn : 1 ≤ n) (hB : keepB l.toArray m = true) (hI : I w.drew)
    (hv : vals.map (fun p => p.1) = (l.take m).filterMap (·.dst)) (hs : slotsB a.tmps.size (l.take m) = true)
    (hy : ∀ W, I W → RunsI F n P I { a with tmps := putsL a.tmps vals } W (l.take m))
    (hQ : ∀ W, I W → wpAnyIn F n P .any l.toArray Q (l.length - m) (ledList l.length m) { a with tmps := putsL a.tmps vals } W) :
    (Code.region id l.toArray true).wpIn F n P Q a w := by
  have hmm : m ≤ l.length := by
    unfold keepB at hB
    simp only [Bool.and_eq_true, decide_eq_true_eq] at hB
    simpa using hB.1.1.1
  refine wpIn_region_keep (I := I) (a1 := { a with tmps := putsL a.tmps vals }) hm hfn hn hB hI (putsL_size _ _) rfl ?_ ?_ ?_
  · intro t h
    refine putsL_other vals t _ fun p hp e => ?_
    have h1 : p.1 ∈ vals.map (fun p => p.1) := List.mem_map.2 ⟨p, hp, rfl⟩
    rw [hv] at h1
    obtain ⟨o, ho, hd⟩ := List.mem_filterMap.1 h1
    obtain ⟨j, hj⟩ := List.mem_iff_getElem?.1 ho
    have hjm : j < m := by
      have := (List.getElem?_eq_some_iff.1 hj).1
      simp at this; omega
    refine h j hjm ?_
    rw [List.getElem?_take, if_pos hjm] at hj
    unfold dstOf
    simp [hj, hd, e]
  · intro i o hi ho
    have ho' : (l.take m)[i]? = some o := by
      rw [List.getElem?_take, if_pos hi]
      simpa using ho
    refine ⟨fun d hd => ?_, fun W hW => (hy W hW).get i o ho'⟩
    unfold slotsB at hs
    rw [List.all_eq_true] at hs
    have := hs o (List.mem_of_getElem? ho')
    rw [hd] at this
    simpa [putsL_size] using this
  · intro listed hs h1 h2 W hW
    have := listed_eq (n := l.length) hmm (by simpa using hs) h1 h2
    subst this
    simpa using hQ W hW

end Go.Abs
