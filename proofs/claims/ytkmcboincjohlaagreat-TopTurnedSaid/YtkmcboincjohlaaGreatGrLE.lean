/- The abstract machine, part GrLE. -/
import Derived.Test.YtkmcboincjohlaaGreatGrAbsC
import Derived.Test.YtkmcboincjohlaaGreatGrLA
import Derived.RangeFuncNested
import Derived.RangeFuncBound
import Derived.RangeFuncCalls
import Derived.RangeFuncLeaves
import Derived.Shelf.Abstract
import Derived.Shelf.RegionOpen
import Derived.WalkKit
import Derived.OwnWalkIn
import Derived.TacticsInMore
import Derived.LoopNIn
import Derived.LoopIn
import Derived.Lib.Hide
/- A region that draws its order, in a fence: what leads up to its end only reads; the end comes last in every order. -/
namespace Go.Abs
open Go Go.RowKit

/-- An operation that is about to make no call and waits for nothing. -/
def plainOp (o : Oper) : Bool :=
  match o.op with
  | .call _ | .select .. => false
  | _ => true

def leadB (ops : Array Oper) (m : Nat) : Bool :=
  let A := ancs ops.toList []
  decide (m ≤ ops.size) &&
  ((List.range ops.size).all fun i => match ops[i]? with
    | none => true
    | some o => o.after.toList.all fun e => !Region.binds .any e || decide (e.on < i)) &&
  ((List.range m).all fun i => match ops[i]? with
    | none => true
    | some o => o.guard.isNone && plainOp o && o.dst.isSome && ((List.range m).all fun j => match dstOf ops j with
        | none => true
        | some t => (i == j || !(o.dst == some t)) && (!(reads ops o).contains t || ancA A i j))) &&
  ((List.range ops.size).all fun k => decide (k < m) || ((List.range m).all fun j => ancA A k j))

theorem about_plain {P : Program} {o : Oper} (h : plainOp o = true) (w : World) (ρ : Operand → Value) : o.about P w ρ = none := by
  unfold plainOp at h
  unfold Oper.about
  cases ho : o.op <;> first | rfl | (rw [ho] at h; cases h)

structure Lead (ops : Array Oper) (m : Nat) (a a1 a' : Act) (listed : Array Bool) : Prop where
  size : listed.size = ops.size
  closed : Closed ops listed
  tail : ∀ i, m ≤ i → isIn listed i = false
  defers : a'.defers = a.defers
  len : a'.tmps.size = a.tmps.size
  done : ∀ t j, j < m → isIn listed j = true → dstOf ops j = some t → a'.tmps[t]? = a1.tmps[t]?
  rest : ∀ t, (∀ j, j < m → isIn listed j = true → dstOf ops j ≠ some t) → a'.tmps[t]? = a.tmps[t]?

variable {F : Fence} {n m : Nat} {P : Program} {ops : Array Oper} {Q : Exit → Act → World → Prop} {a a1 : Act} {w : World}

theorem lead_sound (hro : F.round = none) (hB : leadB ops m = true) (hsz : a1.tmps.size = a.tmps.size) (hdf : a1.defers = a.defers)
    (hkeep : ∀ t, (∀ j, j < m → dstOf ops j ≠ some t) → a1.tmps[t]? = a.tmps[t]?)
    (hy : ∀ i o d, i < m → ops[i]? = some o → o.dst = some d → (execOp a1.eval o).run P w = .ok (.value (a1.eval (.tmp d))) w ∧ d < a1.tmps.size)
    (hQ : ∀ listed : Array Bool, listed.size = ops.size → (∀ i, i < m → isIn listed i = true) → (∀ i, m ≤ i → isIn listed i = false) → wpAnyIn F n P .any ops Q (ops.size - m) listed a1 w) :
    ∀ (k : Nat) (listed : Array Bool) (a' : Act), Lead ops m a a1 a' listed → left m listed = k → wpAnyIn F n P .any ops Q (ops.size - m + k) listed a' w := by
  unfold leadB at hB
  simp only [Bool.and_eq_true, List.all_eq_true, List.mem_range, decide_eq_true_eq, Bool.or_eq_true] at hB
  obtain ⟨⟨⟨hm, hback⟩, hpre⟩, htail⟩ := hB
  intro k
  induction k with
  | zero =>
    intro listed a' hi hl
    have hall := left_zero hl
    have : a' = a1 := by
      have ht : a'.tmps = a1.tmps := by
        apply Array.ext_getElem?
        intro t
        by_cases h : ∃ j, j < m ∧ dstOf ops j = some t
        · obtain ⟨j, h1, h2⟩ := h
          exact hi.done t j h1 (hall j h1) h2
        · rw [hkeep t (fun j hj e => h ⟨j, hj, e⟩), hi.rest t (fun j hj _ e => h ⟨j, hj, e⟩)]
      obtain ⟨t1, d1⟩ := a'
      obtain ⟨t2, d2⟩ := a1
      simp only at ht
      have hd : d1 = d2 := hi.defers.trans hdf.symm
      rw [ht, hd]
    subst this
    exact hQ listed hi.size hall hi.tail
  | succ k ih =>
    intro listed a' hi hl
    have hsz' := hi.size
    refine ⟨fun hnil => ?_, fun i hir => ?_⟩
    · exfalso
      -- the first that is not listed is ready
      have hall : ∀ i, i < m → isIn listed i = true := by
        intro i
        induction i using Nat.strongRecOn with
        | _ i ih2 =>
          intro him
          cases hli : isIn listed i with
          | true => rfl
          | false =>
            exfalso
            have hin : i < ops.size := by omega
            obtain ⟨o, ho⟩ : ∃ o, ops[i]? = some o := ⟨ops[i], by simp [hin]⟩
            have : i ∈ Region.ready .any ops listed := by
              rw [mem_ready]
              refine ⟨getD_in (by omega) hli, o, ho, fun e he hb => ?_⟩
              have h1 := hback i hin
              rw [ho] at h1
              simp only [List.all_eq_true] at h1
              have h2 := h1 e (by simpa using he)
              simp only [hb, Bool.not_true, Bool.false_or, decide_eq_true_eq] at h2
              exact ih2 e.on h2 (by omega)
            rw [hnil] at this
            cases this
      have : left m listed = 0 := by
        unfold left
        rw [List.length_eq_zero_iff, List.filter_eq_nil_iff]
        intro i hi2
        simp [hall i (List.mem_range.1 hi2)]
      omega
    · obtain ⟨hun, o, ho, hdeps⟩ := mem_ready.1 hir
      have hin := (Array.getElem?_eq_some_iff.1 ho).1
      have hli : isIn listed i = false := getD_both hun
      have up : ∀ j, anc ops i j = true → isIn listed j = true := fun j hj => anc_listed hi.closed i j hj (fun o' ho' e he hb => by
        rw [ho] at ho'; cases ho'; exact hdeps e he hb)
      have him : i < m := by
        rcases Nat.lt_or_ge i m with h | h
        · exact h
        · exfalso
          have hall : ∀ j, j < m → isIn listed j = true := by
            intro j hj
            rcases htail i hin with h1 | h1
            · omega
            · exact up j (h1 j hj)
          have : left m listed = 0 := by
            unfold left
            rw [List.length_eq_zero_iff, List.filter_eq_nil_iff]
            intro j hj
            simp [hall j (List.mem_range.1 hj)]
          omega
      have hp := hpre i him
      rw [ho] at hp
      simp only [Bool.and_eq_true, List.all_eq_true, List.mem_range, Option.isNone_iff_eq_none] at hp
      obtain ⟨⟨⟨hg, hpl⟩, hds⟩, hj⟩ := hp
      obtain ⟨d, hd⟩ := Option.isSome_iff_exists.1 hds
      have hdi : dstOf ops i = some d := by unfold dstOf; rw [ho]; exact hd
      have agree : ∀ t, t ∈ reads ops o → a'.tmps[t]? = a1.tmps[t]? := by
        intro t ht
        by_cases h : ∃ j, j < m ∧ dstOf ops j = some t
        · obtain ⟨j, h1, h2⟩ := h
          have h3 := hj j h1
          rw [h2] at h3
          simp only [Bool.and_eq_true, Bool.or_eq_true, Bool.not_eq_true', List.contains_eq_mem, decide_eq_false_iff_not] at h3
          rcases h3.2 with h4 | h4
          · exact absurd ht h4
          · exact hi.done t j h1 (up j h4) h2
        · rw [hkeep t (fun j hj e => h ⟨j, hj, e⟩), hi.rest t (fun j hj _ e => h ⟨j, hj, e⟩)]
      have hev : ∀ x ∈ o.op.operands, a'.eval x = a1.eval x := by
        intro x hx
        cases x with
        | tmp t =>
          have := agree t (by unfold reads; exact List.mem_append_left _ (List.mem_filterMap.2 ⟨.tmp t, by simpa using hx, rfl⟩))
          show a'.tmps.getD t undef = a1.tmps.getD t undef
          simp only [Array.getD_eq_getD_getElem?, this]
        | _ => rfl
      have hex : execOp a'.eval o = execOp a1.eval o := execOp_congr o (fun cs b he => by unfold plainOp at hpl; rw [he] at hpl; cases hpl) hev
      obtain ⟨hrun, hdl⟩ := hy i o d him ho hd
      have hw : Region.wanted o (yielded ops a'.tmps) = true := by unfold Region.wanted; rw [hg]
      unfold wpOpIn
      simp only [ho]
      have hab : ∀ f, o.about P w a'.eval = some f → F.fn f := fun f hf => by rw [about_plain hpl] at hf; cases hf
      simp only [hw, if_true, Oper.wpIn, hro, Oper.semAt_none, hex, hrun, Oper.uponIn]
      refine ⟨hab, ?_⟩
      have hnew : isIn (listed.setIfInBounds i true) i = true := by rw [isIn_set (by omega)]; simp
      have hother : ∀ j, j ≠ i → isIn (listed.setIfInBounds i true) j = isIn listed j := fun j hj => by
        rw [isIn_set (by omega)]
        have : (j == i) = false := by simpa using hj
        rw [this, Bool.or_false]
      have hd2 : d < a'.tmps.size := by rw [hi.len, ← hsz]; exact hdl
      refine ih _ _ ⟨by simpa using hsz', ?_, ?_, ?_, ?_, ?_, ?_⟩ ?_
      · intro j oj hoj hlj e he hb
        change isIn _ _ = true at hlj
        change isIn _ _ = true
        by_cases hji : j = i
        · subst hji
          rw [ho] at hoj; cases hoj
          have := hdeps e he hb
          by_cases hee : e.on = j
          · rw [hee]; exact hnew
          · rw [hother _ hee]; exact this
        · rw [hother j hji] at hlj
          have := hi.closed j oj hoj hlj e he hb
          by_cases hee : e.on = i
          · rw [hee]; exact hnew
          · rw [hother _ hee]; exact this
      · intro j hj
        rw [hother j (by omega)]
        exact hi.tail j hj
      · rw [hd]; exact hi.defers
      · rw [hd]; simp [Act.put, hi.len]
      · intro t j hjm hlj hdj
        rw [hd]
        show (a'.tmps.setIfInBounds d _)[t]? = _
        by_cases htd : t = d
        · subst htd
          rw [Array.getElem?_setIfInBounds_self_of_lt hd2]
          show some (a1.tmps.getD t undef) = _
          rw [Array.getD_eq_getD_getElem?, Array.getElem?_eq_getElem hdl]
          rfl
        · rw [Array.getElem?_setIfInBounds_ne (Ne.symm htd)]
          have hji : j ≠ i := fun e => by subst e; rw [hdi] at hdj; cases hdj; exact htd rfl
          rw [hother j hji] at hlj
          exact hi.done t j hjm hlj hdj
      · intro t hno
        rw [hd]
        show (a'.tmps.setIfInBounds d _)[t]? = _
        have htd : t ≠ d := fun e => hno i him hnew (by rw [hdi, e])
        rw [Array.getElem?_setIfInBounds_ne (Ne.symm htd)]
        exact hi.rest t fun j hjm hlj => by
          by_cases hji : j = i
          · subst hji; rw [hli] at hlj; cases hlj
          · exact hno j hjm (by rw [hother j hji]; exact hlj)
      · have := left_set (n := m) (listed := listed) (i := i)
        have h2 : left m (listed.setIfInBounds i true) + 1 = left m listed := by
          unfold left
          refine (filter_insert (i := i) m him (by simp [hli]) ?_ fun j hj => ?_).symm
          · simp [hnew]
          · rw [hother j hj]
        omega

/-- THE LAW. -/
theorem wpIn_region_lead {id : Nat} (hm : P.follows .mixedOrders = true) (hro : F.round = none) (hB : leadB ops m = true) (hsz : a1.tmps.size = a.tmps.size) (hdf : a1.defers = a.defers)
    (hkeep : ∀ t, (∀ j, j < m → dstOf ops j ≠ some t) → a1.tmps[t]? = a.tmps[t]?)
    (hy : ∀ i o d, i < m → ops[i]? = some o → o.dst = some d → (execOp a1.eval o).run P w.drew = .ok (.value (a1.eval (.tmp d))) w.drew ∧ d < a1.tmps.size)
    (hQ : ∀ listed : Array Bool, listed.size = ops.size → (∀ i, i < m → isIn listed i = true) → (∀ i, m ≤ i → isIn listed i = false) → wpAnyIn F n P .any ops Q (ops.size - m) listed a1 w.drew) :
    (Code.region id ops true).wpIn F n P Q a w := by
  have hmm : m ≤ ops.size := by
    unfold leadB at hB
    simp only [Bool.and_eq_true, decide_eq_true_eq] at hB
    exact hB.1.1.1
  refine wpIn_region_any hm ?_
  have hno : ∀ i, isIn (Array.replicate ops.size false) i = false := fun i => getD_replicate_false _ _
  have := lead_sound (F := F) (n := n) (P := P) (Q := Q) (w := w.drew) hro hB hsz hdf hkeep hy hQ m (Array.replicate ops.size false) a
    ⟨by simp, fun j oj _ hl => (by rw [getD_replicate_false] at hl; cases hl), fun i _ => hno i, rfl, rfl, fun t j _ hl => (by rw [hno] at hl; cases hl), fun t _ => rfl⟩
    (by unfold left; rw [List.filter_eq_self.2 (fun i _ => by simp [hno])]; simp)
  have e : ops.size - m + m = ops.size := by omega
  rw [e] at this
  exact this

end Go.Abs

/- The law on regions with a lead, told by a list of slots and values. -/
namespace Go.Abs
open Go Go.RowKit

variable {F : Fence} {n m : Nat} {P : Program} {ops : Array Oper} {Q : Exit → Act → World → Prop} {a a1 : Act} {w : World}

/-- Each operation yields what the frame holds in its slot. -/
def Runs (P : Program) (a1 : Act) (w : World) : List Oper → Prop
  | [] => True
  | o :: l => (∀ d, o.dst = some d → (execOp a1.eval o).run P w = .ok (.value (a1.eval (.tmp d))) w ∧ d < a1.tmps.size) ∧ Runs P a1 w l

theorem Runs.get : ∀ {l : List Oper}, Runs P a1 w l → ∀ (i : Nat) (o : Oper), l[i]? = some o → ∀ d, o.dst = some d → (execOp a1.eval o).run P w = .ok (.value (a1.eval (.tmp d))) w ∧ d < a1.tmps.size
  | [], _, i, o, h => by simp at h
  | o' :: l, hr, 0, o, h => by simp at h; subst h; exact hr.1
  | o' :: l, hr, i + 1, o, h => hr.2.get i o (by simpa using h)

def putsL (tm : Array Value) : List (Nat × Value) → Array Value
  | [] => tm
  | (t, v) :: l => putsL (tm.setIfInBounds t v) l

theorem putsL_size (l : List (Nat × Value)) : ∀ tm : Array Value, (putsL tm l).size = tm.size := by
  induction l with
  | nil => intro tm; rfl
  | cons p l ih => intro tm; rw [show putsL tm (p :: l) = putsL (tm.setIfInBounds p.1 p.2) l from rfl, ih]; simp

theorem putsL_other (l : List (Nat × Value)) (t : Nat) : ∀ tm : Array Value, (∀ p ∈ l, p.1 ≠ t) → (putsL tm l)[t]? = tm[t]? := by
  induction l with
  | nil => intro tm _; rfl
  | cons p l ih =>
    intro tm h
    rw [show putsL tm (p :: l) = putsL (tm.setIfInBounds p.1 p.2) l from rfl, ih _ (fun q hq => h q (by simp [hq])), Array.getElem?_setIfInBounds_ne (h p (by simp))]

/-- The list of what is listed, once all of the lead is. -/
def ledList (n m : Nat) : Array Bool := (List.replicate m true ++ List.replicate (n - m) false).toArray

theorem listed_eq {listed : Array Bool} {n m : Nat} (hm : m ≤ n) (hs : listed.size = n) (h1 : ∀ i, i < m → isIn listed i = true) (h2 : ∀ i, m ≤ i → isIn listed i = false) : listed = ledList n m := by
  apply Array.ext_getElem?
  intro i
  unfold ledList
  have e0 : (List.replicate m true ++ List.replicate (n - m) false).toArray[i]? = (List.replicate m true ++ List.replicate (n - m) false)[i]? := List.getElem?_toArray ..
  rw [e0]
  by_cases hl : i < n
  · have e1 : listed[i]? = some (listed.getD i false) := by simp [Array.getD_eq_getD_getElem?, show i < listed.size by omega]
    rw [e1]
    by_cases him : i < m
    · have := h1 i him
      unfold isIn at this
      rw [this, List.getElem?_append_left (by simpa using him)]
      simp [him]
    · have := h2 i (by omega)
      unfold isIn at this
      rw [this, List.getElem?_append_right (by simp; omega), List.length_replicate, List.getElem?_replicate, if_pos (by omega)]
  · rw [Array.getElem?_eq_none (by omega), List.getElem?_eq_none (by simp; omega)]

theorem wpIn_region_led {id : Nat} {l : List Oper} (vals : List (Nat × Value)) (hm : P.follows .mixedOrders = true) (hro : F.round = none) (hB : leadB l.toArray m = true)
    (hv : vals.map (fun p => some p.1) = (l.take m).map (·.dst))
    (hy : Runs P { a with tmps := putsL a.tmps vals } w.drew (l.take m))
    (hQ : wpAnyIn F n P .any l.toArray Q (l.length - m) (ledList l.length m) { a with tmps := putsL a.tmps vals } w.drew) :
    (Code.region id l.toArray true).wpIn F n P Q a w := by
  have hmm : m ≤ l.length := by
    unfold leadB at hB
    simp only [Bool.and_eq_true, decide_eq_true_eq] at hB
    simpa using hB.1.1.1
  refine wpIn_region_lead (a1 := { a with tmps := putsL a.tmps vals }) hm hro hB (putsL_size _ _) rfl ?_ ?_ ?_
  · intro t h
    refine putsL_other vals t _ fun p hp e => ?_
    have h1 : some p.1 ∈ vals.map (fun p => some p.1) := List.mem_map.2 ⟨p, hp, rfl⟩
    rw [hv] at h1
    obtain ⟨o, ho, hd⟩ := List.mem_map.1 h1
    obtain ⟨j, hj⟩ := List.mem_iff_getElem?.1 ho
    have hjm : j < m := by
      have := (List.getElem?_eq_some_iff.1 hj).1
      simp at this; omega
    refine h j hjm ?_
    rw [List.getElem?_take, if_pos hjm] at hj
    unfold dstOf
    simp [hj, hd, e]
  · intro i o d hi ho hd
    refine hy.get i o ?_ d hd
    rw [List.getElem?_take, if_pos hi]
    simpa using ho
  · intro listed hs h1 h2
    have := listed_eq (n := l.length) hmm (by simpa using hs) h1 h2
    subst this
    simpa using hQ

end Go.Abs

/- Two points compared. -/
namespace Go.Proofs.YtkmcboincjohlaaGreat
open Go Go.RowKit Go.Proofs

end Go.Proofs.YtkmcboincjohlaaGreat

/- The iterator over the corners of a closed polygon: its contract. -/
namespace Go.Proofs.YtkmcboincjohlaaGreat
open Go Go.RowKit Go.Proofs Go.Abs

attribute [local go_sem] Oper.semAt_some

/-- What a round must keep: what lay below n, and the block B. -/
structure KeepC (n B : Nat) (W W' : World) : Prop where
  size : W.heap.size ≤ W'.heap.size
  same : ∀ k, k < n ∨ k = B → W'.heap[k]? = W.heap[k]?

theorem KeepC.refl (n B : Nat) (W : World) : KeepC n B W W := ⟨Nat.le_refl _, fun _ _ => rfl⟩
theorem KeepC.trans {n B : Nat} {X Y Z : World} (h : KeepC n B X Y) (k : KeepC n B Y Z) : KeepC n B X Z := ⟨Nat.le_trans h.size k.size, fun i hi => (k.same i hi).trans (h.same i hi)⟩
theorem KeepC.cell {n B : Nat} {W W' : World} (h : KeepC n B W W') {b o : Nat} {v : Value} (hb : b < n ∨ b = B) (hc : W.cell? ⟨b, o, none⟩ = some v) : W'.cell? ⟨b, o, none⟩ = some v := by
  rw [World.cell?_of_block (h.same b hb)]; exact hc
theorem KeepC.below {n B : Nat} {W W' : World} (h : Below W.heap.size W W') (hn : n ≤ W.heap.size) (hB : B < W.heap.size) : KeepC n B W W' := ⟨h.size, fun k hk => h.block k (by omega)⟩

/-- The six numbers of a corner: the one before, itself, the one behind. -/
abbrev cnrV (xs ys : Nat → Int) (p k q : Nat) : Value := .agg #[.int .i64 (xs p), .int .i64 (ys p), .int .i64 (xs k), .int .i64 (ys k), .int .i64 (xs q), .int .i64 (ys q)]

set_option maxRecDepth 100000 in
set_option maxHeartbeats 4000000 in
theorem corners1_in (F : Fence) (n : Nat) (h140 : F.fn 131) (hro : F.round = none) (hn : 1 ≤ n) (l Bs n₁ b off len cap : Nat) (xs ys : Nat → Int) (hlen : len ≤ 1000000) (hb : b < n₁) (J Jx : List Nat → World → Prop)
    (hY : ∀ pre x W, J pre W → pre.length < len → YieldAt F (n - 1) Tryz.prog l #[.int .i64 (x : Nat), cnrV xs ys ((x + len - 1) % len) x ((x + 1) % len)] W fun e W' =>
      (e = .returned (.bool true) ∧ J (pre ++ [x]) W' ∧ KeepC n₁ Bs W W') ∨ (e = .returned (.bool false) ∧ Jx (pre ++ [x]) W'))
    (W : World) (hn1 : n₁ ≤ W.heap.size) (hBs : W.cell? ⟨Bs, 0, none⟩ = some (.slice (some ⟨b, off, none⟩) len cap)) (hJ : ∀ s W W', J s W → W.grownBy W' none → J s W')
    (hc : ∀ k, k < len → W.cell? ⟨b, off + k * 2, none⟩ = some (.int .i64 (xs k)) ∧ W.cell? ⟨b, off + k * 2 + 1, none⟩ = some (.int .i64 (ys k))) (h0 : J [] W) :
    CallsIn F n Tryz.prog 131 #[.func (.yield l) #[] #[], .pointer (some ⟨Bs, 0, none⟩)] W fun e W' => (∃ v, e = .returned v) ∧
      ((∃ ks, ks = List.range len ∧ J ks W') ∨ (∃ pre, (∃ k, k ≤ len ∧ pre = List.range k) ∧ Jx pre W')) := by
  refine callsIn_of_wp Tryz.func131 rfl h140 ?_ hro
  simp only [Tryz.ntmps131, List.size_toArray, List.length_cons, List.length_nil, Nat.reduceAdd, Nat.reduceSub, Array.replicate_succ, Array.replicate_zero, List.push_toArray, List.append_toArray, List.nil_append, List.cons_append]
  gi_wp2
  gi_loopw [10] (fun i wr => ∃ k : Nat, k ≤ len ∧ i = .int .i64 k ∧ J (List.range k) wr ∧ KeepC n₁ Bs W wr) (fun i _ => len - (intOf i).toNat)
  case atStart => exact ⟨0, Nat.zero_le _, rfl, h0, KeepC.refl _ _ _⟩
  case round =>
    obtain ⟨k, hk, rfl, hJs, hkp⟩ := hrel
    have hBs' := hkp.cell (.inr rfl) hBs
    have hcx : ∀ k, k < len → wr.cell? ⟨b, off + k * 2, none⟩ = some (.int .i64 (xs k)) ∧ wr.cell? ⟨b, off + k * 2 + 1, none⟩ = some (.int .i64 (ys k)) := fun k h => ⟨hkp.cell (.inl hb) (hc k h).1, hkp.cell (.inl hb) (hc k h).2⟩
    clear hBs hc
    by_cases hlt : k < len
    · have e0 := (hcx k hlt).1
      have e1 := (hcx k hlt).2
      have i1 : (k : Int) < (len : Int) := by omega
      obtain ⟨p, hp⟩ : ∃ p, (k + len - 1) % len = p := ⟨_, rfl⟩
      obtain ⟨q, hq⟩ : ∃ q, (k + 1) % len = q := ⟨_, rfl⟩
      have hpl : p < len := by rw [← hp]; exact Nat.mod_lt _ (by omega)
      have hql : q < len := by rw [← hq]; exact Nat.mod_lt _ (by omega)
      have p0 := (hcx p hpl).1
      have p1 := (hcx p hpl).2
      have q0 := (hcx q hql).1
      have q1 := (hcx q hql).2
      have ip : (p : Int) < (len : Int) := by omega
      have iq : (q : Int) < (len : Int) := by omega
      have HP := Lib.hid hp
      have HQ := Lib.hid hq
      clear hp hq hcx
      gi_wp2_with fail
      have A0 := pt_old wr (ptObj (xs k) (ys k)) hBs'
      have A1 := pt_old wr (ptObj (xs k) (ys k)) p0
      have A2 := pt_old wr (ptObj (xs k) (ys k)) p1
      have A3 := pt_old wr (ptObj (xs k) (ys k)) q0
      have A4 := pt_old wr (ptObj (xs k) (ys k)) q1
      have B0 := pt_new wr (xs k) (ys k)
      have l0 : ¬ len = 0 := by omega
      have T1 : ((k : Int) + len - 1).tmod len = (p : Int) := by rw [Int.tmod_eq_emod_of_nonneg (by omega), ← HP.out, Int.natCast_emod]; congr 1; omega
      have T2 : ((k : Int) + 1).tmod len = (q : Int) := by rw [Int.tmod_eq_emod_of_nonneg (by omega), ← HQ.out, Int.natCast_emod]; congr 1
      have U1 : IntKind.i64.wrap ((k : Int) + len) = (k : Int) + len := wi64 _ (by omega)
      have U2 : IntKind.i64.wrap ((k : Int) + len - 1) = (k : Int) + len - 1 := wi64 _ (by omega)
      have U3 : IntKind.i64.wrap ((k : Int) + 1) = (k : Int) + 1 := wi64 _ (by omega)
      refine wpIn_region_led (m := 20) [(15, .func (.yield l) #[] #[]), (16, .int .i64 k), (17, .slice (some ⟨b, off, none⟩) len cap), (18, .int .i64 k), (19, .int .i64 len), (20, .int .i64 ((k : Int) + len)), (21, .int .i64 ((k : Int) + len - 1)), (22, .int .i64 len), (23, .int .i64 (p : Nat)), (24, .pointer (some ⟨b, off + p * 2, none⟩)), (25, pt (xs p) (ys p)), (26, pt (xs k) (ys k)), (27, .slice (some ⟨b, off, none⟩) len cap), (28, .int .i64 k), (29, .int .i64 ((k : Int) + 1)), (30, .int .i64 len), (31, .int .i64 (q : Nat)), (32, .pointer (some ⟨b, off + q * 2, none⟩)), (33, pt (xs q) (ys q)), (34, cnrV xs ys p k q)] (by kernel_rfl) hro (by kernel_rfl) rfl ?_ ?_
      · simp only [putsL, List.setIfInBounds_toArray, List.set_cons_zero, List.set_cons_succ, List.take_succ_cons, List.take_zero]
        refine ⟨fun d hd => ?_, ⟨fun d hd => ?_, ⟨fun d hd => ?_, ⟨fun d hd => ?_, ⟨fun d hd => ?_, ⟨fun d hd => ?_, ⟨fun d hd => ?_, ⟨fun d hd => ?_, ⟨fun d hd => ?_, ⟨fun d hd => ?_, ⟨fun d hd => ?_, ⟨fun d hd => ?_, ⟨fun d hd => ?_, ⟨fun d hd => ?_, ⟨fun d hd => ?_, ⟨fun d hd => ?_, ⟨fun d hd => ?_, ⟨fun d hd => ?_, ⟨fun d hd => ?_, ⟨fun d hd => ?_, trivial⟩⟩⟩⟩⟩⟩⟩⟩⟩⟩⟩⟩⟩⟩⟩⟩⟩⟩⟩⟩
        all_goals cases hd
        all_goals refine ⟨?_, by simp⟩
        all_goals go_simp
      · clear A0 A1 A2 A3 A4 B0 T1 T2 U1 U2 U3 l0
        simp only [putsL, List.setIfInBounds_toArray, List.set_cons_zero, List.set_cons_succ, List.length_cons, List.length_nil, Nat.reduceAdd, Nat.reduceSub, ledList, List.replicate, List.cons_append, List.nil_append]
        have hJ1 : J (List.range k) (wr.alloc (ptObj (xs k) (ys k))).drew := hJ _ _ _ (hJ _ _ _ hJs (World.grownBy_alloc wr _ none)) ⟨rfl, rfl, rfl, Nat.le_refl _, fun _ _ _ => rfl⟩
        obtain ⟨fn, tmps, assign, body, hy, hR⟩ := hY _ k _ hJ1 (by simpa using hlt)
        rw [HP.out, HQ.out] at hy
        refine wpAnyIn_ready (rs := [20]) (by kernel_rfl) (by simp) (AllReadyIn.cons rfl (fun K hK => ?_) AllReadyIn.nil)
        simp only [List.getElem_toArray, List.getElem_cons_succ, List.getElem_cons_zero]
        rw [if_pos (show Region.wanted _ _ = true from rfl)]
        gi_wp2
        refine hR.mono ?_
        rintro e W3 (⟨rfl, hJ3, hk3⟩ | ⟨rfl, hJx3⟩)
        · skip
          refine hK _ _ ?_
          clear hK K
          refine wpAnyIn_ready (rs := [21]) (by kernel_rfl) (by simp) (AllReadyIn.cons rfl (fun K hK => ?_) AllReadyIn.nil)
          simp only [List.getElem_toArray, List.getElem_cons_succ, List.getElem_cons_zero]
          rw [if_pos (show Region.wanted _ _ = true from rfl)]
          gi_wp2
          refine wpAnyIn_done (by kernel_rfl) ?_ _
          gi_wp2
          refine ⟨⟨k + 1, by omega, by simp, by rw [List.range_succ]; exact hJ3, (hkp.trans ?_).trans hk3⟩, by simp [intOf]; omega⟩
          exact KeepC.below (((Below.refl _ _).alloc (Nat.le_refl _) _).drew) (Nat.le_trans hn1 hkp.size) (lt_of_cell hBs')
        · skip
          refine hK _ _ ?_
          clear hK K
          refine wpAnyIn_ready (rs := [21]) (by kernel_rfl) (by simp) (AllReadyIn.cons rfl (fun K hK => ?_) AllReadyIn.nil)
          simp only [List.getElem_toArray, List.getElem_cons_succ, List.getElem_cons_zero]
          rw [if_pos (show Region.wanted _ _ = true from rfl)]
          gi_wp2
          refine wpAnyIn_done (by kernel_rfl) ?_ _
          gi_wp2
          refine bodyPost_ret (results_none rfl _ _ _) rfl ?_
          exact ⟨⟨_, rfl⟩, .inr ⟨_, ⟨k + 1, by omega, List.range_succ.symm⟩, hJx3⟩⟩
    · obtain rfl : k = len := by omega
      gi_wp2
      go_end0
      exact ⟨⟨_, rfl⟩, .inl ⟨_, rfl, hJs⟩⟩

abbrev cnrE (xs ys : Nat → Int) (len : Nat) (x : Nat) : Array Value := #[.int .i64 (x : Nat), cnrV xs ys ((x + len - 1) % len) x ((x + 1) % len)]

theorem corners_stops (F : Fence) (n : Nat) (h140 : F.fn 131) (hro : F.round = none) (hn : 1 ≤ n) (Bs n₁ b off len cap : Nat) (xs ys : Nat → Int) (hlen : len ≤ 1000000) (hb : b < n₁) (w : World) (_hBs : Bs < w.heap.size) (hn1 : n₁ ≤ w.heap.size)
    (hcB : w.cell? ⟨Bs, 0, none⟩ = some (.slice (some ⟨b, off, none⟩) len cap)) (hc : ∀ k, k < len → w.cell? ⟨b, off + k * 2, none⟩ = some (.int .i64 (xs k)) ∧ w.cell? ⟨b, off + k * 2 + 1, none⟩ = some (.int .i64 (ys k))) :
    SeqStopsK F n Tryz.prog 131 #[.pointer (some ⟨Bs, 0, none⟩)] (cnrE xs ys len) (KeepC n₁ Bs) (fun ks => ks = List.range len) (fun pre => ∃ k, k ≤ len ∧ pre = List.range k) len w := fun l J Jx W hW hJ _ hY h0 =>
  corners1_in F n h140 hro hn l Bs n₁ b off len cap xs ys hlen hb J Jx hY W (Nat.le_trans hn1 hW.size) (keep_cell hW hcB) (fun s A B hs hg => hJ s A B none hs hg (fun r e => by cases e))
    (fun k hk => ⟨keep_cell hW (hc k hk).1, keep_cell hW (hc k hk).2⟩) h0

set_option maxHeartbeats 1000000 in
theorem corners_in (F : Fence) (n : Nat) (h98 : F.fn 88) (hro : F.round = none) (a : Option Addr) (len cap : Nat) (w : World) :
    CallsIn F n Tryz.prog 88 #[.slice a len cap] w fun e w' => e = .returned (.func (.func 131) #[] #[.pointer (some ⟨w.heap.size, 0, none⟩)]) ∧ w' = w.alloc (.cells #[.slice a len cap] 34) := by
  refine callsIn_of_wp Tryz.func88 rfl h98 ?_ hro
  simp only [Tryz.ntmps88, List.size_toArray, List.length_cons, List.length_nil, Nat.reduceAdd, Nat.reduceSub, Array.replicate_succ, Array.replicate_zero, List.push_toArray, List.append_toArray, List.nil_append, List.cons_append]
  gi_wp2
  go_ret
  exact ⟨rfl, rfl⟩

end Go.Proofs.YtkmcboincjohlaaGreat

/- Walks: straight, doubled. -/
namespace Go.Proofs.YtkmcboincjohlaaGreat
open Go Go.RowKit Go.Proofs Go.Shelf

attribute [local go_sem] Oper.semAt_some

/-- A block that holds a corner. -/
def Box6 (W : World) (B : Nat) (v : Value) : Prop := ∃ c, v = .agg c ∧ W.heap[B]? = some (.cells c 162 (0, 0))

theorem Box6.cell {W : World} {B : Nat} {c : Array Value} (h : Box6 W B (.agg c)) {o : Nat} {v : Value} (ho : c[o]? = some v) : W.cell? ⟨B, o, none⟩ = some v := by
  obtain ⟨c', e, hb⟩ := h
  cases e
  unfold World.cell?
  simp [hb, ho]

theorem Box6.own {W X : World} {B B' : Nat} {v : Value} {row : Option Nat} (h : Box6 W B v) (hg : W.grownBy X row) (hr : ∀ r, row = some r → B' ≤ r ∧ ∃ o : Obj, W.heap[r]? = some o ∧ o.isCells = false) : Box6 X B v := by
  obtain ⟨c, e, hb⟩ := h
  refine ⟨c, e, ?_⟩
  rw [hg.block B (Array.getElem?_eq_some_iff.1 hb).1 (fun e' => by
    obtain ⟨_, o, ho, hc⟩ := hr B e'.symm
    rw [hb] at ho; cases ho; cases hc)]
  exact hb

theorem Box6.new (W : World) (c : Array Value) : Box6 (W.alloc (.cells c 162)) W.heap.size (.agg c) := ⟨c, rfl, World.alloc_heap_new W _⟩

theorem keepC_put {n B l : Nat} {W : World} {o' : Obj} (h1 : n ≤ l) (h2 : B < l) : KeepC n B W (W.putObj l o') :=
  ⟨(grownBy_putObj' W l o').size, fun k hk => World.putObj_heap_other (by omega)⟩

theorem keepC_set {n B : Nat} {W : World} {p : Addr} {v : Value} (h1 : ¬ p.block < n) (h2 : p.block ≠ B) : KeepC n B W (W.setCell p v) :=
  ⟨(KeepsOthers.setCell W p v).size, fun k hk => Below.heap_setCell _ _ _ k (by omega)⟩

theorem ownFrom_size {β : Type} (B N : Nat) : OwnFrom B (fun (_ : β) W => N ≤ W.heap.size) := fun _ _ _ _ hs hg _ => Nat.le_trans hs hg.size

def termD (xs ys : Nat → Int) (len x : Nat) : Int := xs x * ys ((x + 1) % len) - xs ((x + 1) % len) * ys x
def sumD (xs ys : Nat → Int) (len : Nat) (pre : List Nat) : Int := (pre.map (termD xs ys len)).sum

theorem sumD_snoc (xs ys : Nat → Int) (len : Nat) (pre : List Nat) (x : Nat) : sumD xs ys len (pre ++ [x]) = sumD xs ys len pre + termD xs ys len x := by simp [sumD]

theorem termD_bound {xs ys : Nat → Int} (h : ∀ k, Small (xs k) ∧ Small (ys k)) (len x : Nat) : (-67108864 ≤ xs x * ys ((x + 1) % len) ∧ xs x * ys ((x + 1) % len) ≤ 67108864) ∧ (-67108864 ≤ xs ((x + 1) % len) * ys x ∧ xs ((x + 1) % len) * ys x ≤ 67108864) :=
  ⟨mul_le (A := 8192) (B := 8192) (h _).1 (h _).2, mul_le (A := 8192) (B := 8192) (h _).1 (h _).2⟩

theorem sumD_bound {xs ys : Nat → Int} (h : ∀ k, Small (xs k) ∧ Small (ys k)) (len : Nat) : ∀ pre : List Nat, -(134217728 * (pre.length : Int)) ≤ sumD xs ys len pre ∧ sumD xs ys len pre ≤ 134217728 * (pre.length : Int)
  | [] => by simp [sumD]
  | x :: pre => by
    have ih := sumD_bound h len pre
    have hb := termD_bound h len x
    have e : sumD xs ys len (x :: pre) = termD xs ys len x + sumD xs ys len pre := by simp [sumD]
    rw [e]
    unfold termD
    simp only [List.length_cons]
    omega

theorem sum_step {xs ys : Nat → Int} (h : ∀ k, Small (xs k) ∧ Small (ys k)) (len x : Nat) (pre : List Nat) (hp : pre.length < 1000000) :
    wrap64 (sumD xs ys len pre + wrap64 (wrap64 (xs x * ys ((x + 1) % len)) - wrap64 (xs ((x + 1) % len) * ys x))) = sumD xs ys len (pre ++ [x]) := by
  have h1 := sumD_bound h len pre
  have h2 := termD_bound h len x
  rw [sumD_snoc]
  unfold termD
  rw [w64 (xs x * ys ((x + 1) % len)) (by omega), w64 (xs ((x + 1) % len) * ys x) (by omega), w64 (_ - _) (by omega), w64 _ (by omega)]

set_option maxRecDepth 100000 in
set_option maxHeartbeats 2000000 in
theorem doubled_in (F : Fence) (n : Nat) (h93 : F.fn 47) (h98 : F.fn 88) (h140 : F.fn 131) (hro : F.round = none) (hn : 4 ≤ n) (b off len cap : Nat) (xs ys : Nat → Int) (hlen : len ≤ 1000000) (hsm : ∀ k, Small (xs k) ∧ Small (ys k)) (w : World)
    (hc : ∀ k, k < len → w.cell? ⟨b, off + k * 2, none⟩ = some (.int .i64 (xs k)) ∧ w.cell? ⟨b, off + k * 2 + 1, none⟩ = some (.int .i64 (ys k))) (hb : b < w.heap.size) :
    CallsIn F n Tryz.prog 47 #[.slice (some ⟨b, off, none⟩) len cap] w fun e w' => e = .returned (.int .i64 (sumD xs ys len (List.range len))) ∧ Below w.heap.size w w' := by
  have h1 : 1 ≤ n := by omega
  refine callsIn_of_wp_marks Tryz.func47 rfl h93 ?_ hro
  simp only [Tryz.ntmps47, List.size_toArray, List.length_cons, List.length_nil, Nat.reduceAdd, Nat.reduceSub, Array.replicate_succ, Array.replicate_zero, List.push_toArray, List.append_toArray, List.nil_append, List.cons_append]
  gi_wp2_with (gi_at_call 88; refine (corners_in F (n - 1) h98 hro _ _ _ _).mono ?_; rintro e w' ⟨rfl, rfl⟩)
  obtain ⟨W0, hW0⟩ : ∃ W0, (w.alloc (.cells #[.int .i64 0] 3)).alloc (.cells #[.slice (some ⟨b, off, none⟩) len cap] 34) = W0 := ⟨_, rfl⟩
  have hsz : W0.heap.size = w.heap.size + 2 := by rw [← hW0]; simp
  have bS : Boxed W0 w.heap.size 3 (.int .i64 0) := by rw [← hW0]; exact (Boxed.new w 3 _).alloc _
  have bC : Boxed W0 (w.heap.size + 1) 34 (.slice (some ⟨b, off, none⟩) len cap) := by
    rw [← hW0]; have := Boxed.new (w.alloc (.cells #[.int .i64 0] 3)) 34 (.slice (some ⟨b, off, none⟩) len cap); rwa [World.size_alloc] at this
  have hB0 : Below w.heap.size w W0 := by rw [← hW0]; exact ((Below.refl _ w).alloc (Nat.le_refl _) _).alloc (by simp) _
  rw [hW0]
  clear hW0
  refine wpIn_rangeFunc_ownH hro h1 (gf := 131) (lb := #[.pointer (some ⟨w.heap.size + 1, 0, none⟩)]) rfl h140 (enters_of Tryz.func131 (by kernel_rfl) rfl)
    (corners_stops F (n - 1) h140 hro (by omega) (w.heap.size + 1) w.heap.size b off len cap xs ys hlen hb W0 (by omega) (by omega) bC.cell (fun k hk => ⟨keep_cell hB0 (hc k hk).1, keep_cell hB0 (hc k hk).2⟩))
    KeepC.trans (fun W l o o' hl h _ _ => keepC_put (by omega) (by omega)) (Below.refl _ _) (fun _ => rfl)
    (fun pre W => Boxed W w.heap.size 3 (.int .i64 (sumD xs ys len pre)) ∧ Below w.heap.size w W ∧ w.heap.size + 2 ≤ W.heap.size)
    (fun _ _ _ => False)
    (OwnFrom.and (Own.from (boxed_own _ _ _) _) (OwnFrom.and (ownFrom_below (Nat.le_refl _) (by omega)) (ownFrom_size _ _)))
    (fun _ _ _ _ _ hs _ _ => hs)
    ⟨bS, hB0, by omega⟩
    (fun x a' W => ∃ Bx, w.heap.size + 1 < Bx ∧ Box6 W Bx (cnrV xs ys ((x + len - 1) % len) x ((x + 1) % len)) ∧ a' = { tmps := #[.slice (some ⟨b, off, none⟩) len cap, undef, .int .i64 0, .pointer (some ⟨w.heap.size, 0, none⟩), undef, .pointer (some ⟨Bx, 0, none⟩), .slice (some ⟨b, off, none⟩) len cap, .func (.func 131) #[] #[.pointer (some ⟨w.heap.size + 1, 0, none⟩)], .int .i64 x, cnrV xs ys ((x + len - 1) % len) x ((x + 1) % len), undef, undef, undef, undef, undef, undef, undef, undef, undef, undef, undef, undef, undef, undef, undef, undef, undef, undef], defers := [] })
    (fun x a' _ X Y row hs hg hr => by obtain ⟨Bx, h1, h2, h3⟩ := hs; exact ⟨Bx, h1, h2.own hg hr, h3⟩)
    ?assign ?body ?done ?stop
  case assign =>
    rintro l pre x W K ⟨bS1, hB1, hs1⟩ hK
    gi_wp2
    exact hK _ _ ((KeepsOthers.alloc _ _).from _) (KeepC.below ((Below.refl _ W).alloc (Nat.le_refl _) _) (by omega) (by omega)) ⟨bS1.alloc _, hB1.alloc (by omega) _, by simp; omega⟩ ⟨W.heap.size, by omega, Box6.new W _, rfl⟩
  case body =>
    rintro l pre x a' W hl _ ⟨bS1, hB1, hs1⟩ ⟨Bx, hBx, bX, rfl⟩ hlt
    have x2 := bX.cell (o := 2) rfl
    have x3 := bX.cell (o := 3) rfl
    have x4 := bX.cell (o := 4) rfl
    have x5 := bX.cell (o := 5) rfl
    have cS := bS1.cell
    have fS := bS1.frozen
    gi_wp2
    refine ⟨(KeepsOthers.setCell _ _ _).from _, keepC_set (by simp) (by simp), ?_, hB1.setCell (by simp) _, by simpa using hs1⟩
    rw [← sum_step hsm len x pre (by omega)]
    exact bS1.set _
  case done =>
    rintro D ks W hD rfl ⟨bS1, hB1, hs1⟩ hK
    have cS := bS1.cell
    gi_wp2
    refine ⟨by simp, .inl ⟨_, _, rfl, run_takeDeferred hK, ?_⟩⟩
    exact ⟨_, results_tmp rfl _ _ _, rfl, hB1.trans (belowK_b (w := w) (Nat.le_refl _) W D _ _ (by omega) hK rfl rfl)⟩
  case stop =>
    rintro D c pre W _ _ h _
    exact h.elim

end Go.Proofs.YtkmcboincjohlaaGreat

/- Walks: straight, first. -/
namespace Go.Proofs.YtkmcboincjohlaaGreat
open Go Go.RowKit Go.Proofs Go.Shelf

/-- Does the corner go straight on? -/
def strB (xs ys : Nat → Int) (p k q : Nat) : Bool := cross (xs p) (ys p) (xs k) (ys k) (xs q) (ys q) == 0

abbrev cnrObj (xs ys : Nat → Int) (p k q : Nat) : Obj := .cells #[.int .i64 (xs p), .int .i64 (ys p), .int .i64 (xs k), .int .i64 (ys k), .int .i64 (xs q), .int .i64 (ys q)] 162

set_option maxHeartbeats 1000000 in
theorem straight_any (xs ys : Nat → Int) (p k q : Nat) (hsm : ∀ k, Small (xs k) ∧ Small (ys k)) (w : World) :
    Calls Tryz.prog 46 #[cnrV xs ys p k q] w fun e w' => e = .returned (.bool (strB xs ys p k q)) ∧ Below w.heap.size w w' := by
  have C := fun w => cross_any (xs p) (ys p) (xs k) (ys k) (xs q) (ys q) w (hsm _).1 (hsm _).2 (hsm _).1 (hsm _).2 (hsm _).1 (hsm _).2
  clear hsm
  go_enter Tryz.func46, Tryz.ntmps46
  go_wp2_with fail
  refine (C _).mono ?_
  rintro e w1 ⟨rfl, hb⟩
  have kb := keep_below ((Below.refl w.heap.size w).alloc (Nat.le_refl _) (cnrObj xs ys p k q)) hb
  clear hb
  go_wp2
  go_ret
  exact ⟨rfl, kb⟩

theorem below_box {W w' : World} {B : Nat} {t : TypeId} {v : Value} (hb : Below W.heap.size W w') (h : Boxed W B t v) : Boxed w' B t v := (hb.block B h.lt).trans h

theorem keepsFrom_below {W w' : World} (B : Nat) (hb : Below W.heap.size W w') : KeepsFrom B W w' := ⟨hb.size, fun k _ _ hk _ => (hb.block k (Array.getElem?_eq_some_iff.1 hk).1).trans hk⟩

attribute [local go_sem] Oper.semAt_some

def strK (xs ys : Nat → Int) (len x : Nat) : Bool := strB xs ys ((x + len - 1) % len) x ((x + 1) % len)

def firstS (xs ys : Nat → Int) (len : Nat) : Int := match (List.range len).find? (strK xs ys len) with
  | some k => k
  | none => -1

theorem firstS_none {xs ys : Nat → Int} {len : Nat} (h : ∀ x ∈ List.range len, strK xs ys len x = false) : firstS xs ys len = -1 := by
  unfold firstS
  have : (List.range len).find? (strK xs ys len) = none := List.find?_eq_none.2 fun x hx => by simp [h x hx]
  rw [this]

theorem firstS_some {xs ys : Nat → Int} {len k x : Nat} {pre : List Nat} (he : List.range k = pre ++ [x]) (hk : k ≤ len) (h : ∀ y ∈ pre, strK xs ys len y = false) (hx : strK xs ys len x = true) : firstS xs ys len = (x : Nat) := by
  unfold firstS
  have h1 : List.range len = (pre ++ [x]) ++ (List.range (len - k)).map (k + ·) := by
    rw [← he, ← List.range_add]; congr 1; omega
  have : (List.range len).find? (strK xs ys len) = some x := by
    rw [h1, List.append_assoc, List.find?_append]
    rw [List.find?_eq_none.2 (fun y hy => by simp [h y hy])]
    simp [hx]
  rw [this]

set_option maxRecDepth 100000 in
set_option maxHeartbeats 2000000 in
theorem first_any (b off len cap : Nat) (xs ys : Nat → Int) (hlen : len ≤ 1000000) (hsm : ∀ k, Small (xs k) ∧ Small (ys k)) (w : World)
    (hc : ∀ k, k < len → w.cell? ⟨b, off + k * 2, none⟩ = some (.int .i64 (xs k)) ∧ w.cell? ⟨b, off + k * 2 + 1, none⟩ = some (.int .i64 (ys k))) (hb : b < w.heap.size) :
    Calls Tryz.prog 45 #[.slice (some ⟨b, off, none⟩) len cap, .func (.func 46) #[] #[]] w fun e w' => e = .returned (.int .i64 (firstS xs ys len)) ∧ Below w.heap.size w w' := by
  refine (callsIn_wide (n := 6)).1 ?_
  have h1 : 1 ≤ 6 := by omega
  refine callsIn_of_wp_marks Tryz.func45 rfl trivial ?_ rfl
  simp only [Tryz.ntmps45, List.size_toArray, List.length_cons, List.length_nil, Nat.reduceAdd, Nat.reduceSub, Array.replicate_succ, Array.replicate_zero, List.push_toArray, List.append_toArray, List.nil_append, List.cons_append]
  gi_wp2_with (refine ⟨trivial, ?_⟩; gi_at_call 88; refine (corners_in Fence.wide 5 trivial rfl _ _ _ _).mono ?_; rintro e w' ⟨rfl, rfl⟩)
  obtain ⟨W0, hW0⟩ : ∃ W0, ((w.alloc (.cells #[.func (.func 46) #[] #[]] 120)).alloc (.cells #[.int .i64 0] 3)).alloc (.cells #[.slice (some ⟨b, off, none⟩) len cap] 34) = W0 := ⟨_, rfl⟩
  have hsz : W0.heap.size = w.heap.size + 3 := by rw [← hW0]; simp
  have bK : Boxed W0 w.heap.size 120 (.func (.func 46) #[] #[]) := by rw [← hW0]; exact ((Boxed.new w 120 _).alloc _).alloc _
  have bR : Boxed W0 (w.heap.size + 1) 3 (.int .i64 0) := by
    rw [← hW0]; have := (Boxed.new (w.alloc (.cells #[.func (.func 46) #[] #[]] 120)) 3 (.int .i64 0)).alloc (.cells #[.slice (some ⟨b, off, none⟩) len cap] 34); rwa [World.size_alloc] at this
  have bC : Boxed W0 (w.heap.size + 1 + 1) 34 (.slice (some ⟨b, off, none⟩) len cap) := by
    rw [← hW0]; have := Boxed.new ((w.alloc (.cells #[.func (.func 46) #[] #[]] 120)).alloc (.cells #[.int .i64 0] 3)) 34 (.slice (some ⟨b, off, none⟩) len cap); rwa [World.size_alloc, World.size_alloc] at this
  have hB0 : Below w.heap.size w W0 := by rw [← hW0]; exact (((Below.refl _ w).alloc (Nat.le_refl _) _).alloc (by simp) _).alloc (by simp; omega) _
  rw [hW0]
  clear hW0
  refine wpIn_rangeFunc_ownH rfl h1 (gf := 131) (lb := #[.pointer (some ⟨w.heap.size + 1 + 1, 0, none⟩)]) rfl trivial (enters_of Tryz.func131 (by kernel_rfl) rfl)
    (corners_stops Fence.wide 5 trivial rfl (by omega) (w.heap.size + 1 + 1) w.heap.size b off len cap xs ys hlen hb W0 (by omega) (by omega) bC.cell (fun k hk => ⟨keep_cell hB0 (hc k hk).1, keep_cell hB0 (hc k hk).2⟩))
    KeepC.trans (fun W l o o' hl h _ _ => keepC_put (by omega) (by omega)) (Below.refl _ _) (fun _ => rfl)
    (fun pre W => ((∀ x ∈ pre, strK xs ys len x = false) ∧ Boxed W w.heap.size 120 (.func (.func 46) #[] #[])) ∧ Boxed W (w.heap.size + 1) 3 (.int .i64 0) ∧ Below w.heap.size w W ∧ w.heap.size + 3 ≤ W.heap.size)
    (fun c pre W => (c = .ret ∧ ∃ pre' x, pre = pre' ++ [x] ∧ (∀ x ∈ pre', strK xs ys len x = false) ∧ strK xs ys len x = true ∧ Boxed W (w.heap.size + 1) 3 (.int .i64 (x : Nat))) ∧ Below w.heap.size w W)
    (OwnFrom.and (OwnFrom.and (ownFrom_pure _ _) (Own.from (boxed_own _ _ _) _)) (OwnFrom.and (Own.from (boxed_own _ _ _) _) (OwnFrom.and (ownFrom_below (Nat.le_refl _) (by omega)) (ownFrom_size _ _))))
    (fun c => OwnFrom.and (fun s X Y row hs hg hr => by
      obtain ⟨h1, pre', x, h2, h3, h4, h5⟩ := hs
      exact ⟨h1, pre', x, h2, h3, h4, Own.from (boxed_own _ 3 (fun (_ : Unit) => Value.int .i64 (x : Nat))) _ () X Y row h5 hg hr⟩) (ownFrom_below (Nat.le_refl _) (by omega)))
    ⟨⟨by simp, bK⟩, bR, hB0, by omega⟩
    (fun x a' W => ∃ Bx, w.heap.size + 2 < Bx ∧ Box6 W Bx (cnrV xs ys ((x + len - 1) % len) x ((x + 1) % len)) ∧ a' = { tmps := #[.slice (some ⟨b, off, none⟩) len cap, .func (.func 46) #[] #[], undef, .pointer (some ⟨w.heap.size, 0, none⟩), .pointer (some ⟨w.heap.size + 1, 0, none⟩), .int .i64 x, .pointer (some ⟨Bx, 0, none⟩), .slice (some ⟨b, off, none⟩) len cap, .func (.func 131) #[] #[.pointer (some ⟨w.heap.size + 1 + 1, 0, none⟩)], .int .i64 x, cnrV xs ys ((x + len - 1) % len) x ((x + 1) % len), undef, undef, undef, undef], defers := [] })
    (fun x a' _ X Y row hs hg hr => by obtain ⟨Bx, h1, h2, h3⟩ := hs; exact ⟨Bx, h1, h2.own hg hr, h3⟩)
    ?assign ?body ?done ?stop
  case assign =>
    rintro l pre x W K ⟨⟨hpre, bK1⟩, bR1, hB1, hs1⟩ hK
    gi_wp2
    exact hK _ _ ((KeepsOthers.alloc _ _).from _) (KeepC.below ((Below.refl _ W).alloc (Nat.le_refl _) _) (by omega) (by omega)) ⟨⟨hpre, bK1.alloc _⟩, bR1.alloc _, hB1.alloc (by omega) _, by simp; omega⟩ ⟨W.heap.size, by omega, Box6.new W _, rfl⟩
  case body =>
    rintro l pre x a' W hl _ ⟨⟨hpre, bK1⟩, bR1, hB1, hs1⟩ ⟨Bx, hBx, bX, rfl⟩ hlt
    have x0 := bX.cell (o := 0) rfl
    have x1 := bX.cell (o := 1) rfl
    have x2 := bX.cell (o := 2) rfl
    have x3 := bX.cell (o := 3) rfl
    have x4 := bX.cell (o := 4) rfl
    have x5 := bX.cell (o := 5) rfl
    have cK := bK1.cell
    gi_wp2_with fail
    refine ⟨trivial, ?_⟩
    refine (CallsIn.inRound l (callsIn_wide.2 (straight_any xs ys _ _ _ hsm _))).mono ?_
    rintro e w' ⟨rfl, hbw⟩
    change Below W.heap.size W w' at hbw
    have bR2 := below_box hbw bR1
    have bK2 := below_box hbw bK1
    have hB2 := hB1.trans (hbw.mono hB1.size)
    have hkf := keepsFrom_below W0.heap.size hbw
    have hkc : KeepC w.heap.size (w.heap.size + 1 + 1) W w' := KeepC.below hbw (by omega) (by omega)
    have hs2 := Nat.le_trans hs1 hbw.size
    have cR := bR2.cell
    have fR := bR2.frozen
    obtain ⟨kd, hkd⟩ : ∃ kd, strB xs ys ((x + len - 1) % len) x ((x + 1) % len) = kd := ⟨_, rfl⟩
    rw [hkd]
    have KD : Hid (strK xs ys len x = kd) := Lib.hid hkd
    clear hkd x0 x1 x2 x3 x4 x5 cK
    cases kd
    · gi_wp2
      exact ⟨hkf, hkc, ⟨fun y hy => (List.mem_append.1 hy).elim (hpre y) (fun e => by rw [List.mem_singleton.1 e]; exact KD.out), bK2⟩, bR2, hB2, hs2⟩
    · gi_wp2
      exact ⟨hkf.trans ((KeepsOthers.setCell _ _ _).from _), ⟨rfl, pre, x, rfl, hpre, KD.out, bR2.set _⟩, hB2.setCell (by simp) _⟩
  case done =>
    rintro D ks W hD rfl ⟨⟨hpre, bK1⟩, bR1, hB1, hs1⟩ hK
    have cR := bR1.cell
    have fR := bR1.frozen
    gi_wp2
    have hK' := (KeepsOthers.setCell W ⟨w.heap.size + 1, 0, none⟩ (.int .i64 (-1))).same D _ hK rfl
    refine ⟨by simp, .inl ⟨_, _, rfl, run_takeDeferred hK', ?_⟩⟩
    have hc5 := cell_kept (World.cell?_setCell_same' W ⟨w.heap.size + 1, 0, none⟩ (.int .i64 (-1)) (by rw [cR]; rfl)) (grownBy_putObj' _ D (.deferred none)) (fun r e => by cases e; exact ⟨_, hK', rfl⟩)
    refine ⟨.int .i64 (-1), ?_, ?_⟩
    · simp [results, go_sem, hc5]
    · refine ⟨?_, (hB1.setCell (p := ⟨w.heap.size + 1, 0, none⟩) (by simp) _).trans (belowK_b (w := w) (Nat.le_refl _) _ D _ _ (by omega) hK' rfl rfl)⟩
      rw [firstS_none hpre]
  case stop =>
    rintro D c pre W hD ⟨k, hk, hpre⟩ ⟨⟨rfl, pre', x, h2, h3, h4, h5⟩, hB1⟩ hK
    gi_wp2
    refine ⟨by simp, .inl ⟨_, _, rfl, run_takeDeferred hK, ?_⟩⟩
    have hc5 := cell_kept h5.cell (grownBy_putObj' _ D (.deferred none)) (fun r e => by cases e; exact ⟨_, hK, rfl⟩)
    refine ⟨.int .i64 (x : Nat), ?_, ?_⟩
    · simp [results, go_sem, hc5]
    · refine ⟨?_, hB1.trans (belowK_b (w := w) (Nat.le_refl _) _ D _ _ (by omega) hK rfl rfl)⟩
      rw [firstS_some (hpre.symm.trans h2) hk h3 h4]

end Go.Proofs.YtkmcboincjohlaaGreat
