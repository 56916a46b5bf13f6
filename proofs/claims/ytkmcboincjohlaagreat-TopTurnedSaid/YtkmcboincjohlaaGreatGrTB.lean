/- The abstract machine, part GrTB. -/
import Derived.Test.YtkmcboincjohlaaGreatVZ
/- A region that draws its order, told operation by operation to its end, with a ghost: what has been made so far is said of one thing that grows (the blocks that were laid), so that a free alloc beside a call needs no ways. -/
namespace Go.Abs
open Go Go.RowKit

variable {P : Program} {Q : Exit → Act → World → Prop} {G : Type}

/-- An operation ends with a value, calls what returns one, or writes. -/
def StepsH (P : Program) (o : Oper) (c : Sem Next) (W : World) (K : Value → World → Prop) : Prop :=
  (o.dst.isSome = true ∧ ∃ v W', c.run P W = .ok (.value v) W' ∧ K v W') ∨
  (o.dst.isSome = true ∧ ∃ f args, c.run P W = .ok (.enter f args) W ∧ Calls P f args W fun e W'' => ∃ v, e = .returned v ∧ K v W'') ∨
  (o.dst = none ∧ ∃ W', c.run P W = .ok .skip W' ∧ K undef W')

structure VInvH (Val : G → Nat → Value → World → Prop) (Good : G → Array Bool → World → Prop) (l : List Oper) (a : Act) (g : G) (listed : Array Bool) (a' : Act) (W : World) : Prop where
  len : a'.tmps.size = a.tmps.size
  defers : a'.defers = a.defers
  good : Good g listed W
  vals : ∀ i o, isIn listed i = true → l[i]? = some o → Val g i (vAt a' o) W
  rest : ∀ t, (∀ i, isIn listed i = true → dstOf l.toArray i ≠ some t) → a'.tmps[t]? = a.tmps[t]?

theorem wp_region_valsH {id : Nat} {l : List Oper} {a : Act} {w : World} (Val : G → Nat → Value → World → Prop) (Rel : Nat → G → G → World → World → Prop) (Good : G → Array Bool → World → Prop) (hm : P.follows .mixedOrders = true) (hB : valsZB a.tmps.size l = true) (g0 : G)
    (hg0 : Good g0 (Array.replicate l.length false) w.drew)
    (hgood : ∀ (listed : Array Bool) g g' j W W', listed.size = l.length → j < l.length → isIn listed j = false → Good g listed W → Rel j g g' W W' → Good g' (listed.setIfInBounds j true) W')
    (hst : ∀ (listed : Array Bool) g g' i j v W W', i < l.length → j < l.length → listed.size = l.length → i ≠ j → anc l.toArray i j = false → isIn listed i = true → isIn listed j = false → Val g i v W → Good g listed W → Rel j g g' W W' → Val g' i v W')
    (hstep : ∀ i o, l[i]? = some o → ∀ (listed : Array Bool) g (a' : Act) W, listed.size = l.length → isIn listed i = false → (∀ j, anc l.toArray j i = true → isIn listed j = false) → Good g listed W → (∀ t, (l.map (·.dst)).contains (some t) = false → a'.eval (.tmp t) = a.eval (.tmp t)) →
      (∀ e ∈ o.after.toList, Region.binds .any e = true → ∀ oe, l[e.on]? = some oe → isIn listed e.on = true ∧ Val g e.on (vAt a' oe) W) → StepsH P o (execOp a'.eval o) W (fun v W' => ∃ g', Rel i g g' W W' ∧ Val g' i v W'))
    (hQ : ∀ listed g a' W, (∀ i, i < l.length → isIn listed i = true) → listed.size = l.length → Good g listed W → a'.defers = a.defers → a'.tmps.size = a.tmps.size → (∀ i o, l[i]? = some o → Val g i (vAt a' o) W) → (∀ t, (∀ i, i < l.length → dstOf l.toArray i ≠ some t) → a'.tmps[t]? = a.tmps[t]?) → Q .normal a' W) :
    (Code.region id l.toArray true).wp P Q a w := by
  unfold valsZB at hB
  simp only [Bool.and_eq_true] at hB
  obtain ⟨⟨hB1, hB2⟩, hback⟩ := hB
  simp only [List.all_eq_true, List.mem_range, Bool.or_eq_true, Bool.and_eq_true, beq_iff_eq, Bool.not_eq_true', Option.isNone_iff_eq_none] at hB1 hB2 hback
  have hd : ∀ (i : Nat) (o : Oper) (d : Nat), l[i]? = some o → o.dst = some d → d < a.tmps.size := by
    intro i o d ho hdo
    obtain ⟨-, h2⟩ := hB1 o (List.mem_of_getElem? ho)
    rw [hdo] at h2
    simpa using h2
  have hgu : ∀ (i : Nat) (o : Oper), l[i]? = some o → o.guard = none := fun i o ho => (hB1 o (List.mem_of_getElem? ho)).1
  have hdst : ∀ (i : Nat) (o : Oper), l[i]? = some o → dstOf l.toArray i = o.dst := by
    intro i o ho
    unfold dstOf
    rw [List.getElem?_toArray, ho]
    rfl
  have hdi : ∀ i d, dstOf l.toArray i = some d → ∃ o, l[i]? = some o ∧ o.dst = some d := by
    intro i d h
    unfold dstOf at h
    rw [List.getElem?_toArray] at h
    cases ho : l[i]? with
    | none => rw [ho] at h; cases h
    | some o => rw [ho] at h; exact ⟨o, rfl, h⟩
  have hne : ∀ i j d, dstOf l.toArray i = some d → dstOf l.toArray j = some d → i = j := by
    intro i j d h1 h2
    obtain ⟨o1, g1, -⟩ := hdi i d h1
    obtain ⟨o2, g2, -⟩ := hdi j d h2
    rcases hB2 i (List.getElem?_eq_some_iff.1 g1).1 j (List.getElem?_eq_some_iff.1 g2).1 with (e | e) | e
    · exact e
    · rw [h1] at e; cases e
    · rw [h1, h2] at e
      simp at e
  refine wp_region_invZ (fun listed a' W => listed.size = l.length ∧ Closed l.toArray listed ∧ ∃ g, VInvH Val Good l a g listed a' W) hm ?_ ?_ ?_
  · have hno : ∀ i, isIn (Array.replicate l.toArray.size false) i = false := fun i => getD_replicate_false _ _
    exact ⟨by simp, fun j oj _ hl => (by rw [getD_replicate_false] at hl; cases hl), g0, rfl, rfl, by simpa using hg0, fun i o h => (by rw [hno] at h; cases h), fun t _ => rfl⟩
  · intro listed a' W i hls0 hinv hir
    obtain ⟨hls, hcl, g, hi⟩ := hinv
    obtain ⟨hun, o, ho, hdep⟩ := mem_ready.1 hir
    have ho' : l[i]? = some o := by rw [← ho]; simp
    have hin := (List.getElem?_eq_some_iff.1 ho').1
    have hil : i < listed.size := by omega
    have hli : isIn listed i = false := getD_both hun
    have up : ∀ j, anc l.toArray i j = true → isIn listed j = true := fun j hj => anc_listed hcl i j hj (fun o2 ho2 e he hb => by
      rw [ho] at ho2; cases ho2; exact hdep e he hb)
    have hnew : isIn (listed.setIfInBounds i true) i = true := by rw [isIn_set hil]; simp
    have hother : ∀ j, j ≠ i → isIn (listed.setIfInBounds i true) j = isIn listed j := fun j hj => by
      rw [isIn_set hil]
      have : (j == i) = false := by simpa using hj
      rw [this, Bool.or_false]
    have hcl2 : Closed l.toArray (listed.setIfInBounds i true) := by
      intro j oj hoj hlj e he hb
      change isIn _ _ = true at hlj
      change isIn _ _ = true
      by_cases hji : j = i
      · subst hji
        rw [ho] at hoj; cases hoj
        have := hdep e he hb
        by_cases hee : e.on = j
        · rw [hee]; exact hnew
        · rw [hother _ hee]; exact this
      · rw [hother j hji] at hlj
        have := hcl j oj hoj hlj e he hb
        by_cases hee : e.on = i
        · rw [hee]; exact hnew
        · rw [hother _ hee]; exact this
    have hvat : ∀ (j : Nat) (oj : Oper) (v : Value), j ≠ i → l[j]? = some oj → (o.dst.isSome = true ∨ o.dst = none) → vAt (a'.put o.dst v) oj = vAt a' oj := by
      intro j oj v hji hoj _
      unfold vAt Act.put
      cases hdj : oj.dst with
      | none => rfl
      | some d =>
        cases hdo : o.dst with
        | none => rfl
        | some d0 =>
          have hdd : d0 ≠ d := fun e => by
            subst e
            exact hji (hne j i d0 (by rw [hdst j oj hoj]; exact hdj) (by rw [hdst i o ho']; exact hdo))
          show (a'.tmps.setIfInBounds d0 v).getD d undef = _
          rw [Array.getD_eq_getD_getElem?, Array.getElem?_setIfInBounds_ne hdd, ← Array.getD_eq_getD_getElem?]
    have next : ∀ v W', (o.dst.isSome = true ∨ (o.dst = none ∧ v = undef)) → (∃ g', Rel i g g' W W' ∧ Val g' i v W') → (listed.setIfInBounds i true).size = l.length ∧ Closed l.toArray (listed.setIfInBounds i true) ∧ ∃ g', VInvH Val Good l a g' (listed.setIfInBounds i true) (a'.put o.dst v) W' := by
      rintro v W' hdv ⟨g', hW', hv⟩
      refine ⟨by simpa using hls, hcl2, g', ?_, ?_, hgood listed g g' i W W' hls hin hli hi.good hW', fun j oj hj hoj => ?_, fun t ht => ?_⟩
      · cases o.dst <;> simp [Act.put, hi.len]
      · cases o.dst <;> simp [Act.put, hi.defers]
      · by_cases hji : j = i
        · subst hji
          rw [ho'] at hoj
          cases hoj
          have e : vAt (a'.put o.dst v) o = v := by
            unfold vAt Act.put
            rcases hdv with h | ⟨h, rfl⟩
            · cases hdo : o.dst with
              | none => rw [hdo] at h; cases h
              | some d =>
                show (a'.tmps.setIfInBounds d v).getD d undef = v
                rw [Array.getD_eq_getD_getElem?, Array.getElem?_setIfInBounds_self_of_lt (by rw [hi.len]; exact hd _ _ _ ho' hdo)]
                rfl
            · rw [h]
          rw [e]
          exact hv
        · rw [hvat j oj v hji hoj (by rcases hdv with h | ⟨h, -⟩ <;> simp [h])]
          rw [hother j hji] at hj
          refine hst listed g g' j i _ W W' (List.getElem?_eq_some_iff.1 hoj).1 hin hls hji ?_ hj hli (hi.vals j oj hj hoj) hi.good hW'
          cases hanc : anc l.toArray j i with
          | false => rfl
          | true =>
            exfalso
            have := anc_listed hcl j i hanc (fun o2 ho2 e he hb => hcl j o2 ho2 hj e he hb)
            change isIn listed i = true at this
            rw [hli] at this
            cases this
      · have h1 : a'.tmps[t]? = a.tmps[t]? := hi.rest t (fun j hj => ht j (by
          by_cases hji : j = i
          · subst hji; exact hnew
          · rw [hother j hji]; exact hj))
        cases hdo : o.dst with
        | none => exact h1
        | some d =>
          show (a'.tmps.setIfInBounds d v)[t]? = _
          have htd : d ≠ t := fun e => by
            subst e
            exact ht i hnew (by rw [hdst i o ho']; exact hdo)
          rw [Array.getElem?_setIfInBounds_ne htd]
          exact h1
    have hS := hstep i o ho' listed g a' W hls hli
      (fun j hj => by
        cases hlj : isIn listed j with
        | false => rfl
        | true =>
          exfalso
          have := anc_listed hcl j i hj (fun o2 ho2 e he hb => hcl j o2 ho2 hlj e he hb)
          change isIn listed i = true at this
          rw [hli] at this
          cases this) hi.good
      (fun t ht => by
        have := hi.rest t (fun j _ e => by
          obtain ⟨o2, g1, g2⟩ := hdi j t e
          have : some t ∈ l.map (·.dst) := List.mem_map.2 ⟨o2, List.mem_of_getElem? g1, g2⟩
          rw [← List.contains_iff_mem, ht] at this
          cases this)
        show a'.tmps.getD t undef = a.tmps.getD t undef
        simp only [Array.getD_eq_getD_getElem?, this])
      (fun e he hb oe hoe => ⟨hdep e (by simpa using he) hb, hi.vals e.on oe (hdep e (by simpa using he) hb) hoe⟩)
    refine wpOp_step (o := o) ho (fun K hK => ?_)
    rw [if_pos (show Region.wanted o _ = true by unfold Region.wanted; rw [hgu i o ho'])]
    unfold Oper.wp
    rcases hS with ⟨hs, v, W', h1, h2⟩ | ⟨hs, f, args, h1, h3⟩ | ⟨hs, W', h1, h2⟩
    · rw [h1]
      exact hK _ _ (next v W' (.inl hs) h2)
    · rw [h1]
      refine h3.mono ?_
      rintro e W'' ⟨v, rfl, hv⟩
      exact hK _ _ (next v W'' (.inl hs) hv)
    · rw [h1]
      exact hK _ _ (next undef W' (.inr ⟨hs, rfl⟩) h2)
  · intro listed a' W hinv hnil
    obtain ⟨hls, hcl, g, hi⟩ := hinv
    have hall : ∀ i, i < l.length → isIn listed i = true := by
      intro i
      induction i using Nat.strongRecOn with
      | _ i ih2 =>
        intro him
        cases hli : isIn listed i with
        | true => rfl
        | false =>
          exfalso
          have ho : l[i]? = some l[i] := List.getElem?_eq_getElem him
          have : i ∈ Region.ready .any l.toArray listed := by
            rw [mem_ready]
            refine ⟨getD_in (by omega) hli, l[i], by rw [List.getElem?_toArray]; exact ho, fun e he hb => ?_⟩
            have h1 := hback i him
            rw [ho] at h1
            simp only [List.all_eq_true] at h1
            have h2 := h1 e (by simpa using he)
            simp only [hb, Bool.not_true, Bool.false_or, decide_eq_true_eq] at h2
            exact ih2 e.on h2 (by omega)
          rw [hnil] at this
          cases this
    exact hQ listed g a' W hall hls hi.good hi.defers hi.len (fun i o ho => hi.vals i o (hall i (List.getElem?_eq_some_iff.1 ho).1) ho) (fun t ht => hi.rest t (fun i hi2 e => by
      obtain ⟨o, g1, -⟩ := hdi i t e
      exact ht i (List.getElem?_eq_some_iff.1 g1).1 e))

end Go.Abs

/- Boxes beside calls in a region that draws its order: each operation gives a known value, a box, what lies in the blocks that a call has made, or a store into a box. One way is left, whatever the order. -/
namespace Go.Abs
open Go Go.RowKit

variable {P : Program} {Q : Exit → Act → World → Prop}

/-- What an operation gives. -/
inductive Kd where
  | con (c : Value)
  | box (z : Obj)
  | made (i : Nat) (Φ : Value → Nat → Nat → World → Prop)
  | sto (α i : Nat) (Ψ : Obj → Nat → Nat → World → Prop)

/-- What has been done: the operations, the blocks that each has made, what lies in each box. -/
structure Gh where
  L : Array Bool
  r : Nat → Nat × Nat
  ob : Nat → Obj

def kVal (K : Nat → Kd) (g : Gh) (i : Nat) (v : Value) (W : World) : Prop := match K i with
  | .con c => v = c
  | .box _ => v = .pointer (some ⟨(g.r i).1, 0, none⟩) ∧ W.heap[(g.r i).1]? = some (g.ob i) ∧ isIn g.L i = true
  | .made k Φ => isIn g.L k = true ∧ Φ v (g.r k).1 (g.r k).2 W
  | .sto α k Ψ => isIn g.L k = true ∧ isIn g.L α = true ∧ Ψ (g.ob α) (g.r k).1 (g.r k).2 W

def Kd.tgt : Kd → Option Nat
  | .sto α _ _ => some α
  | _ => none

def Kd.isBox : Kd → Bool
  | .box _ => true
  | _ => false

/-- Behind this an operation's own facts. -/
def kEff (X : Nat) (j : Nat) (g g' : Gh) (W W' : World) : Kd → Prop
  | .sto α _ _ => isIn g.L α = true ∧ Below X W W' ∧ W'.heap.size = W.heap.size ∧ (∀ b, b ≠ (g.r α).1 → W'.heap[b]? = W.heap[b]?) ∧ W'.heap[(g.r α).1]? = some (g'.ob α)
  | .box z => W' = W.alloc z ∧ g'.ob j = z
  | _ => Below W.heap.size W W'

structure kRel (X : Nat) (K : Nat → Kd) (j : Nat) (g g' : Gh) (W W' : World) : Prop where
  l : g'.L = g.L.setIfInBounds j true
  r : ∀ i, i ≠ j → g'.r i = g.r i
  o : g'.r j = (W.heap.size, W'.heap.size)
  ob : ∀ i, i ≠ j → (K j).tgt ≠ some i → g'.ob i = g.ob i
  eff : kEff X j g g' W W' (K j)

structure kGood (w0 : World) (K : Nat → Kd) (g : Gh) (listed : Array Bool) (W : World) : Prop where
  l : g.L = listed
  b : Below w0.heap.size w0 W
  rng : ∀ i, isIn listed i = true → w0.heap.size ≤ (g.r i).1 ∧ (g.r i).1 ≤ (g.r i).2 ∧ (g.r i).2 ≤ W.heap.size
  dis : ∀ i j, i ≠ j → isIn listed i = true → isIn listed j = true → (g.r i).2 ≤ (g.r j).1 ∨ (g.r j).2 ≤ (g.r i).1
  box : ∀ i z, K i = .box z → isIn listed i = true → (g.r i).1 < (g.r i).2 ∧ ((∀ σ, (K σ).tgt = some i → isIn listed σ = false) → g.ob i = z) ∧ W.heap[(g.r i).1]? = some (g.ob i)

/-- The shape: a store's box is a box, what is told by blocks is told by those of an operation that is none; a box is stored into once. -/
def kOkB (l : List Kd) : Bool :=
  (l.all fun x => match x with
    | .made k _ => !(l.getD k (.con undef)).isBox
    | .sto α k _ => (l.getD α (.con undef)).isBox && !(l.getD k (.con undef)).isBox
    | _ => true) &&
  ((List.range l.length).all fun i => (List.range l.length).all fun j => i == j || (l.getD i (.con undef)).tgt.isNone || !((l.getD i (.con undef)).tgt == (l.getD j (.con undef)).tgt))

def Keeps (X lo hi : Nat) (W W' : World) : Prop := ∀ b, b < X ∨ (lo ≤ b ∧ b < hi) → W'.heap[b]? = W.heap[b]?

/-- What is told stays while those blocks stay. -/
def Kd.stable (X : Nat) : Kd → Prop
  | .made _ Φ => ∀ v lo hi W W', Keeps X lo hi W W' → Φ v lo hi W → Φ v lo hi W'
  | .sto _ _ Ψ => ∀ v lo hi W W', Keeps X lo hi W W' → Ψ v lo hi W → Ψ v lo hi W'
  | _ => True

/-- What a step must show. -/
def kStep (P : Program) (o : Oper) (c : Sem Next) (X : Nat) (W : World) (g : Gh) (i : Nat) (z : Nat → Obj → Prop) : Kd → Prop
  | .con v => StepsH P o c W (fun u W' => u = v ∧ Below W.heap.size W W')
  | .box z => o.dst.isSome = true ∧ c.run P W = .ok (.value (.pointer (some ⟨W.heap.size, 0, none⟩))) (W.alloc z)
  | .made k Φ => StepsH P o c W (fun u W' => Below W.heap.size W W' ∧ if k = i then Φ u W.heap.size W'.heap.size W' else isIn g.L k = true ∧ Φ u (g.r k).1 (g.r k).2 W')
  | .sto α k Ψ => isIn g.L k = true ∧ isIn g.L α = true ∧ o.dst = none ∧ ∀ ob, z α ob → W.heap[(g.r α).1]? = some ob → X ≤ (g.r α).1 → ((g.r k).2 ≤ (g.r α).1 ∨ (g.r α).1 < (g.r k).1) →
      ∃ W' ob', c.run P W = .ok .skip W' ∧ Below X W W' ∧ W'.heap.size = W.heap.size ∧ (∀ b, b ≠ (g.r α).1 → W'.heap[b]? = W.heap[b]?) ∧ W'.heap[(g.r α).1]? = some ob' ∧ Ψ ob' (g.r k).1 (g.r k).2 W'

theorem isBox_ex {k : Kd} (h : k.isBox = true) : ∃ z, k = .box z := by
  cases k with
  | box z => exact ⟨z, rfl⟩
  | _ => cases h

theorem heap_alloc_at (W : World) (z : Obj) : (W.alloc z).heap[W.heap.size]? = some z := by
  show (W.heap.push z)[W.heap.size]? = some z
  simp

theorem isIn_lt {listed : Array Bool} {i : Nat} (h : isIn listed i = true) : i < listed.size := by
  unfold isIn at h
  by_cases hi : i < listed.size
  · exact hi
  · rw [Array.getD_eq_getD_getElem?, Array.getElem?_eq_none (by omega)] at h
    simp at h

theorem isIn_other {listed : Array Bool} {i j : Nat} (h : i ≠ j) : isIn (listed.setIfInBounds j true) i = isIn listed i := by
  unfold isIn
  rw [Array.getD_eq_getD_getElem?, Array.getD_eq_getD_getElem?, Array.getElem?_setIfInBounds_ne (Ne.symm h)]

theorem kEff_grows {X j : Nat} {g g' : Gh} {W W' : World} {k : Kd} (hX : X ≤ W.heap.size) (h : kEff X j g g' W W' k) : Below X W W' := by
  cases k with
  | sto α i Ψ => exact h.2.1
  | box z => rw [h.1]; exact ((Below.refl _ _).alloc (Nat.le_refl _) _).mono hX
  | con c => exact Below.mono (h : Below _ _ _) hX
  | made i Φ => exact Below.mono (h : Below _ _ _) hX

theorem getK_mem {l : List Kd} {i : Nat} {x : Kd} (h : l.getD i (.con undef) = x) (hx : x ≠ .con undef) : x ∈ l := by
  rw [List.getD_eq_getElem?_getD] at h
  cases he : l[i]? with
  | none => rw [he] at h; exact absurd h.symm hx
  | some y =>
    rw [he] at h
    simp only [Option.getD_some] at h
    subst h
    exact List.mem_of_getElem? he

/-- The other blocks stay. -/
theorem kKeeps {w0 : World} {l : List Kd} (hK : kOkB l = true) {g g' : Gh} {listed : Array Bool} {W W' : World} {j k : Nat} (hG : kGood w0 (fun i => l.getD i (.con undef)) g listed W) (hk : isIn listed k = true) (hkb : (l.getD k (.con undef)).isBox = false)
    (hR : kRel w0.heap.size (fun i => l.getD i (.con undef)) j g g' W W') : Keeps w0.heap.size (g.r k).1 (g.r k).2 W W' := by
  intro b hb
  obtain ⟨h1, h2, h3⟩ := hG.rng k hk
  have hbW : b < W.heap.size := by have := hG.b.size; omega
  have he := hR.eff
  try simp only at he
  generalize hkj : l.getD j (.con undef) = kj at he
  cases kj with
  | sto α i Ψ =>
    obtain ⟨e1, -, -, e4, -⟩ := he
    have ha := getK_mem hkj (by simp)
    have hbox : (l.getD α (.con undef)).isBox = true := by
      unfold kOkB at hK
      rw [Bool.and_eq_true] at hK
      have := List.all_eq_true.1 hK.1 _ ha
      simp only [Bool.and_eq_true] at this
      exact this.1
    have hL := hG.l
    rw [hL] at e1
    have hne : α ≠ k := fun e => by rw [e, hkb] at hbox; cases hbox
    refine e4 b fun e => ?_
    obtain ⟨z, hz⟩ := isBox_ex hbox
    have hlt := (hG.box α z hz e1).1
    have hr := hG.rng α e1
    rcases hG.dis k α (Ne.symm hne) hk e1 with d | d <;> omega
  | box z => rw [he.1]; exact Below.heap_alloc _ _ _ hbW
  | con c => exact Below.block (he : Below _ _ _) b hbW
  | made i Φ => exact Below.block (he : Below _ _ _) b hbW

theorem kBox_step {w0 : World} {l : List Kd} (hK : kOkB l = true) {g g' : Gh} {listed : Array Bool} {W W' : World} {i j : Nat} {z : Obj} (hij : i ≠ j) (hi : isIn listed i = true) (hki : l.getD i (.con undef) = .box z)
    (hG : kGood w0 (fun i => l.getD i (.con undef)) g listed W) (hR : kRel w0.heap.size (fun i => l.getD i (.con undef)) j g g' W W') : W'.heap[(g.r i).1]? = some (g'.ob i) := by
  have hL := hG.l
  obtain ⟨hbi, -, h2⟩ := hG.box i z hki hi
  have hlt : (g.r i).1 < W.heap.size := (Array.getElem?_eq_some_iff.1 h2).1
  have he := hR.eff
  have hob := hR.ob i hij
  try simp only at he hob
  generalize hkj : l.getD j (.con undef) = kj at he hob
  cases kj with
  | sto α k Ψ =>
    obtain ⟨e1, -, -, e4, e5⟩ := he
    by_cases ea : i = α
    · subst ea; exact e5
    · rw [hob (by simp [Kd.tgt]; exact fun h => ea h.symm), ← h2]
      refine e4 _ fun e => ?_
      rw [hL] at e1
      have ha := getK_mem hkj (by simp)
      have hbox : (l.getD α (.con undef)).isBox = true := by
        unfold kOkB at hK
        rw [Bool.and_eq_true] at hK
        have := List.all_eq_true.1 hK.1 _ ha
        simp only [Bool.and_eq_true] at this
        exact this.1
      obtain ⟨z2, hz2⟩ := isBox_ex hbox
      have hba := (hG.box α z2 hz2 e1).1
      rcases hG.dis i α ea hi e1 with d | d <;> omega
  | box z2 => rw [hob (by simp [Kd.tgt]), he.1]; exact (Below.heap_alloc _ _ _ hlt).trans h2
  | con c => rw [hob (by simp [Kd.tgt])]; exact (Below.block (he : Below _ _ _) _ hlt).trans h2
  | made k Φ => rw [hob (by simp [Kd.tgt])]; exact (Below.block (he : Below _ _ _) _ hlt).trans h2

theorem kGood_step {w0 : World} {l : List Kd} (hK : kOkB l = true) {g g' : Gh} {listed : Array Bool} {W W' : World} {j n : Nat} (hn : listed.size = n) (hj : j < n) (hjl : isIn listed j = false) (hG : kGood w0 (fun i => l.getD i (.con undef)) g listed W)
    (hR : kRel w0.heap.size (fun i => l.getD i (.con undef)) j g g' W W') : kGood w0 (fun i => l.getD i (.con undef)) g' (listed.setIfInBounds j true) W' := by
  have hgr := kEff_grows hG.b.size hR.eff
  have hin : ∀ i, i ≠ j → isIn (listed.setIfInBounds j true) i = true → isIn listed i = true := fun i hi h => by rwa [isIn_other hi] at h
  refine ⟨by rw [hR.l, hG.l], hG.b.trans hgr, fun i hi => ?_, fun i k hik hi hk => ?_, fun i z hz hi => ?_⟩
  · by_cases e : i = j
    · subst e
      rw [hR.o]
      exact ⟨hG.b.size, hgr.size, Nat.le_refl _⟩
    · rw [hR.r i e]
      have := hG.rng i (hin i e hi)
      have := hgr.size
      omega
  · by_cases e : i = j
    · subst e
      rw [hR.o, hR.r k (Ne.symm hik)]
      have := hG.rng k (hin k (Ne.symm hik) hk)
      simp only
      omega
    · by_cases e2 : k = j
      · subst e2
        rw [hR.o, hR.r i hik]
        have := hG.rng i (hin i hik hi)
        simp only
        omega
      · rw [hR.r i e, hR.r k e2]
        exact hG.dis i k hik (hin i e hi) (hin k e2 hk)
  · by_cases e : i = j
    · subst e
      have he := hR.eff
      try simp only at hz he
      rw [hz] at he
      rw [hR.o, he.1]
      simp only [World.size_alloc]
      exact ⟨by omega, fun _ => he.2, by rw [he.2]; exact heap_alloc_at _ _⟩
    · rw [hR.r i e]
      have hb := hG.box i z hz (hin i e hi)
      refine ⟨hb.1, fun hs => ?_, kBox_step hK e (hin i e hi) hz hG hR⟩
      have ht : (l.getD j (.con undef)).tgt ≠ some i := fun h => by
        have := hs j h
        rw [isIn_set (by omega)] at this
        simp at this
      rw [hR.ob i e ht]
      refine hb.2.1 fun σ hσ => ?_
      have h1 := hs σ hσ
      by_cases e3 : σ = j
      · subst e3; exact hjl
      · rwa [isIn_other e3] at h1

theorem kVal_step {w0 : World} {l : List Kd} (hK : kOkB l = true) (hst : ∀ x ∈ l, x.stable w0.heap.size) {g g' : Gh} {listed : Array Bool} {W W' : World} {i j : Nat} {v : Value} (hij : i ≠ j) (hi : isIn listed i = true) (hjl : isIn listed j = false)
    (hG : kGood w0 (fun i => l.getD i (.con undef)) g listed W) (hR : kRel w0.heap.size (fun i => l.getD i (.con undef)) j g g' W W') (h : kVal (fun i => l.getD i (.con undef)) g i v W) : kVal (fun i => l.getD i (.con undef)) g' i v W' := by
  have hup : ∀ k, isIn g.L k = true → isIn g'.L k = true := fun k hk => by
    rw [hR.l]
    by_cases e : k = j
    · subst e; rw [isIn_set (isIn_lt hk)]; simp
    · rwa [isIn_other e]
  have hL := hG.l
  unfold kVal at h ⊢
  simp only at h ⊢
  generalize hki : l.getD i (.con undef) = ki at h ⊢
  cases ki with
  | con c => exact h
  | made k Φ =>
    obtain ⟨h1, h2⟩ := h
    have hm := getK_mem hki (by simp)
    have hkj : k ≠ j := fun e => by rw [e, hL, hjl] at h1; cases h1
    have hkb : (l.getD k (.con undef)).isBox = false := by
      unfold kOkB at hK
      rw [Bool.and_eq_true] at hK
      simpa using List.all_eq_true.1 hK.1 _ hm
    refine ⟨hup k h1, ?_⟩
    rw [hR.r k hkj]
    exact hst _ hm v _ _ W W' (kKeeps hK hG (by rwa [hL] at h1) hkb hR) h2
  | sto α k Ψ =>
    obtain ⟨h1, h2, h3⟩ := h
    have hm := getK_mem hki (by simp)
    have hkj : k ≠ j := fun e => by rw [e, hL, hjl] at h1; cases h1
    have haj : α ≠ j := fun e => by rw [e, hL, hjl] at h2; cases h2
    have hkb : (l.getD k (.con undef)).isBox = false := by
      unfold kOkB at hK
      rw [Bool.and_eq_true] at hK
      have := List.all_eq_true.1 hK.1 _ hm
      simp only [Bool.and_eq_true, Bool.not_eq_true'] at this
      exact this.2
    have ht : (l.getD j (.con undef)).tgt ≠ some α := fun e => by
      unfold kOkB at hK
      rw [Bool.and_eq_true] at hK
      have hlt : ∀ q, (l.getD q (.con undef)).tgt = some α → q < l.length := fun q hq => by
        by_cases hql : q < l.length
        · exact hql
        · rw [List.getD_eq_getElem?_getD, List.getElem?_eq_none (by omega)] at hq
          cases hq
      have hi2 : (l.getD i (.con undef)).tgt = some α := by rw [hki]; rfl
      have := List.all_eq_true.1 (List.all_eq_true.1 hK.2 i (List.mem_range.2 (hlt i hi2))) j (List.mem_range.2 (hlt j e))
      rw [hi2, e] at this
      simp [hij] at this
    refine ⟨hup k h1, hup α h2, ?_⟩
    rw [hR.r k hkj, hR.ob α haj ht]
    exact hst _ hm _ _ _ W W' (kKeeps hK hG (by rwa [hL] at h1) hkb hR) h3
  | box z =>
    obtain ⟨h1, h2, h3⟩ := h
    rw [hR.r i hij]
    exact ⟨h1, kBox_step hK hij hi hki hG hR, hup i h3⟩

/-- A region of boxes and calls, told operation by operation to its end. -/
theorem wp_region_boxes {id : Nat} {l : List Oper} {a : Act} {w : World} (Ks : List Kd) (hm : P.follows .mixedOrders = true) (hB : valsZB a.tmps.size l = true) (hK : kOkB Ks = true) (hst : ∀ x ∈ Ks, x.stable w.heap.size)
    (hstep : ∀ i o, l[i]? = some o → ∀ (g : Gh) (a' : Act) W, Below w.heap.size w W → (∀ t, (l.map (·.dst)).contains (some t) = false → a'.eval (.tmp t) = a.eval (.tmp t)) →
      (∀ e ∈ o.after.toList, Region.binds .any e = true → ∀ oe, l[e.on]? = some oe → isIn g.L e.on = true ∧ kVal (fun i => Ks.getD i (.con undef)) g e.on (vAt a' oe) W) →
      kStep P o (execOp a'.eval o) w.heap.size W g i (fun α ob => ∀ z, Ks.getD α (.con undef) = .box z → ob = z) (Ks.getD i (.con undef)))
    (hQ : ∀ (g : Gh) W, Below w.heap.size w W → (∀ i, i < l.length → w.heap.size ≤ (g.r i).1) → (∀ σ α k Ψ, σ < l.length → Ks.getD σ (.con undef) = .sto α k Ψ → Ψ (g.ob α) (g.r k).1 (g.r k).2 W) →
      VQ (kVal (fun i => Ks.getD i (.con undef)) g) W (fun tm => Q .normal { a with tmps := tm } W) 0 (l.map (·.dst)) a.tmps) :
    (Code.region id l.toArray true).wp P Q a w := by
  refine wp_region_valsH (kVal (fun i => Ks.getD i (.con undef))) (fun j => kRel w.heap.size (fun i => Ks.getD i (.con undef)) j) (fun g L W => kGood w (fun i => Ks.getD i (.con undef)) g L W) hm hB ⟨Array.replicate l.length false, fun _ => (0, 0), fun _ => default⟩ ?_ ?_ ?_ ?_ ?_
  · have hno : ∀ i, isIn (Array.replicate l.length false) i = false := fun i => getD_replicate_false _ _
    exact ⟨rfl, (Below.refl _ _).drew, fun i h => (by rw [hno] at h; cases h), fun i j _ h _ => (by rw [hno] at h; cases h), fun i z _ h => (by rw [hno] at h; cases h)⟩
  · intro listed g g' j W W' hls hj hjl hG hR
    exact kGood_step hK hls hj hjl hG hR
  · intro listed g g' i j v W W' hi hj hls hij hanc hli hlj hv hG hR
    exact kVal_step hK hst hij hli hlj hG hR hv
  · intro i o ho listed g a' W hls hli hcl hG hfr hdep
    have hS := hstep i o ho g a' W hG.b hfr (fun e he hb oe hoe => by rw [hG.l]; exact hdep e he hb oe hoe)
    have hil : i < g.L.size := by rw [hG.l, hls]; exact (List.getElem?_eq_some_iff.1 ho).1
    have hme : isIn (g.L.setIfInBounds i true) i = true := by rw [isIn_set hil]; simp
    have hgL : ∀ k, isIn g.L k = true → isIn (g.L.setIfInBounds i true) k = true := fun k hk => by
      by_cases e : k = i
      · subst e; exact hme
      · rwa [isIn_other e]
    have hnot : ∀ k, isIn g.L k = true → k ≠ i := fun k hk e => by rw [e, hG.l, hli] at hk; cases hk
    let G' : World → World → Obj → Gh := fun W W' ob => ⟨g.L.setIfInBounds i true, fun k => if k = i then (W.heap.size, W'.heap.size) else g.r k, fun k => if k = i then ob else g.ob k⟩
    have hRel : ∀ W' ob, kEff w.heap.size i g (G' W W' ob) W W' (Ks.getD i (.con undef)) → (Ks.getD i (.con undef)).tgt = none → kRel w.heap.size (fun i => Ks.getD i (.con undef)) i g (G' W W' ob) W W' := fun W' ob he _ =>
      ⟨rfl, fun k hk => if_neg hk, if_pos rfl, fun k hk _ => if_neg hk, he⟩
    generalize hki : Ks.getD i (.con undef) = ki at hS hRel
    cases ki with
    | con c =>
      have key : ∀ u W', u = c ∧ Below W.heap.size W W' → ∃ g', kRel w.heap.size (fun i => Ks.getD i (.con undef)) i g g' W W' ∧ kVal (fun i => Ks.getD i (.con undef)) g' i u W' := by
        rintro u W' ⟨rfl, hb⟩
        refine ⟨G' W W' default, hRel W' default hb rfl, ?_⟩
        unfold kVal
        simp only [hki]
      rcases hS with ⟨hs, v, W', h1, h2⟩ | ⟨hs, f, args, h1, h2⟩ | ⟨hs, W', h1, h2⟩
      · exact .inl ⟨hs, v, W', h1, key _ _ h2⟩
      · exact .inr (.inl ⟨hs, f, args, h1, h2.mono fun e W'' ⟨v, e1, h3⟩ => ⟨v, e1, key _ _ h3⟩⟩)
      · exact .inr (.inr ⟨hs, W', h1, key _ _ h2⟩)
    | box z =>
      refine .inl ⟨hS.1, _, _, hS.2, G' W (W.alloc z) z, hRel _ z ⟨rfl, if_pos rfl⟩ rfl, ?_⟩
      unfold kVal
      simp only [hki]
      refine ⟨by simp only [G', if_true], ?_, hme⟩
      simp only [G', if_true]
      exact heap_alloc_at _ _
    | made k Φ =>
      have key : ∀ u W', (Below W.heap.size W W' ∧ if k = i then Φ u W.heap.size W'.heap.size W' else isIn g.L k = true ∧ Φ u (g.r k).1 (g.r k).2 W') → ∃ g', kRel w.heap.size (fun i => Ks.getD i (.con undef)) i g g' W W' ∧ kVal (fun i => Ks.getD i (.con undef)) g' i u W' := by
        rintro u W' ⟨hb, h⟩
        refine ⟨G' W W' default, hRel W' default hb rfl, ?_⟩
        unfold kVal
        simp only [hki, G']
        by_cases e : k = i
        · subst e
          rw [if_pos rfl] at h
          rw [if_pos rfl]
          exact ⟨hme, h⟩
        · rw [if_neg e] at h
          rw [if_neg e]
          exact ⟨hgL k h.1, h.2⟩
      rcases hS with ⟨hs, v, W', h1, h2⟩ | ⟨hs, f, args, h1, h2⟩ | ⟨hs, W', h1, h2⟩
      · exact .inl ⟨hs, v, W', h1, key _ _ h2⟩
      · exact .inr (.inl ⟨hs, f, args, h1, h2.mono fun e W'' ⟨v, e1, h3⟩ => ⟨v, e1, key _ _ h3⟩⟩)
      · exact .inr (.inr ⟨hs, W', h1, key _ _ h2⟩)
    | sto α k Ψ =>
      obtain ⟨s1, s2, s3, s4⟩ := hS
      have hm := getK_mem hki (by simp)
      have hKb := hK
      unfold kOkB at hKb
      rw [Bool.and_eq_true] at hKb
      have hbb := List.all_eq_true.1 hKb.1 _ hm
      simp only [Bool.and_eq_true, Bool.not_eq_true'] at hbb
      obtain ⟨z, hz⟩ := isBox_ex hbb.1
      have ha := s2
      have hk2 := s1
      rw [hG.l] at ha hk2
      have hba := hG.box α z hz ha
      have hra := hG.rng α ha
      have hak : α ≠ k := fun e => by rw [← e, hz] at hbb; simp [Kd.isBox] at hbb
      have hob : g.ob α = z := hba.2.1 fun σ hσ => by
        cases hs : isIn listed σ with
        | false => rfl
        | true =>
          exfalso
          have hsi : σ ≠ i := fun e => by rw [e, hli] at hs; cases hs
          have hlt : ∀ q, (Ks.getD q (.con undef)).tgt = some α → q < Ks.length := fun q hq => by
            by_cases hql : q < Ks.length
            · exact hql
            · rw [List.getD_eq_getElem?_getD, List.getElem?_eq_none (by omega)] at hq
              cases hq
          have hi2 : (Ks.getD i (.con undef)).tgt = some α := by rw [hki]; rfl
          have hσ' : (Ks.getD σ (.con undef)).tgt = some α := hσ
          have := List.all_eq_true.1 (List.all_eq_true.1 hKb.2 σ (List.mem_range.2 (hlt σ hσ'))) i (List.mem_range.2 (hlt i hi2))
          rw [hi2, hσ'] at this
          simp [hsi] at this
      have hlive : W.heap[(g.r α).1]? = some z := by rw [← hob]; exact hba.2.2
      obtain ⟨W', ob', h1, h2, h3, h4, h5, h6⟩ := s4 z (fun z2 hz2 => by rw [hz] at hz2; cases hz2; rfl) hlive hra.1 (by
        rcases hG.dis α k hak ha hk2 with d | d
        · exact .inr (by omega)
        · exact .inl d)
      refine .inr (.inr ⟨s3, W', h1, ⟨g.L.setIfInBounds i true, fun k => if k = i then (W.heap.size, W'.heap.size) else g.r k, fun k => if k = α then ob' else g.ob k⟩, ⟨rfl, fun k hk => if_neg hk, if_pos rfl, fun k hk ht => ?_, ?_⟩, ?_⟩)
      · have ht' : (Ks.getD i (.con undef)).tgt ≠ some k := ht
        rw [hki] at ht'
        exact if_neg (fun e => ht' (by rw [e]; rfl))
      · show kEff _ _ _ _ _ _ (Ks.getD i (.con undef))
        rw [hki]
        exact ⟨s2, h2, h3, h4, by rw [h5]; simp⟩
      · unfold kVal
        simp only [hki]
        refine ⟨hgL k s1, hgL α s2, ?_⟩
        rw [if_neg (hnot k s1)]
        simpa using h6
  · intro listed g a' W hall hls hG hdef hlen hv hr
    have hB0 := hB
    unfold valsZB at hB
    simp only [Bool.and_eq_true] at hB
    obtain ⟨⟨hB1, -⟩, -⟩ := hB
    simp only [List.all_eq_true, Bool.and_eq_true] at hB1
    have := VQ.get (tm' := a'.tmps) (l.map (·.dst)) 0 a.tmps (hQ g W hG.b (fun i hi => (hG.rng i (hall i hi)).1) (fun σ α k Ψ hσ hKσ => by
        have := hv σ l[σ] (List.getElem?_eq_getElem hσ)
        unfold kVal at this
        simp only [hKσ] at this
        exact this.2.2)) hlen.symm
      (fun j d hj => by
        rw [List.getElem?_map] at hj
        cases ho : l[j]? with
        | none => rw [ho] at hj; cases hj
        | some o =>
          rw [ho] at hj
          simp only [Option.map_some, Option.some.injEq] at hj
          obtain ⟨-, h2⟩ := hB1 o (List.mem_of_getElem? ho)
          rw [hj] at h2
          have h3 := hv j o ho
          unfold vAt at h3
          rw [hj] at h3
          rw [Nat.zero_add]
          exact ⟨by rw [hlen]; simpa using h2, h3⟩)
      (fun t ht => hr t (fun i hi e => by
        unfold dstOf at e
        rw [List.getElem?_toArray] at e
        cases ho : l[i]? with
        | none => rw [ho] at e; cases e
        | some o =>
          rw [ho] at e
          refine ht i ?_
          rw [List.getElem?_map, ho]
          exact congrArg some e))
    have e : ({ a with tmps := a'.tmps } : Act) = a' := by
      obtain ⟨t1, d1⟩ := a'
      simp only at hdef
      simp [hdef]
    rw [e] at this
    exact this

section
variable {o : Oper} {c : Sem Next} {X : Nat} {W : World} {g : Gh} {i : Nat} {z : Nat → Obj → Prop}

theorem kS_con {v : Value} (hd : o.dst.isSome = true) (h : c.run P W = .ok (.value v) W) : kStep P o c X W g i z (.con v) := .inl ⟨hd, v, W, h, rfl, Below.refl _ _⟩

theorem kS_call {v : Value} {f : FuncId} {args : Array Value} (hd : o.dst.isSome = true) (h : c.run P W = .ok (.enter f args) W) (hc : Calls P f args W fun e w' => e = .returned v ∧ Below W.heap.size W w') : kStep P o c X W g i z (.con v) :=
  .inr (.inl ⟨hd, f, args, h, hc.mono fun _ _ ⟨h1, h2⟩ => ⟨v, h1, rfl, h2⟩⟩)

theorem kS_made_call {Φ : Value → Nat → Nat → World → Prop} {f : FuncId} {args : Array Value} (hd : o.dst.isSome = true) (h : c.run P W = .ok (.enter f args) W) (hc : Calls P f args W fun e w' => ∃ v, e = .returned v ∧ Φ v W.heap.size w'.heap.size w' ∧ Below W.heap.size W w') : kStep P o c X W g i z (.made i Φ) :=
  .inr (.inl ⟨hd, f, args, h, hc.mono fun _ _ ⟨v, h1, h2, h3⟩ => ⟨v, h1, h3, by rw [if_pos rfl]; exact h2⟩⟩)

theorem kS_made {Φ : Value → Nat → Nat → World → Prop} {k : Nat} {v : Value} (hd : o.dst.isSome = true) (hk : k ≠ i) (hL : isIn g.L k = true) (h : c.run P W = .ok (.value v) W) (hv : Φ v (g.r k).1 (g.r k).2 W) : kStep P o c X W g i z (.made k Φ) :=
  .inl ⟨hd, v, W, h, Below.refl _ _, by rw [if_neg hk]; exact ⟨hL, hv⟩⟩

theorem kS_box {ob : Obj} (hd : o.dst.isSome = true) (h : c.run P W = .ok (.value (.pointer (some ⟨W.heap.size, 0, none⟩))) (W.alloc ob)) : kStep P o c X W g i z (.box ob) := ⟨hd, h⟩
end

/-- A box of seven cells, stored into. -/
theorem set7_heap {W : World} {N T : Nat} {a0 a1 a2 a3 a4 a5 a6 b0 b1 b2 b3 b4 b5 b6 : Value} (h : W.heap[N]? = some (.cells #[a0, a1, a2, a3, a4, a5, a6] T (0, 0))) :
    (((((((W.setCell ⟨N, 0, none⟩ b0).setCell ⟨N, 1, none⟩ b1).setCell ⟨N, 2, none⟩ b2).setCell ⟨N, 3, none⟩ b3).setCell ⟨N, 4, none⟩ b4).setCell ⟨N, 5, none⟩ b5).setCell ⟨N, 6, none⟩ b6).heap[N]? = some (.cells #[b0, b1, b2, b3, b4, b5, b6] T (0, 0)) := by
  unfold World.setCell
  simp only [Array.getElem?_modify, if_true, h, Option.map_some]
  rfl

theorem set7_other {W : World} {N : Nat} {b0 b1 b2 b3 b4 b5 b6 : Value} (b : Nat) (h : b ≠ N) :
    (((((((W.setCell ⟨N, 0, none⟩ b0).setCell ⟨N, 1, none⟩ b1).setCell ⟨N, 2, none⟩ b2).setCell ⟨N, 3, none⟩ b3).setCell ⟨N, 4, none⟩ b4).setCell ⟨N, 5, none⟩ b5).setCell ⟨N, 6, none⟩ b6).heap[b]? = W.heap[b]? :=
  (Below.heap_setCell _ _ _ _ h).trans ((Below.heap_setCell _ _ _ _ h).trans ((Below.heap_setCell _ _ _ _ h).trans ((Below.heap_setCell _ _ _ _ h).trans ((Below.heap_setCell _ _ _ _ h).trans ((Below.heap_setCell _ _ _ _ h).trans (Below.heap_setCell _ _ _ _ h))))))

theorem set7_below {W : World} {X N : Nat} {b0 b1 b2 b3 b4 b5 b6 : Value} (h : X ≤ N) :
    Below X W (((((((W.setCell ⟨N, 0, none⟩ b0).setCell ⟨N, 1, none⟩ b1).setCell ⟨N, 2, none⟩ b2).setCell ⟨N, 3, none⟩ b3).setCell ⟨N, 4, none⟩ b4).setCell ⟨N, 5, none⟩ b5).setCell ⟨N, 6, none⟩ b6) :=
  Below.setCell (p := ⟨N, 6, none⟩) (Below.setCell (p := ⟨N, 5, none⟩) (Below.setCell (p := ⟨N, 4, none⟩) (Below.setCell (p := ⟨N, 3, none⟩) (Below.setCell (p := ⟨N, 2, none⟩) (Below.setCell (p := ⟨N, 1, none⟩) (Below.setCell (p := ⟨N, 0, none⟩) (Below.refl X W) h b0) h b1) h b2) h b3) h b4) h b5) h b6

end Go.Abs
