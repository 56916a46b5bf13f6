/- The abstract machine, part GrRD. -/
import Derived.Test.YtkmcboincjohlaaGreatGrLP
import Derived.Test.YtkmcboincjohlaaGreatGrRC
/- A region that draws its order: its lead told operation by operation, where an operation may also change what is there (an append into a row of one's own); its end waits for all of the lead. -/
namespace Go.Abs
open Go Go.RowKit

variable {P : Program} {Q : Exit → Act → World → Prop}

/-- An operation ends with a value, or calls what returns one; from W to W' it does what Rel says. -/
def StepsR (P : Program) (c : Sem Next) (W : World) (Rel : World → World → Prop) (R : Value → World → Prop) : Prop :=
  (∃ v W', c.run P W = .ok (.value v) W' ∧ Rel W W' ∧ R v W') ∨
  (∃ f args, c.run P W = .ok (.enter f args) W ∧ Calls P f args W fun e W'' => ∃ v, e = .returned v ∧ Rel W W'' ∧ R v W'')

structure VInvR (Val : Nat → Value → World → Prop) (Good : Array Bool → World → Prop) (l : List Oper) (a : Act) (listed : Array Bool) (a' : Act) (W : World) : Prop where
  len : a'.tmps.size = a.tmps.size
  defers : a'.defers = a.defers
  good : Good listed W
  vals : ∀ i d, isIn listed i = true → dstOf l.toArray i = some d → Val i (a'.tmps.getD d undef) W
  rest : ∀ t, (∀ i, isIn listed i = true → dstOf l.toArray i ≠ some t) → a'.tmps[t]? = a.tmps[t]?

theorem wp_region_valsR {id : Nat} {l : List Oper} {a : Act} {w : World} (m : Nat) (Val : Nat → Value → World → Prop) (Rel : Nat → World → World → Prop) (Good : Array Bool → World → Prop) (hm : P.follows .mixedOrders = true) (hB : valsTB a.tmps.size l m = true)
    (hg0 : Good (Array.replicate l.length false) w.drew)
    (hgood : ∀ (listed : Array Bool) j W W', listed.size = l.length → j < m → isIn listed j = false → Good listed W → Rel j W W' → Good (listed.setIfInBounds j true) W')
    (hst : ∀ (listed : Array Bool) i j v W W', i < m → j < m → i ≠ j → anc l.toArray i j = false → isIn listed j = false → Val i v W → Good listed W → Rel j W W' → Val i v W')
    (hstep : ∀ i o, (l.take m)[i]? = some o → ∀ (listed : Array Bool) (a' : Act) W, isIn listed i = false → Good listed W → (∀ t, ((l.take m).map (·.dst)).contains (some t) = false → a'.eval (.tmp t) = a.eval (.tmp t)) →
      (∀ e ∈ o.after.toList, Region.binds .any e = true → ∀ d, dstOf (l.take m).toArray e.on = some d → Val e.on (a'.eval (.tmp d)) W) → StepsR P (execOp a'.eval o) W (Rel i) (Val i))
    (hQ : ∀ listed W, listed = ledList l.length m → Good listed W → VQ Val W (fun tm => wpAny P .any l.toArray Q (l.length - m) listed { a with tmps := tm } W) 0 ((l.take m).map (·.dst)) a.tmps) :
    (Code.region id l.toArray true).wp P Q a w := by
  unfold valsTB at hB
  simp only [Bool.and_eq_true, decide_eq_true_eq] at hB
  obtain ⟨⟨⟨hml, hBp⟩, hback⟩, htail⟩ := hB
  simp only [List.all_eq_true, List.mem_range, Bool.or_eq_true, decide_eq_true_eq] at htail hback
  unfold valsB at hBp
  simp only [Bool.and_eq_true, List.all_eq_true, List.mem_range, Bool.or_eq_true, beq_iff_eq, Bool.not_eq_true', Option.isNone_iff_eq_none] at hBp
  obtain ⟨⟨hB1, hB2⟩, -⟩ := hBp
  have hpl : (l.take m).length = m := by simp; omega
  have hd : ∀ i o, (l.take m)[i]? = some o → ∃ d, o.dst = some d ∧ d < a.tmps.size ∧ o.guard = none ∧ dstOf (l.take m).toArray i = some d := by
    intro i o ho
    obtain ⟨h1, h2⟩ := hB1 o (List.mem_of_getElem? ho)
    cases hdo : o.dst with
    | none => rw [hdo] at h2; cases h2
    | some d =>
      rw [hdo] at h2
      refine ⟨d, rfl, by simpa using h2, h1, ?_⟩
      unfold dstOf
      rw [List.getElem?_toArray, ho]
      exact hdo
  have hdi : ∀ i d, dstOf (l.take m).toArray i = some d → ∃ o, (l.take m)[i]? = some o ∧ o.dst = some d := by
    intro i d h
    unfold dstOf at h
    rw [List.getElem?_toArray] at h
    cases ho : (l.take m)[i]? with
    | none => rw [ho] at h; cases h
    | some o => rw [ho] at h; exact ⟨o, rfl, h⟩
  have hne : ∀ i j d, dstOf (l.take m).toArray i = some d → dstOf (l.take m).toArray j = some d → i = j := by
    intro i j d h1 h2
    obtain ⟨o1, g1, -⟩ := hdi i d h1
    obtain ⟨o2, g2, -⟩ := hdi j d h2
    rcases hB2 i (List.getElem?_eq_some_iff.1 g1).1 j (List.getElem?_eq_some_iff.1 g2).1 with e | e
    · exact e
    · rw [h1, h2] at e
      simp at e
  have main : ∀ (k : Nat) (listed : Array Bool) (a' : Act) (W : World), listed.size = l.length → Closed l.toArray listed → (∀ i, m ≤ i → isIn listed i = false) → VInvR Val Good (l.take m) a listed a' W → left m listed = k →
      wpAny P .any l.toArray Q (l.length - m + k) listed a' W := by
    intro k
    induction k with
    | zero =>
      intro listed a' W hls _ ht hi hl
      have hall := left_zero hl
      have e1 := listed_eq hml hls hall ht
      have := VQ.get (tm' := a'.tmps) ((l.take m).map (·.dst)) 0 a.tmps (hQ listed W e1 hi.good) hi.len.symm
        (fun j d hj => by
          rw [List.getElem?_map] at hj
          cases ho : (l.take m)[j]? with
          | none => rw [ho] at hj; cases hj
          | some o =>
            rw [ho] at hj
            obtain ⟨d', h1, h2, -, h4⟩ := hd j o ho
            simp only [Option.map_some, Option.some.injEq] at hj
            rw [h1] at hj
            cases hj
            refine ⟨by rw [hi.len]; exact h2, ?_⟩
            rw [Nat.zero_add]
            exact hi.vals j d (hall j (by have := (List.getElem?_eq_some_iff.1 ho).1; omega)) h4)
        (fun t ht => hi.rest t (fun j _ e => ht j (by
          obtain ⟨o, h1, h2⟩ := hdi j t e
          rw [List.getElem?_map, h1]
          simp [h2])))
      have e : ({ a with tmps := a'.tmps } : Act) = a' := by
        obtain ⟨t1, d1⟩ := a'
        have := hi.defers
        simp only at this
        simp [this]
      rw [e] at this
      exact this
    | succ k ih =>
      intro listed a' W hls hcl ht hi hl
      refine ⟨fun hnil => ?_, fun i hir => ?_⟩
      · exfalso
        have hall : ∀ i, i < m → isIn listed i = true := by
          intro i
          induction i using Nat.strongRecOn with
          | _ i ih2 =>
            intro him
            cases hli : isIn listed i with
            | true => rfl
            | false =>
              exfalso
              have hin : i < l.length := by omega
              have ho : l[i]? = some l[i] := List.getElem?_eq_getElem hin
              have : i ∈ Region.ready .any l.toArray listed := by
                rw [mem_ready]
                refine ⟨getD_in (by omega) hli, l[i], by rw [List.getElem?_toArray]; exact ho, fun e he hb => ?_⟩
                have h1 := hback i hin
                rw [ho] at h1
                simp only [List.all_eq_true] at h1
                have h2 := h1 e (by simpa using he)
                simp only [hb, Bool.not_true, Bool.false_or, decide_eq_true_eq] at h2
                exact ih2 e.on h2 (by omega)
              rw [hnil] at this
              cases this
        have : left m listed = 0 := by
          unfold left
          rw [List.length_eq_zero_iff, List.filter_eq_nil_iff]
          intro i hi2
          simp [hall i (List.mem_range.1 hi2)]
        omega
      · obtain ⟨hun, o, ho, hdep⟩ := mem_ready.1 hir
        rw [List.getElem?_toArray] at ho
        have hin := (List.getElem?_eq_some_iff.1 ho).1
        have hil : i < listed.size := by omega
        have hli : isIn listed i = false := getD_both hun
        have up : ∀ j, anc l.toArray i j = true → isIn listed j = true := fun j hj => anc_listed hcl i j hj (fun o' ho' e he hb => by
          rw [List.getElem?_toArray, ho] at ho'; cases ho'; exact hdep e he hb)
        have him : i < m := by
          rcases Nat.lt_or_ge i m with h | h
          · exact h
          · exfalso
            have hall : ∀ j, j < m → isIn listed j = true := by
              intro j hj
              rcases htail i hin with h1 | h1
              · omega
              · exact up j (h1 j hj)
            have : left m listed = 0 := by
              unfold left
              rw [List.length_eq_zero_iff, List.filter_eq_nil_iff]
              intro j hj
              simp [hall j (List.mem_range.1 hj)]
            omega
        have hop : (l.take m)[i]? = some o := by rw [List.getElem?_take, if_pos him]; exact ho
        obtain ⟨d, hdo, hds, hgu, hdst⟩ := hd i o hop
        have hnew : isIn (listed.setIfInBounds i true) i = true := by rw [isIn_set hil]; simp
        have hother : ∀ j, j ≠ i → isIn (listed.setIfInBounds i true) j = isIn listed j := fun j hj => by
          rw [isIn_set hil]
          have : (j == i) = false := by simpa using hj
          rw [this, Bool.or_false]
        have next : ∀ v W', Rel i W W' → Val i v W' → wpAny P .any l.toArray Q (l.length - m + k) (listed.setIfInBounds i true) (a'.put o.dst v) W' := by
          intro v W' hW' hv
          rw [hdo]
          have hlen : d < a'.tmps.size := by rw [hi.len]; exact hds
          refine ih _ _ _ (by simpa using hls) ?_ ?_ ⟨by simp [Act.put, hi.len], hi.defers, hgood listed i W W' hls him hli hi.good hW', fun j dj hj hdj => ?_, fun t ht => ?_⟩ ?_
          · intro j oj hoj hlj e he hb
            change isIn _ _ = true at hlj
            change isIn _ _ = true
            by_cases hji : j = i
            · subst hji
              rw [List.getElem?_toArray, ho] at hoj; cases hoj
              have := hdep e he hb
              by_cases hee : e.on = j
              · rw [hee]; exact hnew
              · rw [hother _ hee]; exact this
            · rw [hother j hji] at hlj
              have := hcl j oj hoj hlj e he hb
              by_cases hee : e.on = i
              · rw [hee]; exact hnew
              · rw [hother _ hee]; exact this
          · intro j hj
            rw [hother j (by omega)]
            exact ht j hj
          · show Val j ((a'.tmps.setIfInBounds d v).getD dj undef) W'
            by_cases hji : j = i
            · subst hji
              rw [hdst] at hdj
              cases hdj
              rw [Array.getD_eq_getD_getElem?, Array.getElem?_setIfInBounds_self_of_lt hlen]
              exact hv
            · rw [hother j hji] at hj
              have hdd : d ≠ dj := fun e => by subst e; exact hji (hne j i d hdj hdst)
              rw [Array.getD_eq_getD_getElem?, Array.getElem?_setIfInBounds_ne hdd, ← Array.getD_eq_getD_getElem?]
              have hjm : j < m := by
                rcases Nat.lt_or_ge j m with h | h
                · exact h
                · rw [ht j h] at hj; cases hj
              refine hst listed j i _ W W' hjm him hji ?_ hli (hi.vals j dj hj hdj) hi.good hW'
              cases hanc : anc l.toArray j i with
              | false => rfl
              | true =>
                exfalso
                have := anc_listed hcl j i hanc (fun o' ho' e he hb => hcl j o' ho' hj e he hb)
                change isIn listed i = true at this
                rw [hli] at this
                cases this
          · show (a'.tmps.setIfInBounds d v)[t]? = _
            have htd : d ≠ t := fun e => by
              subst e
              exact ht i hnew hdst
            rw [Array.getElem?_setIfInBounds_ne htd]
            refine hi.rest t (fun j hj => ht j ?_)
            by_cases hji : j = i
            · subst hji; exact hnew
            · rw [hother j hji]; exact hj
          · have h2 : left m (listed.setIfInBounds i true) + 1 = left m listed := by
              unfold left
              refine (filter_insert (i := i) m him (by simp [hli]) ?_ fun j hj => ?_).symm
              · simp [hnew]
              · rw [hother j hj]
            omega
        have hS := hstep i o hop listed a' W hli hi.good
          (fun t ht => by
            have := hi.rest t (fun j _ e => by
              obtain ⟨o2, g1, g2⟩ := hdi j t e
              have : some t ∈ (l.take m).map (·.dst) := List.mem_map.2 ⟨o2, List.mem_of_getElem? g1, g2⟩
              rw [← List.contains_iff_mem, ht] at this
              cases this)
            show a'.tmps.getD t undef = a.tmps.getD t undef
            simp only [Array.getD_eq_getD_getElem?, this])
          (fun e he hb de hde => hi.vals e.on de (hdep e (by simpa using he) hb) hde)
        refine wpOp_step (o := o) (by rw [List.getElem?_toArray]; exact ho) (fun K hK => ?_)
        rw [if_pos (show Region.wanted o _ = true by unfold Region.wanted; rw [hgu])]
        unfold Oper.wp
        rcases hS with ⟨v, W', h1, h2, h3⟩ | ⟨f, args, h1, h3⟩
        · rw [h1]
          exact hK _ _ (next v W' h2 h3)
        · rw [h1]
          refine h3.mono ?_
          rintro e W'' ⟨v, rfl, hb, hv⟩
          exact hK _ _ (next v W'' hb hv)
  refine wp_region_any hm ?_
  have hno : ∀ i, isIn (Array.replicate l.toArray.size false) i = false := fun i => getD_replicate_false _ _
  have := main m (Array.replicate l.toArray.size false) a w.drew (by simp) (fun j oj _ hl => (by rw [getD_replicate_false] at hl; cases hl)) (fun i _ => hno i)
    ⟨rfl, rfl, (by simpa using hg0), fun i d h => (by rw [hno] at h; cases h), fun t _ => rfl⟩
    (by unfold left; rw [List.filter_eq_self.2 (fun i _ => by rw [hno]; rfl)]; simp)
  have e : l.length - m + m = l.toArray.size := by simp; omega
  rw [e] at this
  exact this

end Go.Abs

/- What the program's reset keeps and makes while it lays the gauges. -/
namespace Go.Proofs.YtkmcboincjohlaaGreat
open Go Go.RowKit Go.Proofs Go.Abs

theorem PcSt.keepB {w W W' : World} {id c r m s : Int} {vg vm : Value} {sh : Int} {b : Bool} {B : Nat} (h : PcSt w W id c r m s vg vm sh b) (hb : Below B W W') (hB : w.heap.size + 2 ≤ B) : PcSt w W' id c r m s vg vm sh b := by
  have k : ∀ g o v, g < w.heap.size + 2 → W.cell? ⟨g, o, none⟩ = some v → W'.cell? ⟨g, o, none⟩ = some v := fun g o v hg hc => (hb.cell (p := ⟨g, o, none⟩) (by show g < B; omega)).trans hc
  exact ⟨h.bel.trans (hb.mono (by omega)), Nat.le_trans h.siz hb.size, k _ _ _ (by omega) h.c0, k _ _ _ (by omega) h.c1, k _ _ _ (by omega) h.c2, k _ _ _ (by omega) h.c3, k _ _ _ (by omega) h.c4, k _ _ _ (by omega) h.c5, k _ _ _ (by omega) h.c6, k _ _ _ (by omega) h.s0, k _ _ _ (by omega) h.s1⟩

/-- The piece that is answered, as it stands while the gauges are laid. -/
structure RsI (w W : World) (id c r m s : Int) (vg vm : Value) (sh : Int) (b : Bool) (c' r' : Int) (sv : Value) : Prop where
  ps : PcSt w W id c r m s vg vm sh b
  res : W.heap[w.heap.size + 2]? = some (.cells #[.int .i64 0, .int .i64 0, .int .i64 0, .int .i64 0, .int .i64 0, .slice none 0 0, .slice none 0 0] 40 (0, 0))
  box : W.heap[w.heap.size + 3]? = some (.cells #[.int .i64 id, .int .i64 c', .int .i64 r', .int .i64 m, .int .i64 s, sv, vm] 40 (0, 0))

theorem RsI.siz {w W : World} {id c r m s : Int} {vg vm : Value} {sh : Int} {b : Bool} {c' r' : Int} {sv : Value} (h : RsI w W id c r m s vg vm sh b c' r' sv) : w.heap.size + 4 ≤ W.heap.size := by
  have := (Array.getElem?_eq_some_iff.1 h.box).1
  omega

theorem RsI.keepB {w W W' : World} {id c r m s : Int} {vg vm : Value} {sh : Int} {b : Bool} {c' r' : Int} {sv : Value} {B : Nat} (h : RsI w W id c r m s vg vm sh b c' r' sv) (hb : Below B W W') (hB : w.heap.size + 4 ≤ B) : RsI w W' id c r m s vg vm sh b c' r' sv :=
  ⟨h.ps.keepB hb (by omega), (hb.block _ (by omega)).trans h.res, (hb.block _ (by omega)).trans h.box⟩

theorem RsI.keep {w W W' : World} {id c r m s : Int} {vg vm : Value} {sh : Int} {b : Bool} {c' r' : Int} {sv : Value} (h : RsI w W id c r m s vg vm sh b c' r' sv) (hb : Below W.heap.size W W') : RsI w W' id c r m s vg vm sh b c' r' sv := h.keepB hb h.siz

/-- What an operation of the region does to the world. -/
def RsR (B : Nat) (sv : Value) (j : Nat) (W W' : World) : Prop :=
  if j = 8 then Below B W W' ∧ ∀ g, g < W.heap.size → sv.ownBlock ≠ some g → W'.heap[g]? = W.heap[g]? else if j = 9 then W' = W else Below W.heap.size W W'

/-- What is so all the while. -/
def RsG (w : World) (id c r m s : Int) (vg vm : Value) (sh : Int) (b : Bool) (c' r' : Int) (sv : Value) (F : Nat → G5) (k X : Nat) (listed : Array Bool) (W : World) : Prop :=
  RsI w W id c r m s vg vm sh b c' r' sv ∧ (isIn listed 8 = false → W.ownsRow (w.heap.size + 4) 82 5 sv k (rowG F k)) ∧ X ≤ W.heap.size

/-- What the operations yield. -/
def RsV (w : World) (vg : Value) (sh : Int) (b : Bool) (sv : Value) (F : Nat → G5) (k : Nat) : Nat → Value → World → Prop
  | 0, v, _ => v = .pointer (some ⟨w.heap.size + 3, 5, none⟩)
  | 1, v, _ => v = sv
  | 2, v, _ => v = .pointer (some ⟨w.heap.size, 5, none⟩)
  | 3, v, _ => v = vg
  | 4, v, _ => v = st sh b
  | 5, v, _ => v = .int .i64 k
  | 6, v, _ => v = gg (F k).a (F k).b (F k).c (F k).d (F k).e
  | 7, v, W => ∃ g, v = .slice (some ⟨g, 0, none⟩) 1 1 ∧ g < W.heap.size ∧ sv.ownBlock ≠ some g ∧ W.heap[g]? = some (.cells #[.int .i64 (F k).a, .int .i64 (F k).b, .int .i64 (F k).c, .int .i64 (F k).d, .int .i64 (F k).e] 82 (0, 0))
  | 8, v, W => W.ownsRow (w.heap.size + 4) 82 5 v (k + 1) (rowG F (k + 1))
  | _, v, _ => v = .pointer (some ⟨w.heap.size + 3, 5, none⟩)

theorem RsG.step {w : World} {id c r m s : Int} {vg vm : Value} {sh : Int} {b : Bool} {c' r' : Int} {sv : Value} {F : Nat → G5} {k X : Nat} {listed : Array Bool} {W W' : World} {j : Nat} (hl : 8 < listed.size) (h : RsG w id c r m s vg vm sh b c' r' sv F k X listed W) (hR : RsR (w.heap.size + 4) sv j W W') :
    RsG w id c r m s vg vm sh b c' r' sv F k X (listed.setIfInBounds j true) W' := by
  obtain ⟨h1, h2, h3⟩ := h
  unfold RsR at hR
  by_cases e8 : j = 8
  · subst e8
    rw [if_pos rfl] at hR
    refine ⟨h1.keepB hR.1 (Nat.le_refl _), fun hn => ?_, Nat.le_trans h3 hR.1.size⟩
    rw [isIn_set hl] at hn
    simp at hn
  · rw [if_neg e8] at hR
    have hn8 : isIn (listed.setIfInBounds j true) 8 = isIn listed 8 := by
      unfold isIn
      rw [Array.getD_eq_getD_getElem?, Array.getD_eq_getD_getElem?, Array.getElem?_setIfInBounds_ne e8]
    have hb : Below W.heap.size W W' := by
      split at hR
      · subst hR; exact Below.refl _ _
      · exact hR
    exact ⟨h1.keep hb, fun hn => own_keep (h2 (by rw [← hn8]; exact hn)) hb, Nat.le_trans h3 hb.size⟩

theorem rsR_refl {B : Nat} {sv : Value} {j : Nat} {W : World} (h : j ≠ 8) : RsR B sv j W W := by
  unfold RsR
  rw [if_neg h]
  split
  · rfl
  · exact Below.refl _ _
theorem rsR_below {B : Nat} {sv : Value} {j : Nat} {W W' : World} (h : j ≠ 8) (h9 : j ≠ 9) (hb : Below W.heap.size W W') : RsR B sv j W W' := by
  unfold RsR
  rw [if_neg h, if_neg h9]
  exact hb
theorem rsR_app {B : Nat} {sv : Value} {W W' : World} (hg : W.grownBy W' sv.ownBlock) (hB : B ≤ W.heap.size) (hr : ∀ k, sv.ownBlock = some k → B ≤ k) : RsR B sv 8 W W' := by
  unfold RsR
  rw [if_pos rfl]
  exact ⟨(Below.refl _ _).grown hg hB hr, fun g h1 h2 => hg.block g h1 (fun e => h2 e.symm)⟩

/-- A row of one's own and the gauge that comes to it. -/
theorem run_append_gauge {W : World} {B k g : Nat} {sv : Value} {F : Nat → G5} (ty : TypeId) (hown : W.ownsRow B 82 5 sv k (rowG F k)) (hk : k ≤ 1000) (hB : B ≤ W.heap.size)
    (hg : W.heap[g]? = some (.cells #[.int .i64 (F k).a, .int .i64 (F k).b, .int .i64 (F k).c, .int .i64 (F k).d, .int .i64 (F k).e] 82 (0, 0))) :
    ∃ v' W', (Builtin.append_ #[31, 31] ty #[sv, .slice (some ⟨g, 0, none⟩) 1 1]).run Tryz.prog W = .ok v' W' ∧ W'.ownsRow B 82 5 v' (k + 1) (rowG F (k + 1)) ∧ W.grownBy W' sv.ownBlock := by
  obtain ⟨i0, hi, hz0, hz1, hz2⟩ := info_parts info67
  obtain ⟨v', W', h1, h2, h3, -⟩ := run_append_own (P := Tryz.prog) W B 31 ty 82 i0 (gg 0 0 0 0 0) 5 40 Tryz.underlying31 hi hz0 hz1 hz2 rfl (by decide) sv k (rowG F k) hown ⟨g, 0, none⟩ 1 1
    [.int .i64 (F k).a, .int .i64 (F k).b, .int .i64 (F k).c, .int .i64 (F k).d, .int .i64 (F k).e] rfl (fun j u hu => by
      rw [Addr.add_lit]
      refine cell_of hg ?_
      rw [Nat.zero_add]
      simpa using hu) (fun u hu => by
      simp only [List.mem_cons, List.not_mem_nil, or_false] at hu
      rcases hu with rfl | rfl | rfl | rfl | rfl <;> rfl) (by unfold maxLen; omega) (by omega) hB
  refine ⟨v', W', h1, ?_, h3⟩
  rw [rowG_succ]
  exact h2

theorem RsI.set5 {w W : World} {id c r m s : Int} {vg vm : Value} {sh : Int} {b : Bool} {c' r' : Int} {sv : Value} (h : RsI w W id c r m s vg vm sh b c' r' sv) (v : Value) : RsI w (W.setCell ⟨w.heap.size + 3, 5, none⟩ v) id c r m s vg vm sh b c' r' v := by
  have hb : Below (w.heap.size + 3) W (W.setCell ⟨w.heap.size + 3, 5, none⟩ v) := Below.setCell (p := ⟨w.heap.size + 3, 5, none⟩) (Below.refl (w.heap.size + 3) W) (Nat.le_refl _) v
  refine ⟨h.ps.keepB hb (by omega), (hb.block _ (by omega)).trans h.res, ?_⟩
  unfold World.setCell
  rw [Array.getElem?_modify, if_pos rfl, h.box]
  rfl

theorem res_set {W : World} {N M : Nat} {a0 a1 a2 a3 a4 a5 a6 b0 b1 b2 b3 b4 b5 b6 u : Value} (h : W.heap[N]? = some (.cells #[a0, a1, a2, a3, a4, a5, a6] 40 (0, 0))) (hM : M ≠ N) :
    ((((((((W.setCell ⟨M, 6, none⟩ u).setCell ⟨N, 0, none⟩ b0).setCell ⟨N, 1, none⟩ b1).setCell ⟨N, 2, none⟩ b2).setCell ⟨N, 3, none⟩ b3).setCell ⟨N, 4, none⟩ b4).setCell ⟨N, 5, none⟩ b5).setCell ⟨N, 6, none⟩ b6).heap[N]? = some (.cells #[b0, b1, b2, b3, b4, b5, b6] 40 (0, 0)) := by
  unfold World.setCell
  simp only [Array.getElem?_modify, if_true, if_neg hM, h, Option.map_some]
  rfl

theorem slm_set {W : World} {v u : Value} {D : List M3} {B o : Nat} (h : SlM W v D) (hn : ∀ a n c, v = .slice (some a) n c → B ≠ a.block) : SlM (W.setCell ⟨B, o, none⟩ u) v D := by
  obtain ⟨a, cap, rfl, hl, hc⟩ := h
  refine ⟨a, cap, rfl, hl, fun k hk => ?_⟩
  obtain ⟨b, off, rfl, h0, h1, h2⟩ := hc k hk
  have hb : B ≠ b := hn _ _ _ rfl
  have e : ∀ p, (W.setCell ⟨B, o, none⟩ u).cell? ⟨b, p, none⟩ = W.cell? ⟨b, p, none⟩ := fun p => World.cell?_setCell_other (h := fun x => hb (by cases x; rfl)) ..
  exact ⟨b, off, rfl, (e _).trans h0, (e _).trans h1, (e _).trans h2⟩

theorem own_other {W : World} {B e size n g o : Nat} {v u : Value} {xs : List Value} (h : W.ownsRow B e size v n xs) (hg : g < B) : (W.setCell ⟨g, o, none⟩ u).ownsRow B e size v n xs := by
  obtain ⟨h1, h2⟩ := h
  refine ⟨h1, ?_⟩
  rcases h2 with h2 | ⟨g', cap, cur, e1, e2, e3, e4⟩
  · exact .inl h2
  · refine .inr ⟨g', cap, cur, e1, e2, ?_, e4⟩
    unfold World.setCell
    rw [Array.getElem?_modify, if_neg (by show ¬ g = g'; omega)]
    exact e3

theorem RsV.step {w : World} {vg : Value} {sh : Int} {b : Bool} {sv : Value} {F : Nat → G5} {k : Nat} {W W' : World} {i j : Nat} {v : Value} (hij : i = 8 → j = 9) (h : RsV w vg sh b sv F k i v W) (hR : RsR (w.heap.size + 4) sv j W W') : RsV w vg sh b sv F k i v W' := by
  match i, h with
  | 0, h => exact h
  | 1, h => exact h
  | 2, h => exact h
  | 3, h => exact h
  | 4, h => exact h
  | 5, h => exact h
  | 6, h => exact h
  | 7, ⟨g, h1, h2, h3, h4⟩ =>
    refine ⟨g, h1, ?_, h3, ?_⟩
    · unfold RsR at hR
      split at hR
      · exact Nat.lt_of_lt_of_le h2 hR.1.size
      · split at hR
        · subst hR; exact h2
        · exact Nat.lt_of_lt_of_le h2 hR.size
    · unfold RsR at hR
      split at hR
      · exact (hR.2 g h2 h3).trans h4
      · split at hR
        · subst hR; exact h4
        · exact (hR.block g h2).trans h4
  | 8, h =>
    obtain rfl := hij rfl
    unfold RsR at hR
    rw [if_neg (by omega), if_pos rfl] at hR
    subst hR
    exact h
  | _ + 9, h => exact h

end Go.Proofs.YtkmcboincjohlaaGreat
