/- The abstract machine, part GrAbsD. -/
import Derived.Test.YtcgmmfcphfkdhaaGreatGrAbsC
/- The abstract machine: the making of a variable, wherever. -/
namespace Go.Abs
open Go Go.RowKit

variable {P : Program}

theorem alloc_run {t : TypeId} {u : Value} {H : List AObj} {lo : Nat} {r : Value × List AObj × Nat} (h : arun P (Instr.alloc t true u) H lo = some r) :
  ∃ c, r = (.pointer (some ⟨H.length, 0, none⟩), H ++ [.cells c t true], lo) ∧ (POk P → ∀ x ∈ c, ∃ n, closedN n x = true) ∧ ∀ H' lo', arun P (Instr.alloc t true u) H' lo' = some (.pointer (some ⟨H'.length, 0, none⟩), H' ++ [.cells c t true], lo') := by
 have key : ∀ z : Value, ∀ H' lo', arun P (do pure (.pointer (some (← newVar t z))) : Sem Value) H' lo' = some (.pointer (some ⟨H'.length, 0, none⟩), H' ++ [.cells z.cells.toList t true], lo') := by
  intro z H' lo'
  rfl
 have hx : ∀ H' lo', arun P (Instr.alloc t true u) H' lo' = match P.info? t with
    | some i => match i.zero with
     | some z => some (.pointer (some ⟨H'.length, 0, none⟩), H' ++ [.cells z.cells.toList t true], lo')
     | none => none
    | none => none := by
  intro H' lo'
  unfold Instr.alloc zeroValue
  change arun P (Sem.bind (Sem.bind (typeInfo t) _) _) H' lo' = _
  rw [arun_bind, arun_bind]
  unfold typeInfo
  change ((arun P (Sem.bind program _) H' lo').bind _).bind _ = _
  rw [arun_bind]
  simp only [program, arun, Option.bind_some]
  cases hi : P.info? t with
  | none => rfl
  | some i =>
   cases hz : i.zero with
   | none => simp [Pure.pure, arun, hz, unsupported]
   | some z =>
    simp only [Pure.pure, arun, Option.bind_some, hz]
    exact key z H' lo'
 rw [hx] at h
 cases hi : P.info? t with
 | none => rw [hi] at h; cases h
 | some i =>
  rw [hi] at h
  simp only at h
  cases hz : i.zero with
  | none => rw [hz] at h; cases h
  | some z =>
   rw [hz] at h
   simp only [Option.some.injEq] at h
   refine ⟨z.cells.toList, h.symm, fun hP x hx => ?_, fun H' lo' => ?_⟩
   ·have hc := hP.zero t i z hi hz
    cases z with
    | agg cs =>
     refine ⟨3, ?_⟩
     simp only [closed, closedN, List.all_eq_true] at hc
     exact hc x hx
    | _ =>
     simp only [Value.cells, List.mem_singleton] at hx
     subst hx
     exact ⟨4, hc⟩
   have := hx H' lo'
   rw [hi] at this
   simp only [hz] at this
   exact this

theorem evOp_alloc {ec : EC} {ef : EF} {tm : List Value} {o : Oper} {st st1 : St} {v : Value} {t : TypeId} (ho : o.op = .alloc t) (h : evOp P ec ef tm o st = some (v, st1)) :
  ∃ c, v = .pointer (some ⟨st.H.length, 0, none⟩) ∧ st1 = ⟨st.H ++ [.cells c t true], st.lo⟩ ∧ (POk P → ∀ x ∈ c, ∃ n, closedN n x = true) ∧
   ∀ tm' H' lo', evOp P ec ef tm' o ⟨H', lo'⟩ = some (.pointer (some ⟨H'.length, 0, none⟩), ⟨H' ++ [.cells c t true], lo'⟩) := by
 have hok := evOp_ok h
 have hs : ∀ tm' H' lo', stepOp P tm' o ⟨H', lo'⟩ = ofRun ((arun P (Instr.alloc t true (.tuple #[])) H' lo').bind fun r => some (.value r.1, r.2.1, r.2.2)) := by
  intro tm' H' lo'
  unfold stepOp
  rw [if_pos hok]
  simp only [ho]
  unfold execOp
  simp only [ho]
  congr 1
  change arun P (Sem.bind _ _) _ _ = _
  rw [arun_bind]
  rfl
 obtain ⟨H, lo⟩ := st
 unfold evOp at h
 rw [hs] at h
 cases hr : arun P (Instr.alloc t true (.tuple #[])) H lo with
 | none => rw [hr] at h; cases h
 | some r =>
  obtain ⟨c, rfl, hcl, hall⟩ := alloc_run hr
  rw [hr] at h
  simp only [Option.bind_some, ofRun, Option.some.injEq, Prod.mk.injEq] at h
  obtain ⟨rfl, rfl⟩ := h
  refine ⟨c, rfl, rfl, hcl, fun tm' H' lo' => ?_⟩
  unfold evOp
  rw [hs, hall]
  rfl

end Go.Abs

/- The abstract machine: a region that draws its order, from where a first part of it is done. -/
namespace Go.Abs
open Go Go.RowKit

variable {P : Program} {B : Nat} {ρ : Ren} {w : World}

theorem any_from (hP : POk P) {ec : EC} {ef : EF} (hC : SoundC P ec) (hF : SoundF P ef) {ops : Array Oper} {rs : List Rec} {es : List (Nat × List AObj)} {tm0 tm1 : List Value} {st : St} {a : Act} {rd' : Option Nat} {n : Nat} {Q : Exit → Act → World → Prop}
  (m : Nat) (hs : Static ops) (hch : ∀ i j, m ≤ i → i < ops.size → kindOf rs i = 2 → j < i → kindOf rs j = 2 → anc ops i j = true) (hr : RunOk P ec ef ops rs es tm0 st.H) (hf1 : FrameOk ops rs tm0 (fun _ => true) tm1)
  (hq : ∀ i o r, ops[i]? = some o → rs[i]? = some r → r.kind = 1 → quietOk P ops.size rs es st.H (ancs ops.toList []) i o r = true)
  (hkeep : ∀ k lo H1, es[k]? = some (lo, H1) → (heapAt st.H es k).length ≤ H1.length ∧ ∀ x, x < lo → x < (heapAt st.H es k).length → H1[x]? = (heapAt st.H es k)[x]?)
  (hQ : ∀ ρ1 a1 w1, Moved P B ρ st.H w ρ1 (heapAt st.H es es.length) (loMin es st.lo 0 es.length) w1 → ARel ρ1 tm1.toArray a1.tmps → a1.defers = a.defers → Q .normal a1 w1) :
  ∀ (fuel : Nat) (listed : Array Bool) (a' : Act) (w' : World), Inv P B ρ w ops rs es tm0 st a listed a' w' → (∀ i, i < m → kindOf rs i = 2 → isIn listed i = true) → left ops.size listed ≤ fuel → wpAnyIn (fen rd') n P .any ops Q fuel listed a' w' := by
 -- all is listed: the end
 have fin : ∀ (listed : Array Bool) (a' : Act) (w' : World), Inv P B ρ w ops rs es tm0 st a listed a' w' → (∀ i, i < ops.size → isIn listed i = true) → Q .normal a' w' := by
  intro listed a' w' hi hall
  obtain ⟨tm, ρ', hfr, hta, hm⟩ := hi.frame
  have hc : cnt rs ops.size (isIn listed) = es.length := by rw [hr.elen]; exact cnt_congr fun i hi _ => hall i hi
  rw [hc] at hm
  have htm : tm = tm1 := by
   apply List.ext_getElem?
   intro t
   exact hfr.agree hr.len hs.uniq hf1 fun i hi _ => hall i hi
  subst htm
  exact hQ ρ' a' w' hm hta hi.defers
 intro fuel
 induction fuel with
 | zero =>
  intro listed a' w' hi hpre hl
  have hall := left_zero (Nat.le_zero.1 hl)
  refine ⟨?_, fin listed a' w' hi hall⟩
  rw [List.eq_nil_iff_forall_not_mem]
  intro i hir
  obtain ⟨h1, o, ho, _⟩ := mem_ready.1 hir
  have hin := (Array.getElem?_eq_some_iff.1 ho).1
  have := hall i hin
  unfold isIn at this
  rw [getD_both h1] at this
  cases this
 | succ fuel ih =>
  intro listed a' w' hi hpre hl
  have hsz := hi.size
  refine ⟨fun hnil => ?_, fun i hir => ?_⟩
  ·refine fin listed a' w' hi ?_
   intro i
   induction i using Nat.strongRecOn with
   | _ i ih2 =>
    intro hin
    cases hli : isIn listed i with
    | true => rfl
    | false =>
     exfalso
     obtain ⟨o, ho⟩ : ∃ o, ops[i]? = some o := ⟨ops[i], by simp [hin]⟩
     have : i ∈ Region.ready .any ops listed := by
      rw [mem_ready]
      refine ⟨getD_in (by omega) hli, o, ho, fun e he hb => ?_⟩
      have hlt := hs.back i o ho e he hb
      exact ih2 e.on hlt (by omega)
     rw [hnil] at this
     cases this
  ·obtain ⟨hun, o, ho, hdeps⟩ := mem_ready.1 hir
   have hin := (Array.getElem?_eq_some_iff.1 ho).1
   have hli : isIn listed i = false := getD_both hun
   obtain ⟨r, hri⟩ : ∃ r, rs[i]? = some r := ⟨rs[i]'(by rw [hr.len]; exact hin), List.getElem?_eq_getElem _⟩
   obtain ⟨tm, ρ', hfr, hta, hm⟩ := hi.frame
   obtain ⟨hfri, hcase⟩ := hr.ok i o r ho hri
   -- ancestors are listed, whoever waits for i is not
   have up : ∀ j, anc ops i j = true → isIn listed j = true := fun j hj => anc_listed hi.closed i j hj (fun o' ho' e he hb => by
    rw [ho] at ho'; cases ho'; exact hdeps e he hb)
   have down : ∀ j, anc ops j i = true → isIn listed j = false := by
    intro j hj
    cases hlj : isIn listed j with
    | false => rfl
    | true =>
     exfalso
     have := anc_listed hi.closed j i hj (fun o' ho' e he hb => hi.closed j o' ho' hlj e he hb)
     change isIn listed i = true at this
     rw [hli] at this
     cases this
   -- what it reads is what it read
   have agree : ∀ t, t ∈ reads ops o → tm[t]? = r.tm[t]? := by
    intro t ht
    refine hfr.agree hr.len hs.uniq hfri fun j hj hd => ?_
    by_cases hji : j = i
    ·subst hji
     rw [hli]; simp
    ·rcases hs.tmps i o j t ho hj hji hd ht with h1 | h1
     ·rw [up j h1]
      have := anc_lt i j h1
      simp [this]
     ·rw [down j h1]
      have := anc_lt j i h1
      simp; omega
   have hopd : ∀ x ∈ o.op.operands, aeval tm x = aeval r.tm x := by
    intro x hx
    cases x with
    | tmp t =>
     show (tm[t]?).getD undef = (r.tm[t]?).getD undef
     rw [agree t]
     unfold reads
     exact List.mem_append_left _ (List.mem_filterMap.2 ⟨.tmp t, by simpa using hx, rfl⟩)
    | _ => rfl
   have hwant : Region.wanted o (yieldedA ops tm) = Region.wanted o (yieldedA ops r.tm) := by
    unfold Region.wanted
    cases hg : o.guard with
    | none => rfl
    | some gb =>
     obtain ⟨g, b⟩ := gb
     simp only
     have : yieldedA ops tm g = yieldedA ops r.tm g := by
      unfold yieldedA
      cases hd : (ops[g]?).bind (·.dst) with
      | none => rfl
      | some t =>
       simp only [Option.bind_some]
       rw [agree t]
       unfold reads
       refine List.mem_append_right _ ?_
       rw [hg]
       simp only [dstOf, hd, Option.toList_some, List.mem_singleton]
     rw [this]
   have hwreal : Region.wanted o (yielded ops a'.tmps) = Region.wanted o (yieldedA ops r.tm) := by
    rw [← hwant]; congr 1; funext j; exact (yielded_rel hta ops j).symm
   -- the next state
   have hsz' : (listed.setIfInBounds i true).size = ops.size := by simpa using hsz
   have hclosed' : Closed ops (listed.setIfInBounds i true) := by
    intro j oj hoj hlj e he hb
    have hlj' : isIn (listed.setIfInBounds i true) j = true := hlj
    rw [isIn_set (by omega)] at hlj'
    change isIn (listed.setIfInBounds i true) e.on = true
    rw [isIn_set (by omega)]
    simp only [Bool.or_eq_true, beq_iff_eq] at hlj' ⊢
    rcases hlj' with h1 | rfl
    ·exact .inl (hi.closed j oj hoj h1 e he hb)
    ·rw [ho] at hoj; cases hoj; exact .inl (hdeps e he hb)
   have hput : FrameOk ops rs tm0 (isIn (listed.setIfInBounds i true)) (put tm o.dst r.v) := hfr.put hs.uniq ho hri fun j _ => isIn_set (by omega) j
   have hpre' : ∀ j, j < m → kindOf rs j = 2 → isIn (listed.setIfInBounds i true) j = true := fun j hj hkj => by rw [isIn_set (by omega), hpre j hj hkj]; rfl
   have hleft : left ops.size (listed.setIfInBounds i true) ≤ fuel := by
    have := left_set hsz hin hli; omega
   have hcS : cnt rs ops.size (isIn (listed.setIfInBounds i true)) = cnt rs ops.size (fun j => isIn listed j || j == i) := cnt_congr fun j _ _ => isIn_set (by omega) j
   have hkind : kindOf rs i = r.kind := by unfold kindOf; rw [hri]; rfl
   unfold wpOpIn
   rw [ho]
   simp only
   rcases hcase with ⟨hk, hw, hv⟩ | ⟨hk, hw, hquiet, st1, hstep⟩ | ⟨hk, hw, lo, H1, hes, hop⟩
   ·-- its guard is false
    rw [if_neg (by rw [hwreal, hw]; simp)]
    refine ⟨fun _ _ => trivial, ih _ _ _ ⟨hsz', hclosed', ⟨put tm o.dst r.v, ρ', hput, ?_, ?_⟩, by rw [put_defers]; exact hi.defers⟩ hpre' hleft⟩
    ·rw [hv]; exact put_rel hta .nil _
    ·rw [hcS, cnt_other (by rw [hkind, hk]; decide)]; exact hm
   ·-- quiet
    rw [if_pos (by rw [hwreal, hw])]
    have hqk := hq i o r ho hri hk
    obtain ⟨v2, run⟩ := quietOk_run hquiet hqk hkeep hr.elen
    have h1 := run (isIn listed) up down
    have h2 := run (fun j => decide (j < i)) (fun j hj => by simpa using anc_lt i j hj) (fun j hj => by have := anc_lt j i hj; simp; omega)
    rw [hstep] at h2
    simp only [Option.some.injEq, ANext.val.injEq] at h2
    obtain ⟨hv2, _⟩ := h2
    subst hv2
    have hev : evOp P ec ef tm o ⟨heapAt st.H es (cnt rs ops.size (isIn listed)), (heapAt st.H es (cnt rs ops.size (isIn listed))).length⟩ =
      some (r.v, ⟨heapAt st.H es (cnt rs ops.size (isIn listed)), (heapAt st.H es (cnt rs ops.size (isIn listed))).length⟩) := by
     rw [evOp_congr hopd]
     unfold evOp
     rw [h1]
    obtain ⟨_, hsound⟩ := op_sound hP hC hF hev
    refine hsound B ρ' w' rd' a' n _ Q hm.rel hta ?_
    intro v' ρ1 w1 hm1 hv1
    refine ih _ _ _ ⟨hsz', hclosed', ⟨put tm o.dst r.v, ρ1, hput, put_rel (hta.mono hm1.ext) hv1 _, ?_⟩, by rw [put_defers]; exact hi.defers⟩ hpre' hleft
    rw [hcS, cnt_other (by rw [hkind, hk]; decide)]
    exact hm.trans (hm1.any _) (Nat.le_refl _)
   ·-- any other
    rw [if_pos (by rw [hwreal, hw])]
    have him : m ≤ i := by
     rcases Nat.lt_or_ge i m with h1 | h1
     ·rw [hpre i h1 (by rw [hkind, hk])] at hli; cases hli
     ·exact h1
    have hcc : cnt rs ops.size (fun j => decide (j < i)) = cnt rs ops.size (isIn listed) := by
     refine cnt_congr fun j hj hkj => ?_
     rcases Nat.lt_trichotomy j i with h1 | h1 | h1
     ·rw [up j (hch i j him hin (by rw [hkind, hk]) h1 hkj)]; simp [h1]
     ·subst h1; rw [hli]; simp
     ·rw [down j (hch j i (by omega) hj hkj h1 (by rw [hkind, hk]))]; simp; omega
    rw [hcc] at hes hop
    have hev : evOp P ec ef tm o ⟨heapAt st.H es (cnt rs ops.size (isIn listed)), (heapAt st.H es (cnt rs ops.size (isIn listed))).length⟩ = some (r.v, ⟨H1, lo⟩) := by
     rw [evOp_congr hopd]; exact hop
    obtain ⟨_, hsound⟩ := op_sound hP hC hF hev
    refine hsound B ρ' w' rd' a' n _ Q hm.rel hta ?_
    intro v' ρ1 w1 hm1 hv1
    refine ih _ _ _ ⟨hsz', hclosed', ⟨put tm o.dst r.v, ρ1, hput, put_rel (hta.mono hm1.ext) hv1 _, ?_⟩, by rw [put_defers]; exact hi.defers⟩ hpre' hleft
    rw [hcS, cnt_insert hin (by rw [hkind, hk]) hli, loMin_succ hes]
    have hH1 : heapAt st.H es (cnt rs ops.size (isIn listed) + 1) = H1 := by simp only [heapAt, hes]; rfl
    rw [hH1]
    exact hm.trans (hm1.lower (Nat.min_le_right _ _)) (Nat.min_le_left _ _)

end Go.Abs

/- The abstract machine: a region that draws its order and makes variables beside its calls. -/
namespace Go.Abs
open Go Go.RowKit

variable {P : Program} {B : Nat} {ρ : Ren} {w : World}

def isFl (ops : Array Oper) (h e : Nat) (t : Tmp) : Prop := ∃ i, h ≤ i ∧ i < e ∧ dstOf ops i = some t

structure FlStatic (ops : Array Oper) (rs : List Rec) (h e len : Nat) : Prop where
 he : h ≤ e
 size : e ≤ ops.size
 alloc : ∀ i, h ≤ i → i < e → ∃ o t d, ops[i]? = some o ∧ o.op = .alloc t ∧ o.guard = none ∧ o.dst = some d ∧ d < len
 noread : ∀ i o t, i < h → ops[i]? = some o → t ∈ reads ops o → ¬ isFl ops h e t
 tail : ∀ i j, e ≤ i → i < ops.size → j < e → (h ≤ j ∨ kindOf rs j = 2) → anc ops i j = true
 chainH : ∀ i j, i < h → kindOf rs i = 2 → j < i → kindOf rs j = 2 → anc ops i j = true
 chainT : ∀ i j, e ≤ i → i < ops.size → kindOf rs i = 2 → j < i → kindOf rs j = 2 → anc ops i j = true

def SRel (ρ : Ren) (D : Tmp → Prop) (tm : List Value) (tmps : Array Value) : Prop := tm.length = tmps.size ∧ ∀ t, ¬ D t → VRel ρ ((tm[t]?).getD undef) (tmps.getD t undef)

theorem SRel.mono {ρ ρ' : Ren} {D : Tmp → Prop} {tm : List Value} {tmps : Array Value} (h : SRel ρ D tm tmps) (hρ : ρ <+: ρ') : SRel ρ' D tm tmps := ⟨h.1, fun t ht => (h.2 t ht).mono hρ⟩

theorem SRel.put {ρ : Ren} {D D' : Tmp → Prop} {tm : List Value} {a : Act} {v v' : Value} {dst : Option Tmp} (h : SRel ρ D tm a.tmps) (hv : VRel ρ v v') (hD : ∀ t, ¬ D' t → dst ≠ some t → ¬ D t) : SRel ρ D' (put tm dst v) (a.put dst v').tmps := by
 cases dst with
 | none => exact ⟨h.1, fun t ht => h.2 t (hD t ht (by simp))⟩
 | some d =>
  refine ⟨by simp [Abs.put, Act.put, h.1], fun t ht => ?_⟩
  simp only [Abs.put, Act.put, Array.getD_eq_getD_getElem?]
  by_cases htd : d = t
  ·subst htd
   by_cases hl : d < tm.length
   ·rw [List.getElem?_set_self hl, Array.getElem?_setIfInBounds_self_of_lt (by rw [← h.1]; exact hl)]
    exact hv
   ·have hle : tm.length ≤ d := Nat.le_of_not_lt hl
    have e1 : (tm.set d v)[d]? = none := List.getElem?_eq_none (by rw [List.length_set]; exact hle)
    have e2 : (a.tmps.setIfInBounds d v')[d]? = none := Array.getElem?_eq_none (by rw [Array.size_setIfInBounds, ← h.1]; exact hle)
    rw [e1, e2]
    exact .nil
  ·rw [List.getElem?_set_ne htd, Array.getElem?_setIfInBounds_ne htd]
   have := h.2 t (hD t ht (by simpa using htd))
   rwa [Array.getD_eq_getD_getElem?] at this

theorem SRel.putR {ρ : Ren} {D : Tmp → Prop} {tm : List Value} {a : Act} {v' : Value} {d : Tmp} (h : SRel ρ D tm a.tmps) (hd : D d) : SRel ρ D tm (a.put (some d) v').tmps := by
 refine ⟨by simp [Act.put, h.1], fun t ht => ?_⟩
 have htd : d ≠ t := fun e => ht (e ▸ hd)
 have := h.2 t ht
 simp only [Act.put, Array.getD_eq_getD_getElem?] at this ⊢
 rw [Array.getElem?_setIfInBounds_ne htd]
 exact this

theorem SRel.opds {ρ : Ren} {D : Tmp → Prop} {tm : List Value} {a : Act} (h : SRel ρ D tm a.tmps) {o : Oper} (ho : opsOk o = true) (hD : ∀ t, Operand.tmp t ∈ o.op.operands → ¬ D t) : ∀ x ∈ o.op.operands, VRel ρ (aeval tm x) (a.eval x) := by
 intro x hx
 have hok : opdOk x = true := List.all_eq_true.1 ho x (by simpa using hx)
 cases x with
 | tmp t => exact h.2 t (hD t hx)
 | const v => exact closed_rel ρ 4 _ hok
 | global g => cases hok
 | func f => exact .func rfl (fun i => by simp; exact .nil) rfl (fun i => by simp; exact .nil)

theorem SRel.yielded {ρ : Ren} {D : Tmp → Prop} {tm : List Value} {a : Act} (h : SRel ρ D tm a.tmps) (ops : Array Oper) (j : Nat) (hD : ∀ t, dstOf ops j = some t → ¬ D t) : yieldedA ops tm j = yielded ops a.tmps j := by
 unfold yieldedA Go.yielded
 unfold dstOf at hD
 cases hd : ((ops[j]?).bind (·.dst)) with
 | none => rfl
 | some d =>
  have hr := h.2 d (hD d hd)
  simp only [Option.bind_some]
  have hs := h.1
  by_cases hlt : d < tm.length
  ·have hd' : d < a.tmps.size := by rw [← hs]; exact hlt
   simp [hlt, hd'] at hr ⊢
   generalize tm[d] = x at hr
   generalize a.tmps[d] = y at hr
   cases hr <;> rfl
  ·have hd' : ¬ d < a.tmps.size := by rw [← hs]; exact hlt
   simp [hlt, hd']

structure FlAt (P : Program) (B : Nat) (ec : EC) (ef : EF) (ρ' : Ren) (H' : List AObj) (w0 w' : World) (tmps : Array Value) (o : Oper) (d : Tmp) (t : TypeId) (c : List Value) (T : Ent) : Prop where
 slot : tmps.getD d undef = .pointer (some ⟨T.rb, T.ro, none⟩)
 rel : ORel P B ρ' T (.cells c t true) w'
 run : ∀ tm' H1 lo', evOp P ec ef tm' o ⟨H1, lo'⟩ = some (.pointer (some ⟨H1.length, 0, none⟩), ⟨H1 ++ [.cells c t true], lo'⟩)
 img : ¬ Imgs ρ' H' T.rb
 lt : T.rb < w'.heap.size
 new : w0.heap.size ≤ T.rb

theorem FlAt.keep {ec : EC} {ef : EF} {ρ1 ρ2 : Ren} {H1 H2 : List AObj} {w0 w1 w2 : World} {tmps tmps2 : Array Value} {o : Oper} {d : Tmp} {t : TypeId} {c : List Value} {T : Ent} {lo : Nat} (h : FlAt P B ec ef ρ1 H1 w0 w1 tmps o d t c T)
  (hm : Moved P B ρ1 H1 w1 ρ2 H2 lo w2) (hs : tmps2.getD d undef = tmps.getD d undef) : FlAt P B ec ef ρ2 H2 w0 w2 tmps2 o d t c T :=
 ⟨hs.trans h.slot, h.rel.keep hm.ext (fun _ => hm.fr.same _ h.lt h.img), h.run,
  fun hi => (hm.fr.img _ hi).elim (fun hh => absurd h.lt (by omega)) h.img, Nat.lt_of_lt_of_le h.lt hm.below.size, h.new⟩

theorem FrameOk.congr {ops : Array Oper} {rs : List Rec} {tm0 tm : List Value} {S T : Nat → Bool} (h : FrameOk ops rs tm0 S tm) (hST : ∀ j, j < ops.size → S j = T j) : FrameOk ops rs tm0 T tm :=
 ⟨h.len, fun t i r ht hi hT hd hr => h.wrote t i r ht hi (by rw [hST i hi]; exact hT) hd hr, fun t ht => h.kept t fun i hi hS => ht i hi (by rw [← hST i hi]; exact hS)⟩

section
variable {ec : EC} {ef : EF} {ops : Array Oper} {rs : List Rec} {es : List (Nat × List AObj)} {tm0 : List Value} {st : St} {a' : Act} {w' : World} {h e : Nat}

theorem assemble (hs : Static ops) (hfl : FlStatic ops rs h e tm0.length) (hr : RunOk P ec ef ops rs es tm0 st.H) (T : Nat → Ent)
  (hd : ∀ i j, h ≤ i → i < e → h ≤ j → j < e → i ≠ j → (T i).rb ≠ (T j).rb) {S0 : Nat → Bool} (_hS0 : ∀ j, S0 j = true → j < h) {tmh : List Value} {ρh : Ren}
  (h0 : FrameOk ops rs tm0 S0 tmh) (h1 : SRel ρh (isFl ops h e) tmh a'.tmps)
  (h2 : Moved P B ρ st.H w ρh (heapAt st.H es (cnt rs ops.size (fun j => decide (j < h)))) (loMin es st.lo 0 (cnt rs ops.size (fun j => decide (j < h)))) w')
  (h3 : ∀ i, h ≤ i → i < e → ∃ o d t c, ops[i]? = some o ∧ o.dst = some d ∧ FlAt P B ec ef ρh (heapAt st.H es (cnt rs ops.size (fun j => decide (j < h)))) w w' a'.tmps o d t c (T i)) :
  ∀ q, h + q ≤ e → ∃ tm ρ', FrameOk ops rs tm0 (fun j => S0 j || (decide (h ≤ j) && decide (j < h + q))) tm ∧ SRel ρ' (isFl ops (h + q) e) tm a'.tmps ∧
   Moved P B ρ st.H w ρ' (heapAt st.H es (cnt rs ops.size (fun j => decide (j < h + q)))) (loMin es st.lo 0 (cnt rs ops.size (fun j => decide (j < h + q)))) w' ∧
   ∀ i, h + q ≤ i → i < e → ∃ o d t c, ops[i]? = some o ∧ o.dst = some d ∧ FlAt P B ec ef ρ' (heapAt st.H es (cnt rs ops.size (fun j => decide (j < h + q)))) w w' a'.tmps o d t c (T i) := by
 intro q
 induction q with
 | zero =>
  intro _
  refine ⟨tmh, ρh, h0.congr (fun j _ => ?_), h1, h2, h3⟩
  by_cases hj : h ≤ j
  ·have : decide (j < h + 0) = false := by simp; omega
   rw [this]; simp
  ·have : decide (h ≤ j) = false := by simpa using hj
   rw [this]; simp
 | succ q ih =>
  intro hq
  obtain ⟨tm, ρ', f0, f1, f2, f3⟩ := ih (by omega)
  obtain ⟨i, hi⟩ : ∃ i, h + q = i := ⟨_, rfl⟩
  rw [hi] at f0 f1 f2 f3
  rw [show h + (q + 1) = i + 1 by omega]
  have hie : i < e := by omega
  have hin : i < ops.size := Nat.lt_of_lt_of_le hie hfl.size
  obtain ⟨o, d, t, c, ho, hod, fa⟩ := f3 i (Nat.le_refl _) hie
  obtain ⟨o', t', d', ho', hop', hg', hd', hdl⟩ := hfl.alloc i (by omega) hie
  rw [ho] at ho'; cases ho'
  rw [hod] at hd'; cases hd'
  obtain ⟨r, hri⟩ : ∃ r, rs[i]? = some r := ⟨rs[i]'(by rw [hr.len]; exact hin), List.getElem?_eq_getElem _⟩
  obtain ⟨-, hcase⟩ := hr.ok i o r ho hri
  have hkind : kindOf rs i = r.kind := by unfold kindOf; rw [hri]; rfl
  have hwant : ∀ y, Region.wanted o y = true := fun y => by unfold Region.wanted; rw [hg']
  rcases hcase with ⟨_, hw, _⟩ | ⟨_, _, hquiet, _⟩ | ⟨hk, _, lo, H1, hes, hop⟩
  ·rw [hwant] at hw; cases hw
  ·unfold isQuiet at hquiet; rw [hop'] at hquiet; cases hquiet
  ·rw [fa.run] at hop
   simp only [Option.some.injEq, Prod.mk.injEq, St.mk.injEq] at hop
   obtain ⟨hrv, hH1, hlo⟩ := hop
   have hc1 : cnt rs ops.size (fun j => decide (j < i + 1)) = cnt rs ops.size (fun j => decide (j < i)) + 1 := by rw [cnt_lt_succ hin, if_pos (by rw [hkind, hk])]
   have hH : heapAt st.H es (cnt rs ops.size (fun j => decide (j < i + 1))) = heapAt st.H es (cnt rs ops.size (fun j => decide (j < i))) ++ [.cells c t true] := by
    rw [hc1]; simp only [heapAt, hes]; exact hH1.symm
   have hL : loMin es st.lo 0 (cnt rs ops.size (fun j => decide (j < i + 1))) ≤ loMin es st.lo 0 (cnt rs ops.size (fun j => decide (j < i))) := by
    rw [hc1, loMin_succ hes]; exact Nat.min_le_left _ _
   rw [hH]
   generalize heapAt st.H es (cnt rs ops.size (fun j => decide (j < i))) = Hq at *
   have hlen := f2.rel.len
   have hrel : WRel P B (ρ' ++ [T i]) (Hq ++ [.cells c t true]) w' :=
    f2.rel.adopt (fun b t2 o2 hb ho2 hl2 e2 => fa.img ⟨b, t2, o2, hb, ho2, hl2, e2⟩) (fa.rel.keep (List.prefix_append _ _) (fun _ => rfl))
   have hT : ∀ j, j < ops.size → (S0 j || (decide (h ≤ j) && decide (j < i + 1))) = ((S0 j || (decide (h ≤ j) && decide (j < i))) || j == i) := by
    intro j _
    apply Bool.eq_iff_iff.2
    simp only [decide_eq_true_eq, Bool.or_eq_true, Bool.and_eq_true, beq_iff_eq]
    constructor
    ·rintro (h1 | h1)
     ·exact .inl (.inl h1)
     ·by_cases hji : j = i
      ·exact .inr hji
      ·exact .inl (.inr ⟨h1.1, by omega⟩)
    ·rintro ((h1 | h1) | h1)
     ·exact .inl h1
     ·exact .inr ⟨h1.1, by omega⟩
     ·exact .inr ⟨by omega, by omega⟩
   refine ⟨put tm o.dst r.v, ρ' ++ [T i], f0.put hs.uniq ho hri hT, ?_, ⟨f2.ext.trans (List.prefix_append _ _), hrel, f2.below, ?_, ?_, ?_, ?_⟩, ?_⟩
   ·-- the slots
    have hlt : d < tm.length := by rw [f0.len]; exact hdl
    refine ⟨by rw [hod]; simp [Abs.put, f1.1], fun t2 ht2 => ?_⟩
    rw [hod]
    simp only [Abs.put]
    by_cases htd : d = t2
    ·subst htd
     rw [List.getElem?_set_self hlt, fa.slot, ← hrv]
     exact VRel.ptr (o := 0) (by rw [← hlen, List.getElem?_append_right (Nat.le_refl _), Nat.sub_self]; rfl)
    ·rw [List.getElem?_set_ne htd]
     refine (f1.2 t2 ?_).mono (List.prefix_append _ _)
     rintro ⟨k, hk1, hk2, hk3⟩
     by_cases hki : k = i
     ·subst hki
      have : dstOf ops k = some d := by unfold dstOf; rw [ho]; exact hod
      rw [this] at hk3; cases hk3; exact htd rfl
     ·exact ht2 ⟨k, by omega, hk2, hk3⟩
   ·intro b hb hbl
    rw [List.getElem?_append_left (Nat.lt_of_lt_of_le hbl f2.len)]
    exact f2.keepA b (Nat.lt_of_lt_of_le hb hL) hbl
   ·exact fun b t2 o2 hb => f2.keepR b t2 o2 (Nat.lt_of_lt_of_le hb hL)
   ·simp; exact Nat.le_succ_of_le f2.len
   ·refine ⟨?_, f2.fr.same⟩
    rintro k ⟨b, t2, o2, hb, ho2, hl2, rfl⟩
    by_cases hbl : b < Hq.length
    ·rw [List.getElem?_append_left (by omega)] at hb
     rw [List.getElem?_append_left hbl] at ho2
     exact f2.fr.img _ ⟨b, t2, o2, hb, ho2, hl2, rfl⟩
    ·have hbb := (List.getElem?_eq_some_iff.1 hb).1
     simp at hbb
     obtain rfl : b = ρ'.length := by omega
     rw [List.getElem?_append_right (Nat.le_refl _), Nat.sub_self] at hb
     cases hb
     exact .inl fa.new
   ·intro j hj1 hj2
    obtain ⟨oj, dj, tj, cj, g1, g2, g3⟩ := f3 j (by omega) hj2
    refine ⟨oj, dj, tj, cj, g1, g2, g3.slot, g3.rel.keep (List.prefix_append _ _) (fun _ => rfl), g3.run, ?_, g3.lt, g3.new⟩
    rintro ⟨b, t2, o2, hb, ho2, hl2, he2⟩
    by_cases hbl : b < Hq.length
    ·rw [List.getElem?_append_left (by omega)] at hb
     rw [List.getElem?_append_left hbl] at ho2
     exact g3.img ⟨b, t2, o2, hb, ho2, hl2, he2⟩
    ·have hbb := (List.getElem?_eq_some_iff.1 hb).1
     simp at hbb
     obtain rfl : b = ρ'.length := by omega
     rw [List.getElem?_append_right (Nat.le_refl _), Nat.sub_self] at hb
     cases hb
     exact hd i j (by omega) hie (by omega) hj2 (by omega) he2

end
end Go.Abs

/- The abstract machine: a region that draws its order and makes variables beside its calls: every order. -/
namespace Go.Abs
open Go Go.RowKit

variable {P : Program} {B : Nat} {ρ : Ren} {w : World}

def hdS (listed : Array Bool) (h : Nat) : Nat → Bool := fun j => isIn listed j && decide (j < h)

theorem hdS_head {listed : Array Bool} {h i : Nat} (hi : i < listed.size) (hh : i < h) (j : Nat) : hdS (listed.setIfInBounds i true) h j = (hdS listed h j || j == i) := by
 unfold hdS
 rw [isIn_set hi]
 by_cases hji : j = i
 ·subst hji; simp [hh]
 ·have : (j == i) = false := by simpa using hji
  simp [this]

theorem hdS_float {listed : Array Bool} {h i : Nat} (hi : i < listed.size) (hh : h ≤ i) (j : Nat) : hdS (listed.setIfInBounds i true) h j = hdS listed h j := by
 unfold hdS
 rw [isIn_set hi]
 by_cases hji : j = i
 ·subst hji
  have : decide (j < h) = false := by simpa using hh
  simp [this]
 ·have : (j == i) = false := by simpa using hji
  simp [this]

structure InvH (P : Program) (B : Nat) (ec : EC) (ef : EF) (ρ : Ren) (w : World) (ops : Array Oper) (rs : List Rec) (es : List (Nat × List AObj)) (tm0 : List Value) (st : St) (a : Act) (h e : Nat) (listed : Array Bool) (a' : Act) (w' : World) : Prop where
 size : listed.size = ops.size
 closed : Closed ops listed
 notail : ∀ i, e ≤ i → isIn listed i = false
 defers : a'.defers = a.defers
 body : ∃ (tm : List Value) (ρ' : Ren) (T : Nat → Ent), FrameOk ops rs tm0 (hdS listed h) tm ∧ SRel ρ' (isFl ops h e) tm a'.tmps ∧
  Moved P B ρ st.H w ρ' (heapAt st.H es (cnt rs ops.size (hdS listed h))) (loMin es st.lo 0 (cnt rs ops.size (hdS listed h))) w' ∧
  (∀ i, h ≤ i → i < e → isIn listed i = true → ∃ o d t c, ops[i]? = some o ∧ o.dst = some d ∧ FlAt P B ec ef ρ' (heapAt st.H es (cnt rs ops.size (hdS listed h))) w w' a'.tmps o d t c (T i)) ∧
  (∀ i j, h ≤ i → i < e → isIn listed i = true → h ≤ j → j < e → isIn listed j = true → i ≠ j → (T i).rb ≠ (T j).rb)

theorem closed_orel {ρ ρ1 : Ren} {t : Ent} {c : List Value} {ty : TypeId} {w1 : World} (hc : ∀ x ∈ c, ∃ n, closedN n x = true) (h : ORel P B ρ1 t (.cells c ty true) w1) : ORel P B ρ t (.cells c ty true) w1 := by
 obtain ⟨C, fz, h1, h2, h3, h4, h5⟩ := h
 refine ⟨C, fz, h1, h2, h3, h4, fun i v hv => ?_⟩
 obtain ⟨v', g1, g2⟩ := h5 i v hv
 obtain ⟨n, hn⟩ := hc v (List.mem_of_getElem? hv)
 rw [closed_eq n hn g2] at g1
 exact ⟨v, g1, closed_rel ρ n v hn⟩

theorem getD_put_ne {a : Act} {dst : Option Tmp} {v : Value} {d : Tmp} (h : dst ≠ some d) : (a.put dst v).tmps.getD d undef = a.tmps.getD d undef := by
 cases dst with
 | none => rfl
 | some x =>
  simp only [Act.put, Array.getD_eq_getD_getElem?]
  rw [Array.getElem?_setIfInBounds_ne (by simpa using h)]

theorem head_sound (hP : POk P) {ec : EC} {ef : EF} (hC : SoundC P ec) (hF : SoundF P ef) {ops : Array Oper} {rs : List Rec} {es : List (Nat × List AObj)} {tm0 tm1 : List Value} {st : St} {a : Act} {rd' : Option Nat} {n : Nat} {Q : Exit → Act → World → Prop} {h e : Nat}
  (hs : Static ops) (hfl : FlStatic ops rs h e tm0.length) (hr : RunOk P ec ef ops rs es tm0 st.H) (hf1 : FrameOk ops rs tm0 (fun _ => true) tm1)
  (hq : ∀ i o r, ops[i]? = some o → rs[i]? = some r → r.kind = 1 → quietOk P ops.size rs es st.H (ancs ops.toList []) i o r = true)
  (hkeep : ∀ k lo H1, es[k]? = some (lo, H1) → (heapAt st.H es k).length ≤ H1.length ∧ ∀ x, x < lo → x < (heapAt st.H es k).length → H1[x]? = (heapAt st.H es k)[x]?)
  (hQ : ∀ ρ1 a1 w1, Moved P B ρ st.H w ρ1 (heapAt st.H es es.length) (loMin es st.lo 0 es.length) w1 → ARel ρ1 tm1.toArray a1.tmps → a1.defers = a.defers → Q .normal a1 w1) :
  ∀ (fuel : Nat) (listed : Array Bool) (a' : Act) (w' : World), InvH P B ec ef ρ w ops rs es tm0 st a h e listed a' w' → left ops.size listed ≤ fuel → wpAnyIn (fen rd') n P .any ops Q fuel listed a' w' := by
 -- head and variables are done: on with the rest
 have rest : ∀ (fuel : Nat) (listed : Array Bool) (a' : Act) (w' : World), InvH P B ec ef ρ w ops rs es tm0 st a h e listed a' w' → (∀ i, i < e → (h ≤ i ∨ kindOf rs i = 2) → isIn listed i = true) → left ops.size listed ≤ fuel → wpAnyIn (fen rd') n P .any ops Q fuel listed a' w' := by
  intro fuel listed a' w' hi hall hl
  obtain ⟨tm, ρ', T, g0, g1, g2, g3, g4⟩ := hi.body
  have hhe := hfl.he
  have hcS : cnt rs ops.size (hdS listed h) = cnt rs ops.size (fun j => decide (j < h)) := cnt_congr fun j _ hkj => by
   unfold hdS
   by_cases hjh : j < h
   ·rw [hall j (by omega) (.inr hkj)]; simp
   ·simp [hjh]
  rw [hcS] at g2 g3
  obtain ⟨tm2, ρ2, f0, f1, f2, -⟩ := assemble (e := e) hs hfl hr T (fun i j h1 h2 h3 h4 h5 => g4 i j h1 h2 (hall i h2 (.inl h1)) h3 h4 (hall j h4 (.inl h3)) h5) (S0 := hdS listed h) (fun j hj => by
   unfold hdS at hj
   simp only [Bool.and_eq_true, decide_eq_true_eq] at hj
   exact hj.2) g0 g1 g2 (fun i h1 h2 => g3 i h1 h2 (hall i h2 (.inl h1))) (e - h) (by omega)
  rw [show h + (e - h) = e by omega] at f0 f1 f2
  have hS2 : ∀ j, j < ops.size → (hdS listed h j || (decide (h ≤ j) && decide (j < e))) = isIn listed j := by
   intro j _
   unfold hdS
   by_cases hjh : h ≤ j
   ·have h5 : decide (j < h) = false := by simp; omega
    by_cases hje : j < e
    ·rw [hall j hje (.inl hjh)]; simp [hjh, hje]
    ·rw [hi.notail j (by omega)]; simp; omega
   ·have h5 : decide (h ≤ j) = false := by simpa using hjh
    have h6 : decide (j < h) = true := by simp; omega
    rw [h5, h6]; simp
  have hcS2 : cnt rs ops.size (fun j => decide (j < e)) = cnt rs ops.size (isIn listed) := cnt_congr fun j hj hkj => by
   by_cases hje : j < e
   ·rw [hall j hje (.inr hkj)]; simpa using hje
   ·rw [hi.notail j (by omega)]; simpa using hje
  rw [hcS2] at f2
  refine any_from hP hC hF e hs hfl.chainT hr hf1 hq hkeep hQ fuel listed a' w' ⟨hi.size, hi.closed, ⟨tm2, ρ2, f0.congr hS2, ⟨by simpa using f1.1, fun t => ?_⟩, f2⟩, hi.defers⟩ (fun i h1 h2 => hall i h1 (.inr h2)) hl
  rw [list_getD]
  exact f1.2 t (by rintro ⟨k, hk1, hk2, _⟩; omega)
 intro fuel
 induction fuel with
 | zero =>
  intro listed a' w' hi hl
  have hall := left_zero (Nat.le_zero.1 hl)
  exact rest 0 listed a' w' hi (fun i hie _ => hall i (Nat.lt_of_lt_of_le hie hfl.size)) hl
 | succ fuel ih =>
  intro listed a' w' hi hl
  by_cases hall : ∀ i, i < e → (h ≤ i ∨ kindOf rs i = 2) → isIn listed i = true
  ·exact rest _ listed a' w' hi hall hl
  have hsz := hi.size
  refine ⟨fun hnil => ?_, fun i hir => ?_⟩
  ·exfalso
   apply hall
   intro i hie hcond
   have hin : i < ops.size := Nat.lt_of_lt_of_le hie hfl.size
   clear hie hcond
   induction i using Nat.strongRecOn with
   | _ i ih2 =>
    cases hli : isIn listed i with
    | true => rfl
    | false =>
     exfalso
     obtain ⟨o, ho⟩ : ∃ o, ops[i]? = some o := ⟨ops[i], by simp [hin]⟩
     have : i ∈ Region.ready .any ops listed := by
      rw [mem_ready]
      refine ⟨getD_in (by omega) hli, o, ho, fun e he hb => ?_⟩
      have hlt := hs.back i o ho e he hb
      exact ih2 e.on hlt (by omega)
     rw [hnil] at this
     cases this
  ·obtain ⟨hun, o, ho, hdeps⟩ := mem_ready.1 hir
   have hin := (Array.getElem?_eq_some_iff.1 ho).1
   have hli : isIn listed i = false := getD_both hun
   obtain ⟨r, hri⟩ : ∃ r, rs[i]? = some r := ⟨rs[i]'(by rw [hr.len]; exact hin), List.getElem?_eq_getElem _⟩
   obtain ⟨tm, ρ', T, hfr, hta, hm, hflo, hdis⟩ := hi.body
   obtain ⟨hfri, hcase⟩ := hr.ok i o r ho hri
   have up : ∀ j, anc ops i j = true → isIn listed j = true := fun j hj => anc_listed hi.closed i j hj (fun o' ho' e he hb => by
    rw [ho] at ho'; cases ho'; exact hdeps e he hb)
   have down : ∀ j, anc ops j i = true → isIn listed j = false := by
    intro j hj
    cases hlj : isIn listed j with
    | false => rfl
    | true =>
     exfalso
     have := anc_listed hi.closed j i hj (fun o' ho' e he hb => hi.closed j o' ho' hlj e he hb)
     change isIn listed i = true at this
     rw [hli] at this
     cases this
   have hie : i < e := by
    rcases Nat.lt_or_ge i e with h1 | h1
    ·exact h1
    ·exfalso
     exact hall fun j hj hk => up j (hfl.tail i j h1 hin hj hk)
   have hsz' : (listed.setIfInBounds i true).size = ops.size := by simpa using hsz
   have hclosed' : Closed ops (listed.setIfInBounds i true) := by
    intro j oj hoj hlj e he hb
    have hlj' : isIn (listed.setIfInBounds i true) j = true := hlj
    rw [isIn_set (by omega)] at hlj'
    change isIn (listed.setIfInBounds i true) e.on = true
    rw [isIn_set (by omega)]
    simp only [Bool.or_eq_true, beq_iff_eq] at hlj' ⊢
    rcases hlj' with h1 | rfl
    ·exact .inl (hi.closed j oj hoj h1 e he hb)
    ·rw [ho] at hoj; cases hoj; exact .inl (hdeps e he hb)
   have hnt' : ∀ j, e ≤ j → isIn (listed.setIfInBounds i true) j = false := by
    intro j hj
    rw [isIn_set (by omega), hi.notail j hj]
    simp; omega
   have hleft : left ops.size (listed.setIfInBounds i true) ≤ fuel := by
    have := left_set hsz hin hli; omega
   have hkind : kindOf rs i = r.kind := by unfold kindOf; rw [hri]; rfl
   by_cases hih : i < h
   ·-- an operation of the head
    have nofl : ∀ t, t ∈ reads ops o → ¬ isFl ops h e t := fun t ht => hfl.noread i o t hih ho ht
    have agree : ∀ t, t ∈ reads ops o → tm[t]? = r.tm[t]? := by
     intro t ht
     refine hfr.agree hr.len hs.uniq hfri fun j hj hd => ?_
     unfold hdS
     by_cases hji : j = i
     ·subst hji
      rw [hli]; simp
     ·rcases hs.tmps i o j t ho hj hji hd ht with h1 | h1
      ·rw [up j h1]
       have := anc_lt i j h1
       simp [this]
       omega
      ·rw [down j h1]
       have := anc_lt j i h1
       simp; omega
    have hopd : ∀ x ∈ o.op.operands, aeval tm x = aeval r.tm x := by
     intro x hx
     cases x with
     | tmp t =>
      show (tm[t]?).getD undef = (r.tm[t]?).getD undef
      rw [agree t]
      unfold reads
      exact List.mem_append_left _ (List.mem_filterMap.2 ⟨.tmp t, by simpa using hx, rfl⟩)
     | _ => rfl
    have hguard : ∀ g b t, o.guard = some (g, b) → dstOf ops g = some t → t ∈ reads ops o := by
     intro g b t hg hd
     unfold reads
     refine List.mem_append_right _ ?_
     rw [hg]
     simp only [hd, Option.toList_some, List.mem_singleton]
    have hwant : Region.wanted o (yieldedA ops tm) = Region.wanted o (yieldedA ops r.tm) := by
     unfold Region.wanted
     cases hg : o.guard with
     | none => rfl
     | some gb =>
      obtain ⟨g, b⟩ := gb
      simp only
      have : yieldedA ops tm g = yieldedA ops r.tm g := by
       unfold yieldedA
       cases hd : (ops[g]?).bind (·.dst) with
       | none => rfl
       | some t =>
        simp only [Option.bind_some]
        rw [agree t (hguard g b t hg hd)]
      rw [this]
    have hwreal : Region.wanted o (yielded ops a'.tmps) = Region.wanted o (yieldedA ops r.tm) := by
     rw [← hwant]
     unfold Region.wanted
     cases hg : o.guard with
     | none => rfl
     | some gb =>
      obtain ⟨g, b⟩ := gb
      simp only
      rw [hta.yielded ops g (fun t hd => nofl t (hguard g b t hg hd))]
    have hput : FrameOk ops rs tm0 (hdS (listed.setIfInBounds i true) h) (put tm o.dst r.v) := hfr.put hs.uniq ho hri fun j _ => hdS_head (by omega) hih j
    have hcS : cnt rs ops.size (hdS (listed.setIfInBounds i true) h) = cnt rs ops.size (fun j => hdS listed h j || j == i) := cnt_congr fun j _ _ => hdS_head (by omega) hih j
    have hSi : hdS listed h i = false := by unfold hdS; rw [hli]; rfl
    have hdstne : ∀ j d, h ≤ j → j < e → dstOf ops j = some d → o.dst ≠ some d := by
     intro j d hj1 hj2 hjd hod
     have : dstOf ops i = some d := by unfold dstOf; rw [ho]; exact hod
     have := hs.uniq i j d hin (Nat.lt_of_lt_of_le hj2 hfl.size) this hjd
     omega
    have hD : ∀ t, ¬ isFl ops h e t → o.dst ≠ some t → ¬ isFl ops h e t := fun t ht _ => ht
    -- the next state behind a move
    have next : ∀ {v' : Value} {ρ1 : Ren} {w1 : World} {lo : Nat}, VRel ρ1 r.v v' →
      Moved P B ρ' (heapAt st.H es (cnt rs ops.size (hdS listed h))) w' ρ1 (heapAt st.H es (cnt rs ops.size (hdS (listed.setIfInBounds i true) h))) lo w1 →
      Moved P B ρ st.H w ρ1 (heapAt st.H es (cnt rs ops.size (hdS (listed.setIfInBounds i true) h))) (loMin es st.lo 0 (cnt rs ops.size (hdS (listed.setIfInBounds i true) h))) w1 →
      InvH P B ec ef ρ w ops rs es tm0 st a h e (listed.setIfInBounds i true) (a'.put o.dst v') w1 := by
     intro v' ρ1 w1 lo hv hm1 hm2
     refine ⟨hsz', hclosed', hnt', by rw [put_defers]; exact hi.defers, put tm o.dst r.v, ρ1, T, hput, (hta.mono hm1.ext).put hv hD, hm2, ?_, ?_⟩
     ·intro j hj1 hj2 hjl
      rw [isIn_set (by omega)] at hjl
      have hji : (j == i) = false := by simp; omega
      rw [hji, Bool.or_false] at hjl
      obtain ⟨oj, d, t, c, k1, k2, k3⟩ := hflo j hj1 hj2 hjl
      have hjd : dstOf ops j = some d := by unfold dstOf; rw [k1]; exact k2
      exact ⟨oj, d, t, c, k1, k2, k3.keep hm1 (getD_put_ne (hdstne j d hj1 hj2 hjd))⟩
     ·intro j k hj1 hj2 hjl hk1 hk2 hkl hne
      rw [isIn_set (by omega)] at hjl hkl
      have hji : (j == i) = false := by simp; omega
      have hki : (k == i) = false := by simp; omega
      rw [hji, Bool.or_false] at hjl
      rw [hki, Bool.or_false] at hkl
      exact hdis j k hj1 hj2 hjl hk1 hk2 hkl hne
    have hopsR : ∀ {x : Value × St} {st0 : St}, evOp P ec ef tm o st0 = some x → ∀ x ∈ o.op.operands, VRel ρ' (aeval tm x) (a'.eval x) := by
     intro x st0 hev
     refine hta.opds (evOp_ok hev) fun t ht => nofl t ?_
     unfold reads
     exact List.mem_append_left _ (List.mem_filterMap.2 ⟨.tmp t, by simpa using ht, rfl⟩)
    unfold wpOpIn
    rw [ho]
    simp only
    rcases hcase with ⟨hk, hw, hv⟩ | ⟨hk, hw, hquiet, st1, hstep⟩ | ⟨hk, hw, lo, H1, hes, hop⟩
    ·-- its guard is false
     rw [if_neg (by rw [hwreal, hw]; simp)]
     have hc : cnt rs ops.size (hdS (listed.setIfInBounds i true) h) = cnt rs ops.size (hdS listed h) := by rw [hcS, cnt_other (by rw [hkind, hk]; decide)]
     refine ⟨fun _ _ => trivial, ih _ _ _ (next (v' := undef) (ρ1 := ρ') (w1 := w') (lo := 0) (by rw [hv]; exact .nil) ?_ ?_) hleft⟩
     ·rw [hc]; exact Moved.refl hm.rel 0
     ·rw [hc]; exact hm
    ·-- quiet
     rw [if_pos (by rw [hwreal, hw])]
     have hqk := hq i o r ho hri hk
     obtain ⟨v2, run⟩ := quietOk_run hquiet hqk hkeep hr.elen
     have h1 := run (hdS listed h) (fun j hj => by
      unfold hdS
      have := anc_lt i j hj
      rw [up j hj]; simp; omega) (fun j hj => by unfold hdS; rw [down j hj]; rfl)
     have h2 := run (fun j => decide (j < i)) (fun j hj => by simpa using anc_lt i j hj) (fun j hj => by have := anc_lt j i hj; simp; omega)
     rw [hstep] at h2
     simp only [Option.some.injEq, ANext.val.injEq] at h2
     obtain ⟨hv2, _⟩ := h2
     subst hv2
     have hev : evOp P ec ef tm o ⟨heapAt st.H es (cnt rs ops.size (hdS listed h)), (heapAt st.H es (cnt rs ops.size (hdS listed h))).length⟩ =
       some (r.v, ⟨heapAt st.H es (cnt rs ops.size (hdS listed h)), (heapAt st.H es (cnt rs ops.size (hdS listed h))).length⟩) := by
      rw [evOp_congr hopd]
      unfold evOp
      rw [h1]
     obtain ⟨_, hsound⟩ := op_sound_at hP hC hF hev
     refine hsound B ρ' w' rd' a' n _ Q hm.rel (hopsR hev) ?_
     intro v' ρ1 w1 hm1 hv1
     have hc : cnt rs ops.size (hdS (listed.setIfInBounds i true) h) = cnt rs ops.size (hdS listed h) := by rw [hcS, cnt_other (by rw [hkind, hk]; decide)]
     refine ih _ _ _ (next (lo := (heapAt st.H es (cnt rs ops.size (hdS listed h))).length) hv1 ?_ ?_) hleft
     ·rw [hc]; exact hm1
     ·rw [hc]; exact hm.trans (hm1.any _) (Nat.le_refl _)
    ·-- any other
     rw [if_pos (by rw [hwreal, hw])]
     have hcc : cnt rs ops.size (fun j => decide (j < i)) = cnt rs ops.size (hdS listed h) := by
      refine cnt_congr fun j hj hkj => ?_
      unfold hdS
      rcases Nat.lt_trichotomy j i with h1 | h1 | h1
      ·rw [up j (hfl.chainH i j hih (by rw [hkind, hk]) h1 hkj)]; simp [h1]; omega
      ·subst h1; rw [hli]; simp
      ·by_cases hjh : j < h
       ·rw [down j (hfl.chainH j i hjh hkj h1 (by rw [hkind, hk]))]; simp; omega
       ·simp [hjh]; omega
     rw [hcc] at hes hop
     have hev : evOp P ec ef tm o ⟨heapAt st.H es (cnt rs ops.size (hdS listed h)), (heapAt st.H es (cnt rs ops.size (hdS listed h))).length⟩ = some (r.v, ⟨H1, lo⟩) := by
      rw [evOp_congr hopd]; exact hop
     obtain ⟨_, hsound⟩ := op_sound_at hP hC hF hev
     refine hsound B ρ' w' rd' a' n _ Q hm.rel (hopsR hev) ?_
     intro v' ρ1 w1 hm1 hv1
     have hc : cnt rs ops.size (hdS (listed.setIfInBounds i true) h) = cnt rs ops.size (hdS listed h) + 1 := by rw [hcS, cnt_insert hin (by rw [hkind, hk]) hSi]
     have hH1 : heapAt st.H es (cnt rs ops.size (hdS listed h) + 1) = H1 := by simp only [heapAt, hes]; rfl
     refine ih _ _ _ (next (lo := lo) hv1 ?_ ?_) hleft
     ·rw [hc, hH1]; exact hm1
     ·rw [hc, hH1, loMin_succ hes]
      exact hm.trans (hm1.lower (Nat.min_le_right _ _)) (Nat.min_le_left _ _)
   ·-- a variable is made
    have hhi : h ≤ i := by omega
    obtain ⟨o', t, d, ho', hop', hg', hod, hdl⟩ := hfl.alloc i hhi hie
    rw [ho] at ho'; cases ho'
    have hwant : ∀ y, Region.wanted o y = true := fun y => by unfold Region.wanted; rw [hg']
    have hid : dstOf ops i = some d := by unfold dstOf; rw [ho]; exact hod
    obtain ⟨c, hrun, hcl⟩ : ∃ c, (∀ tm' H1 lo', evOp P ec ef tm' o ⟨H1, lo'⟩ = some (.pointer (some ⟨H1.length, 0, none⟩), ⟨H1 ++ [.cells c t true], lo'⟩)) ∧ ∀ x ∈ c, ∃ n, closedN n x = true := by
     rcases hcase with ⟨_, hw, _⟩ | ⟨_, _, hquiet, _⟩ | ⟨_, _, lo, H1, _, hop⟩
     ·rw [hwant] at hw; cases hw
     ·unfold isQuiet at hquiet; rw [hop'] at hquiet; cases hquiet
     ·obtain ⟨c, -, -, h1, h2⟩ := evOp_alloc hop' hop
      exact ⟨c, h2, h1 hP⟩
    have hcS : cnt rs ops.size (hdS (listed.setIfInBounds i true) h) = cnt rs ops.size (hdS listed h) := cnt_congr fun j _ _ => hdS_float (by omega) hhi j
    have hev := hrun tm (heapAt st.H es (cnt rs ops.size (hdS listed h))) (heapAt st.H es (cnt rs ops.size (hdS listed h))).length
    unfold wpOpIn
    rw [ho]
    simp only
    rw [if_pos (hwant _)]
    obtain ⟨_, hsound⟩ := op_sound_at hP hC hF hev
    refine hsound B ρ' w' rd' a' n _ Q hm.rel (fun x hx => ?_) ?_
    ·rw [hop'] at hx; simp [Op.operands] at hx
    intro v' ρ1 w1 hm1 hv1
    obtain ⟨t1, ht1, rfl⟩ : ∃ t1, ρ1[(heapAt st.H es (cnt rs ops.size (hdS listed h))).length]? = some t1 ∧ v' = .pointer (some ⟨t1.rb, t1.ro, none⟩) := by
     cases hv1 with
     | atom ha => simp [isAtom] at ha
     | ptr hx => exact ⟨_, hx, rfl⟩
    have hm0 : Moved P B ρ' (heapAt st.H es (cnt rs ops.size (hdS listed h))) w' ρ' (heapAt st.H es (cnt rs ops.size (hdS listed h))) (heapAt st.H es (cnt rs ops.size (hdS listed h))).length w1 := hm1.forget hm.rel (Nat.le_refl _)
    have hlast : (heapAt st.H es (cnt rs ops.size (hdS listed h)) ++ [AObj.cells c t true])[(heapAt st.H es (cnt rs ops.size (hdS listed h))).length]? = some (.cells c t true) := by
     rw [List.getElem?_append_right (Nat.le_refl _), Nat.sub_self]; rfl
    have hor := hm1.rel.blk _ _ _ ht1 hlast
    have hni : ¬ Imgs ρ' (heapAt st.H es (cnt rs ops.size (hdS listed h))) t1.rb := by
     rintro ⟨b, t2, o2, hb, ho2, hl2, he2⟩
     have hbl := (List.getElem?_eq_some_iff.1 ho2).1
     exact hm1.rel.inj _ b t1 t2 _ o2 (by omega) ht1 (prefix_get hm1.ext hb) hlast (by rw [List.getElem?_append_left hbl]; exact ho2) rfl hl2 he2.symm
    have hnew : w'.heap.size ≤ t1.rb := (hm1.fr.img _ ⟨_, _, _, ht1, hlast, rfl, rfl⟩).resolve_right hni
    have hfn : FlAt P B ec ef ρ' (heapAt st.H es (cnt rs ops.size (hdS listed h))) w w1 (a'.put o.dst (.pointer (some ⟨t1.rb, t1.ro, none⟩))).tmps o d t c t1 := by
     refine ⟨?_, closed_orel hcl hor, hrun, hni, hor.lt rfl, Nat.le_trans hm.below.size hnew⟩
     have hda : d < a'.tmps.size := by rw [← hta.1, hfr.len]; exact hdl
     rw [hod]
     simp only [Act.put, Array.getD_eq_getD_getElem?]
     rw [Array.getElem?_setIfInBounds_self_of_lt hda]
     rfl
    refine ih _ _ _ ⟨hsz', hclosed', hnt', by rw [put_defers]; exact hi.defers, tm, ρ', (fun j => if j = i then t1 else T j), hfr.congr (fun j _ => (hdS_float (by omega) hhi j).symm), ?_, ?_, ?_, ?_⟩ hleft
    ·rw [hod]; exact hta.putR ⟨i, hhi, hie, hid⟩
    ·rw [hcS]; exact hm.trans (hm0.any _) (Nat.le_refl _)
    ·intro j hj1 hj2 hjl
     rw [hcS]
     by_cases hji : j = i
     ·subst hji
      exact ⟨o, d, t, c, ho, hod, by simpa using hfn⟩
     ·rw [isIn_set (by omega)] at hjl
      have : (j == i) = false := by simpa using hji
      rw [this, Bool.or_false] at hjl
      obtain ⟨oj, dj, tj, cj, k1, k2, k3⟩ := hflo j hj1 hj2 hjl
      have hjd : dstOf ops j = some dj := by unfold dstOf; rw [k1]; exact k2
      refine ⟨oj, dj, tj, cj, k1, k2, ?_⟩
      dsimp only
      rw [if_neg hji]
      refine k3.keep hm0 (getD_put_ne ?_)
      rw [hod]
      intro e1
      simp only [Option.some.injEq] at e1
      subst e1
      exact hji (hs.uniq j i _ (Nat.lt_of_lt_of_le hj2 hfl.size) hin hjd hid)
    ·intro j k hj1 hj2 hjl hk1 hk2 hkl hne
     dsimp only
     rw [isIn_set (by omega)] at hjl hkl
     have lt : ∀ x, h ≤ x → x < e → x ≠ i → (isIn listed x || x == i) = true → (T x).rb < w'.heap.size := by
      intro x hx1 hx2 hxi hxl
      have : (x == i) = false := by simpa using hxi
      rw [this, Bool.or_false] at hxl
      obtain ⟨_, _, _, _, _, _, k3⟩ := hflo x hx1 hx2 hxl
      exact k3.lt
     by_cases hji : j = i
     ·have hki : k ≠ i := fun e2 => hne (hji.trans e2.symm)
      have := lt k hk1 hk2 hki hkl
      rw [if_pos hji, if_neg hki]
      omega
     ·by_cases hki : k = i
      ·have := lt j hj1 hj2 hji hjl
       rw [if_pos hki, if_neg hji]
       omega
      ·have e1 : (j == i) = false := by simpa using hji
       have e2 : (k == i) = false := by simpa using hki
       rw [e1, Bool.or_false] at hjl
       rw [e2, Bool.or_false] at hkl
       rw [if_neg hji, if_neg hki]
       exact hdis j k hj1 hj2 hjl hk1 hk2 hkl hne

end Go.Abs

/- The abstract machine: regions that draw their order, variables made beside calls too. -/
namespace Go.Abs
open Go Go.RowKit

variable {P : Program} {B : Nat} {ρ : Ren} {w : World}

def isAlloc (len : Nat) (o : Oper) : Bool :=
 o.guard.isNone && (match o.op with | .alloc _ => true | _ => false) && (match o.dst with | some d => decide (d < len) | none => false)

def allocAt (len : Nat) (ops : Array Oper) (i : Nat) : Bool :=
 match ops[i]? with
 | some o => isAlloc len o
 | none => false

def flEnd (len : Nat) (ops : Array Oper) : Nat → Nat
 | 0 => 0
 | n + 1 => if allocAt len ops n then n + 1 else flEnd len ops n

def flStart (len : Nat) (ops : Array Oper) : Nat → Nat
 | 0 => 0
 | n + 1 => if allocAt len ops n then flStart len ops n else n + 1

def flOk (ops : Array Oper) (rs : List Rec) (A : List Nat) (h e len : Nat) : Bool :=
 decide (h ≤ e) && decide (e ≤ ops.size) &&
 ((List.range e).all fun i => decide (i < h) || allocAt len ops i) &&
 ((List.range h).all fun i => match ops[i]? with
  | none => true
  | some o => (reads ops o).all fun t => (List.range e).all fun j => decide (j < h) || !(dstOf ops j == some t)) &&
 ((List.range ops.size).all fun i => decide (i < e) || (List.range e).all fun j => (decide (j < h) && kindOf rs j != 2) || ancA A i j) &&
 ((List.range ops.size).all fun i => (decide (h ≤ i) && decide (i < e)) || kindOf rs i != 2 || (List.range i).all fun j => kindOf rs j != 2 || ancA A i j)

theorem allocAt_spec {len : Nat} {ops : Array Oper} {i : Nat} (h : allocAt len ops i = true) : ∃ o t d, ops[i]? = some o ∧ o.op = .alloc t ∧ o.guard = none ∧ o.dst = some d ∧ d < len := by
 unfold allocAt at h
 split at h
 ·rename_i o ho
  unfold isAlloc at h
  simp only [Bool.and_eq_true, Option.isNone_iff_eq_none] at h
  obtain ⟨⟨h1, h2⟩, h3⟩ := h
  split at h2
  ·rename_i t ht
   split at h3
   ·rename_i d hd
    exact ⟨o, t, d, ho, ht, h1, hd, by simpa using h3⟩
   ·cases h3
  ·cases h2
 ·cases h

theorem flStatic_of {ops : Array Oper} {rs : List Rec} {h e len : Nat} (hk : flOk ops rs (ancs ops.toList []) h e len = true) : FlStatic ops rs h e len := by
 unfold flOk at hk
 simp only [Bool.and_eq_true, List.all_eq_true, List.mem_range, decide_eq_true_eq, Bool.or_eq_true] at hk
 obtain ⟨⟨⟨⟨⟨h1, h2⟩, h3⟩, h4⟩, h5⟩, h6⟩ := hk
 have chain : ∀ i j, i < ops.size → (i < h ∨ e ≤ i) → kindOf rs i = 2 → j < i → kindOf rs j = 2 → anc ops i j = true := by
  intro i j hi hc hki hj hkj
  rcases h6 i hi with (h7 | h7) | h7
  ·omega
  ·rw [hki] at h7; simp at h7
  ·rcases h7 j hj with h8 | h8
   ·rw [hkj] at h8; simp at h8
   ·exact h8
 refine ⟨h1, h2, fun i hi1 hi2 => ?_, fun i o t hi ho ht => ?_, fun i j hi1 hi2 hj hjk => ?_, fun i j hi hki hj hkj => chain i j (by omega) (.inl hi) hki hj hkj, fun i j hi1 hi2 hki hj hkj => chain i j hi2 (.inr hi1) hki hj hkj⟩
 ·rcases h3 i hi2 with h7 | h7
  ·omega
  ·exact allocAt_spec h7
 ·have h7 := h4 i hi
  rw [ho] at h7
  simp only [List.all_eq_true, List.mem_range, Bool.or_eq_true, decide_eq_true_eq] at h7
  rintro ⟨j, hj1, hj2, hj3⟩
  rcases h7 t ht j hj2 with h8 | h8
  ·omega
  ·rw [hj3] at h8; simp at h8
 ·rcases h5 i hi2 with h7 | h7
  ·omega
  ·rcases h7 j hj with h8 | h8
   ·obtain ⟨h9, h10⟩ := h8
    rcases hjk with h11 | h11
    ·omega
    ·rw [h11] at h10; simp at h10
   ·exact h8

def checkF (P : Program) (ops : Array Oper) (rs : List Rec) (es : List (Nat × List AObj)) (H0 : List AObj) (A : List Nat) (len : Nat) : Bool :=
 let e := flEnd len ops ops.size
 let h := flStart len ops e
 tmpsOk ops A && flOk ops rs A h e len && (List.range ops.size).all fun i =>
  match ops[i]?, rs[i]? with
  | some o, some r => r.kind != 1 || quietOk P ops.size rs es H0 A i o r
  | _, _ => true

def evDraw2 (P : Program) (ec : EC) (ef : EF) (ops : Array Oper) (tm : List Value) (st : St) : Option (List Value × St) :=
 match pass1 P ec ef ops ops.toList tm st.H with
 | none => none
 | some (rs, es, tm1) =>
  if checkD P ops rs es st.H (ancs ops.toList []) || checkF P ops rs es st.H (ancs ops.toList []) tm.length then some (tm1, ⟨heapAt st.H es es.length, loMin es st.lo 0 es.length⟩) else none

theorem draw2_sound (hP : POk P) {ec : EC} {ef : EF} (hC : SoundC P ec) (hF : SoundF P ef) : SoundD P (evDraw2 P ec ef) := by
 intro ops tm st tm1 st1 h
 unfold evDraw2 at h
 split at h
 ·cases h
 ·rename_i rs es tm2 hp
  split at h
  ·rename_i hck
   rw [Bool.or_eq_true] at hck
   rcases hck with hck | hck
   ·refine draw_sound hP hC hF ops tm st tm1 st1 ?_
    unfold evDraw
    rw [hp]
    simp only
    rw [if_pos hck]
    exact h
   simp only [Option.some.injEq, Prod.mk.injEq] at h
   obtain ⟨rfl, rfl⟩ := h
   refine ⟨loMin_le _ _ _ _, ?_⟩
   unfold checkF at hck
   simp only [Bool.and_eq_true, List.all_eq_true] at hck
   obtain ⟨⟨h1, h2⟩, h3⟩ := hck
   have hs := static_of h1
   have hfl := flStatic_of h2
   obtain ⟨hrun, hf1⟩ := pass1_run hs.uniq hp
   have hq : ∀ i o r, ops[i]? = some o → rs[i]? = some r → r.kind = 1 → quietOk P ops.size rs es st.H (ancs ops.toList []) i o r = true := by
    intro i o r ho hr hk
    have := h3 i (List.mem_range.2 (Array.getElem?_eq_some_iff.1 ho).1)
    rw [ho, hr] at this
    simpa [hk] using this
   intro B ρ w rd' a n id hw ht
   refine wpIn_region_any hP.mixed ?_
   have hw' : WRel P B ρ st.H { w with drawn := w.drawn + 1 } := hw.drawn rfl
   have hkeep := pass1_keep hP hC hF ops.toList tm st.H rs es tm2 hp ⟨ρ, w, a.tmps, hw, ht⟩
   refine head_sound hP hC hF hs hfl hrun hf1 hq hkeep (B := B) (ρ := ρ) (w := w) (a := a) ?_ ops.size _ a _ ?_ ?_
   ·intro ρ1 a1 w1 hm hta hd
    exact ⟨rfl, ρ1, hm, hta, hd⟩
   ·have hno : ∀ i, isIn (Array.replicate ops.size false) i = false := fun i => getD_replicate_false _ _
    have hnoS : ∀ (k i : Nat), hdS (Array.replicate ops.size false) k i = false := fun k i => by unfold hdS; rw [hno]; rfl
    have hc0 : ∀ k, cnt rs ops.size (hdS (Array.replicate ops.size false) k) = 0 := by
     intro k
     unfold cnt
     rw [List.length_eq_zero_iff, List.filter_eq_nil_iff]
     intro i _
     simp [hnoS]
    refine ⟨by simp, (fun j oj hoj hl => by rw [getD_replicate_false] at hl; cases hl), fun i _ => hno i, rfl, tm, ρ, (fun _ => ⟨0, 0, 0, 0⟩), ⟨rfl, (fun t i r _ _ hS => by rw [hnoS] at hS; cases hS), fun _ _ => rfl⟩, ⟨by simpa using ht.1, fun t _ => by have := ht.2 t; rwa [list_getD] at this⟩, ?_, (fun i _ _ hl => by rw [hno] at hl; cases hl), fun i j _ _ hl => by rw [hno] at hl; cases hl⟩
    rw [hc0]
    exact ⟨List.prefix_refl _, hw', ⟨rfl, rfl, rfl, Nat.le_refl _, fun _ _ => rfl⟩, fun _ _ _ => rfl, fun _ _ _ _ _ _ _ => rfl, Nat.le_refl _, ⟨fun _ h => .inr h, fun _ _ _ => rfl⟩⟩
   ·unfold left
    exact Nat.le_trans (List.length_filter_le _ _) (by simp)
  ·cases h

end Go.Abs
