/- The abstract machine, part GrO3. -/
import Derived.Test.YtcgmmfcphfkdhaaGreatVG
import Derived.Sort.Grow
import Derived.Deep.Draws
import Derived.Test.YtcgmmfcphfkdhaaGreatGrN9
import Derived.Test.YtcgmmfcphfkdhaaGreatGrN1
/- A region that draws its order, told one by one (VG), where the world is told to have drawn no less. -/
namespace Go.Abs
open Go Go.RowKit

structure Gr (W W' : World) : Prop where
 b : Below W.heap.size W W'
 d : W.drawn ≤ W'.drawn
theorem Gr.refl (W : World) : Gr W W := ⟨Below.refl _ _, Nat.le_refl _⟩
theorem Gr.trans {a b c : World} (h : Gr a b) (k : Gr b c) : Gr a c := ⟨h.b.trans (k.b.mono h.b.size), Nat.le_trans h.d k.d⟩
theorem Gr.drew {a b : World} (h : Gr a b) : Gr a b.drew := ⟨h.b.drew, Nat.le_succ_of_le h.d⟩
theorem Gr.alloc {a b : World} (h : Gr a b) (o : Obj) : Gr a (b.alloc o) := ⟨h.b.alloc h.b.size o, h.d⟩
theorem Gr.grow {W W' : World} (h : Gr W W') : ∃ q os', W' = Go.Sort.grow (W.drewN q) os' := by
 refine ⟨W'.drawn - W.drawn, W'.heap.extract W.heap.size W'.heap.size, ?_⟩
 obtain ⟨heap, tape, drawn, os, output⟩ := W
 obtain ⟨heap', tape', drawn', os', output'⟩ := W'
 obtain ⟨⟨h1, h2, h3, h4, h5⟩, h6⟩ := h
 simp only at h1 h2 h3 h4 h5 h6
 subst h1 h2 h3
 simp only [Go.Sort.grow, World.drewN, World.mk.injEq, and_true, true_and]
 refine ⟨?_, by omega⟩
 apply Array.ext_getElem?
 intro i
 by_cases hi : i < heap.size
 ·rw [Array.getElem?_append_left hi]
  exact h5 i hi
 ·rw [Array.getElem?_append_right (by omega), Array.getElem?_extract]
  by_cases hj : i < heap'.size
  ·rw [if_pos (by omega), show heap.size + (i - heap.size) = i by omega]
  ·rw [if_neg (by omega), Array.getElem?_eq_none (by omega)]

variable {P : Program} {md : Region.Mode} {ops : Array Oper} {Q : Exit → Act → World → Prop}

def StepsToR (P : Program) (c : Sem Next) (W : World) (R : Value → World → Prop) : Prop :=
 (∃ v W', c.run P W = .ok (.value v) W' ∧ Gr W W' ∧ R v W') ∨
 (∃ f args W', c.run P W = .ok (.enter f args) W' ∧ Gr W W' ∧ Calls P f args W' fun e W'' => ∃ v, e = .returned v ∧ Gr W' W'' ∧ R v W'')

structure VInvR (Val : Nat → Value → World → Prop) (l : List Oper) (a : Act) (w : World) (listed : Array Bool) (a' : Act) (W : World) : Prop where
 len : a'.tmps.size = a.tmps.size
 defers : a'.defers = a.defers
 below : Gr w W
 vals : ∀ i d, isIn listed i = true → dstOf l.toArray i = some d → Val i (a'.tmps.getD d undef) W
 rest : ∀ t, (∀ i, isIn listed i = true → dstOf l.toArray i ≠ some t) → a'.tmps[t]? = a.tmps[t]?

theorem wp_region_valsGr {id : Nat} {l : List Oper} {a : Act} {w : World} (Val : Nat → Value → World → Prop) (hm : P.follows .mixedOrders = true) (hB : valsGB a.tmps.size l = true)
  (hst : ∀ i v W W', Val i v W → Gr W W' → Val i v W')
  (hgd : ∀ (i : Nat) (o : Oper) (g : Nat) (b : Bool), l[i]? = some o → o.guard = some (g, b) → ∀ v W, Val g v W → v = .bool b)
  (hstep : ∀ i o, l[i]? = some o → ∀ (a' : Act) W, Gr w W → (∀ t, (l.map (·.dst)).contains (some t) = false → a'.eval (.tmp t) = a.eval (.tmp t)) →
   (∀ e ∈ o.after.toList, Region.binds .any e = true → ∀ d, dstOf l.toArray e.on = some d → Val e.on (a'.eval (.tmp d)) W) → StepsToR P (execOp a'.eval o) W (Val i))
  (hQ : ∀ W, Gr w W → VQG Val W (fun tm => Q .normal { a with tmps := tm } W) 0 (l.map (·.dst)) a.tmps) :
  (Code.region id l.toArray true).wp P Q a w := by
 unfold valsGB at hB
 simp only [Bool.and_eq_true, List.all_eq_true, List.mem_range, Bool.or_eq_true, beq_iff_eq, Bool.not_eq_true'] at hB
 obtain ⟨⟨hB1, hB2⟩, hB3⟩ := hB
 have hd : ∀ i o, l[i]? = some o → ∃ d, o.dst = some d ∧ d < a.tmps.size ∧ (∀ g b, o.guard = some (g, b) → (∃ e ∈ o.after.toList, e.on = g ∧ Region.binds .any e = true) ∧ (dstOf l.toArray g).isSome = true) ∧ dstOf l.toArray i = some d := by
  intro i o ho
  obtain ⟨h1, h2⟩ := hB1 o (List.mem_of_getElem? ho)
  cases hdo : o.dst with
  | none => rw [hdo] at h2; cases h2
  | some d =>
   rw [hdo] at h2
   refine ⟨d, rfl, by simpa using h2, ?_, ?_⟩
   ·intro g b hgb
    rw [hgb] at h1
    simp only [Bool.and_eq_true, List.any_eq_true, Nat.beq_eq] at h1
    exact h1
   unfold dstOf
   simp [ho, hdo]
 have hdi : ∀ i d, dstOf l.toArray i = some d → ∃ o, l[i]? = some o ∧ o.dst = some d := by
  intro i d h
  unfold dstOf at h
  cases ho : l[i]? with
  | none => simp [ho] at h
  | some o => exact ⟨o, rfl, by simpa [ho] using h⟩
 have hne : ∀ i j d, dstOf l.toArray i = some d → dstOf l.toArray j = some d → i = j := by
  intro i j d h1 h2
  obtain ⟨o1, g1, -⟩ := hdi i d h1
  obtain ⟨o2, g2, -⟩ := hdi j d h2
  rcases hB2 i (List.getElem?_eq_some_iff.1 g1).1 j (List.getElem?_eq_some_iff.1 g2).1 with e | e
  ·exact e
  ·rw [h1, h2] at e
   simp at e
 refine wp_region_any hm (wpAny_invG (fun L a' W => L.size = l.length ∧ VInvR Val l a w L a' W) ?_ ?_ _ _ _ _ (by simp) ?_ ?_)
 ·rintro listed a' W i hsz ⟨hls, hi⟩ hr
  obtain ⟨hun, o, ho, hdep⟩ := mem_ready.1 hr
  have ho' : l[i]? = some o := by simpa using ho
  obtain ⟨d, hdo, hds, hgu, hdst⟩ := hd i o ho'
  have hil : i < listed.size := by rw [hsz]; exact (Array.getElem?_eq_some_iff.1 ho).1
  have hfresh : isIn listed i = false := by
   unfold isIn
   rw [Array.getD_eq_getD_getElem?, Array.getElem?_eq_getElem hil] at hun ⊢
   simpa using hun
  have next : ∀ v W', Gr W W' → Val i v W' → VInvR Val l a w (listed.setIfInBounds i true) (a'.put o.dst v) W' := by
   intro v W' hW' hv
   rw [hdo]
   have hlen : d < a'.tmps.size := by rw [hi.len]; exact hds
   refine ⟨by simp [Act.put, hi.len], hi.defers, hi.below.trans hW', fun j dj hj hdj => ?_, fun t ht => ?_⟩
   ·show Val j ((a'.tmps.setIfInBounds d v).getD dj undef) W'
    by_cases hji : j = i
    ·subst hji
     rw [hdst] at hdj
     cases hdj
     rw [Array.getD_eq_getD_getElem?, Array.getElem?_setIfInBounds_self_of_lt hlen]
     exact hv
    ·have hjl : isIn listed j = true := by
      rw [isIn_set hil] at hj
      simpa [hji] using hj
     have hdd : d ≠ dj := fun e => by subst e; exact hji (hne j i d hdj hdst)
     rw [Array.getD_eq_getD_getElem?, Array.getElem?_setIfInBounds_ne hdd, ← Array.getD_eq_getD_getElem?]
     exact hst j _ _ _ (hi.vals j dj hjl hdj) hW'
   ·show (a'.tmps.setIfInBounds d v)[t]? = _
    have htd : d ≠ t := fun e => by
     subst e
     exact ht i (by rw [isIn_set hil]; simp) hdst
    rw [Array.getElem?_setIfInBounds_ne htd]
    exact hi.rest t (fun j hj => ht j (by rw [isIn_set hil, hj]; rfl))
  have hS := hstep i o ho' a' W hi.below
   (fun t ht => by
    have := hi.rest t (fun j _ e => by
     obtain ⟨o2, g1, g2⟩ := hdi j t e
     have : some t ∈ l.map (·.dst) := List.mem_map.2 ⟨o2, List.mem_of_getElem? g1, g2⟩
     rw [← List.contains_iff_mem, ht] at this
     cases this)
    show a'.tmps.getD t undef = a.tmps.getD t undef
    simp only [Array.getD_eq_getD_getElem?, this])
   (fun e he hb de hde => hi.vals e.on de (hdep e (by simpa using he) hb) hde)
  refine wpOp_step (o := o) ho (fun K hK => ?_)
  rw [if_pos (show Region.wanted o _ = true by
   unfold Region.wanted
   cases hgo : o.guard with
   | none => rfl
   | some gb =>
    obtain ⟨g, b⟩ := gb
    obtain ⟨⟨e, he, heg, hb⟩, hsm⟩ := hgu g b hgo
    obtain ⟨de, hde⟩ := Option.isSome_iff_exists.1 hsm
    subst heg
    have hv := hi.vals e.on de (hdep e (by simpa using he) hb) hde
    have hvb := hgd i o e.on b ho' hgo _ _ hv
    obtain ⟨oe, hoe, hoed⟩ := hdi e.on de hde
    have hlt : de < a'.tmps.size := by
     obtain ⟨d2, k1, k2, -, -⟩ := hd e.on oe hoe
     rw [hoed] at k1
     cases k1
     rw [hi.len]
     exact k2
    have e1 : a'.tmps[de]? = some (.bool b) := by
     rw [Array.getD_eq_getD_getElem?, Array.getElem?_eq_getElem hlt] at hvb
     rw [Array.getElem?_eq_getElem hlt]
     exact congrArg some hvb
    have e2 : (l.toArray[e.on]?).bind (·.dst) = some de := hde
    simp only [yielded, e2, Option.bind_some, e1, beq_self_eq_true])]
  unfold Oper.wp
  rcases hS with ⟨v, W', h1, h2, h3⟩ | ⟨f, args, W', h1, h2, h3⟩
  ·rw [h1]
   exact hK _ _ ⟨by simpa using hls, next v W' h2 h3⟩
  ·rw [h1]
   refine h3.mono ?_
   rintro e W'' ⟨v, rfl, hb, hv⟩
   exact hK _ _ ⟨by simpa using hls, next v W'' (h2.trans hb) hv⟩
 ·intro listed a' W hi hr
  obtain ⟨hls, hi⟩ := hi
  have hall : ∀ i, i < l.length → isIn listed i = true := by
   intro i
   induction i using Nat.strongRecOn with
   | _ i ih =>
    intro hin
    cases hli : isIn listed i with
    | true => rfl
    | false =>
     exfalso
     have ho : l[i]? = some l[i] := List.getElem?_eq_getElem hin
     have : i ∈ Region.ready .any l.toArray listed := by
      rw [mem_ready]
      refine ⟨getD_in (by rw [hls]; exact hin) hli, l[i], by simp, fun e he hb => ?_⟩
      have h1 := hB3 i hin
      rw [ho] at h1
      simp only [List.all_eq_true] at h1
      have h2 := h1 e (by simpa using he)
      simp only [hb, Bool.not_true, Bool.false_or, decide_eq_true_eq] at h2
      exact ih e.on h2 (by omega)
     rw [hr] at this
     cases this
  have := VQG.get (tm' := a'.tmps) (l.map (·.dst)) 0 a.tmps (hQ W hi.below) hi.len.symm
   (fun j d hj => by
    rw [List.getElem?_map] at hj
    cases ho : l[j]? with
    | none => rw [ho] at hj; cases hj
    | some o =>
     rw [ho] at hj
     obtain ⟨d', h1, h2, -, h4⟩ := hd j o ho
     simp only [Option.map_some, Option.some.injEq] at hj
     rw [h1] at hj
     cases hj
     refine ⟨by rw [hi.len]; exact h2, ?_⟩
     rw [Nat.zero_add]
     exact hi.vals j d (hall j (List.getElem?_eq_some_iff.1 ho).1) h4)
   (fun t ht => hi.rest t (fun j _ e => ht j (by
    obtain ⟨o, h1, h2⟩ := hdi j t e
    simp [h1, h2])))
  have e : ({ a with tmps := a'.tmps } : Act) = a' := by
   obtain ⟨t1, d1⟩ := a'
   have := hi.defers
   simp only at this
   simp [this]
  rwa [e] at this
 ·refine Nat.le_trans List.countP_le_length ?_
  simp
 ·refine ⟨by simp, rfl, rfl, (Gr.refl w).drew, fun i d h => ?_, fun t _ => rfl⟩
  unfold isIn at h
  rw [getD_replicate_false] at h
  cases h


end Go.Abs

/- Walks: the order of references and of two notes, with a world that grows. -/
namespace Go.Proofs.YtcgmmfcphfkdhaaGreat
open Go Go.RowKit Go.Proofs Go.Torn Go.Abs

set_option maxRecDepth 100000 in
set_option maxHeartbeats 8000000 in
theorem refs54r (b n b' n' : Int) (w : World) : Calls Tryz.prog 54 #[rfv b n, rfv b' n'] w fun e w' => e = .returned (.int .i64 (cmR b n b' n')) ∧ Gr w w' := by
 have C0 := fun w => compare_any b b' w
 have C1 := fun w => compare_any n n' w
 unfold cmR
 generalize Lib.compareInt b b' = u0 at C0 ⊢
 generalize Lib.compareInt n n' = u1 at C1 ⊢
 have b0 := ((Gr.refl w).alloc (.cells #[.int .i64 b, .int .i64 n] 31)).alloc (.cells #[.int .i64 b', .int .i64 n'] 31)
 have n0 := (NB.new w #[.int .i64 b, .int .i64 n] 31).alloc (.cells #[.int .i64 b', .int .i64 n'] 31)
 have n1 := nb1 w (.cells #[.int .i64 b, .int .i64 n] 31) #[.int .i64 b', .int .i64 n'] 31
 obtain ⟨W0, hW0⟩ : ∃ W0, (w.alloc (.cells #[.int .i64 b, .int .i64 n] 31)).alloc (.cells #[.int .i64 b', .int .i64 n'] 31) = W0 := ⟨_, rfl⟩
 rw [hW0] at b0 n0 n1
 have KA := Lib.hid (fun W (hb : Below W0.heap.size W0 W) => And.intro ((n0.keep hb).c (k := 0) (v := .int .i64 b) rfl) ((n0.keep hb).c (k := 1) (v := .int .i64 n) rfl))
 have KB := Lib.hid (fun W (hb : Below W0.heap.size W0 W) => And.intro ((n1.keep hb).c (k := 0) (v := .int .i64 b') rfl) ((n1.keep hb).c (k := 1) (v := .int .i64 n') rfl))
 have B0 := Lib.hid b0
 have HW := Lib.hid hW0
 clear b0 n0 n1 hW0
 go_enter Tryz.func54, Tryz.ntmps54
 go_wp2_with fail
 rw [HW.out]
 clear HW
 refine wp_region_valsGr (CrV w.heap.size b n b' n' u0 u1) (by kernel_rfl) (by kernel_rfl) (fun i v W W' h g => CrV.keep i v W W' h g.b) ?_ ?_ ?_
 ·intro i o g bb ho hg v W hv
  have hi : i < 13 := by have := (List.getElem?_eq_some_iff.1 ho).1; simpa using this
  obtain rfl | rfl | rfl | rfl | rfl | rfl | rfl | rfl | rfl | rfl | rfl | rfl | rfl : i = 0 ∨ i = 1 ∨ i = 2 ∨ i = 3 ∨ i = 4 ∨ i = 5 ∨ i = 6 ∨ i = 7 ∨ i = 8 ∨ i = 9 ∨ i = 10 ∨ i = 11 ∨ i = 12 := by omega
  all_goals simp only [List.getElem?_cons_zero, List.getElem?_cons_succ, Option.some.injEq] at ho
  all_goals subst ho
  all_goals simp only [reduceCtorEq] at hg
 ·intro i o ho a' W hW hfr hdep
  have f2 : a'.tmps[2]?.getD undef = .pointer (some ⟨w.heap.size, 0, none⟩) := Array.getD_eq_getD_getElem?.symm.trans (hfr 2 rfl)
  have f3 : a'.tmps[3]?.getD undef = .pointer (some ⟨w.heap.size + 1, 0, none⟩) := Array.getD_eq_getD_getElem?.symm.trans (hfr 3 rfl)
  clear hfr
  have hi : i < 13 := by have := (List.getElem?_eq_some_iff.1 ho).1; simpa using this
  obtain rfl | rfl | rfl | rfl | rfl | rfl | rfl | rfl | rfl | rfl | rfl | rfl | rfl : i = 0 ∨ i = 1 ∨ i = 2 ∨ i = 3 ∨ i = 4 ∨ i = 5 ∨ i = 6 ∨ i = 7 ∨ i = 8 ∨ i = 9 ∨ i = 10 ∨ i = 11 ∨ i = 12 := by omega
  all_goals simp only [List.getElem?_cons_zero, List.getElem?_cons_succ, Option.some.injEq] at ho
  all_goals subst ho
  ·clear hdep
   refine .inl ⟨_, W, ?_, Gr.refl _, rfl⟩
   go_simp
  ·have d0 : a'.tmps[5]?.getD undef = .pointer (some ⟨w.heap.size, 0, none⟩) := Array.getD_eq_getD_getElem?.symm.trans (hdep ⟨0, .data⟩ (by simp) rfl 5 rfl)
   clear hdep
   have c := (KA.out W hW.b).1
   refine .inl ⟨_, W, ?_, Gr.refl _, rfl⟩
   go_simp
  ·clear hdep
   refine .inl ⟨_, W, ?_, Gr.refl _, rfl⟩
   go_simp
  ·have d2 : a'.tmps[7]?.getD undef = .pointer (some ⟨w.heap.size + 1, 0, none⟩) := Array.getD_eq_getD_getElem?.symm.trans (hdep ⟨2, .data⟩ (by simp) rfl 7 rfl)
   clear hdep
   have c := (KB.out W hW.b).1
   refine .inl ⟨_, W, ?_, Gr.refl _, rfl⟩
   go_simp
  ·have d1 : a'.tmps[6]?.getD undef = .int .i64 b := Array.getD_eq_getD_getElem?.symm.trans (hdep ⟨1, .data⟩ (by simp) rfl 6 rfl)
   have d3 : a'.tmps[8]?.getD undef = .int .i64 b' := Array.getD_eq_getD_getElem?.symm.trans (hdep ⟨3, .data⟩ (by simp) rfl 8 rfl)
   clear hdep
   refine .inr ⟨109, #[.int .i64 b, .int .i64 b'], W, ?_, Gr.refl _, (C0 W).mono ?_⟩
   ·go_simp
   ·rintro e W' ⟨rfl, rfl⟩
    exact ⟨_, rfl, Gr.refl _, rfl⟩
  ·clear hdep
   refine .inl ⟨_, W, ?_, Gr.refl _, rfl⟩
   go_simp
  ·have d5 : a'.tmps[10]?.getD undef = .pointer (some ⟨w.heap.size, 1, none⟩) := Array.getD_eq_getD_getElem?.symm.trans (hdep ⟨5, .data⟩ (by simp) rfl 10 rfl)
   clear hdep
   have c := (KA.out W hW.b).2
   refine .inl ⟨_, W, ?_, Gr.refl _, rfl⟩
   go_simp
  ·clear hdep
   refine .inl ⟨_, W, ?_, Gr.refl _, rfl⟩
   go_simp
  ·have d7 : a'.tmps[12]?.getD undef = .pointer (some ⟨w.heap.size + 1, 1, none⟩) := Array.getD_eq_getD_getElem?.symm.trans (hdep ⟨7, .data⟩ (by simp) rfl 12 rfl)
   clear hdep
   have c := (KB.out W hW.b).2
   refine .inl ⟨_, W, ?_, Gr.refl _, rfl⟩
   go_simp
  ·have d6 : a'.tmps[11]?.getD undef = .int .i64 n := Array.getD_eq_getD_getElem?.symm.trans (hdep ⟨6, .data⟩ (by simp) rfl 11 rfl)
   have d8 : a'.tmps[13]?.getD undef = .int .i64 n' := Array.getD_eq_getD_getElem?.symm.trans (hdep ⟨8, .data⟩ (by simp) rfl 13 rfl)
   clear hdep
   refine .inr ⟨109, #[.int .i64 n, .int .i64 n'], W, ?_, Gr.refl _, (C1 W).mono ?_⟩
   ·go_simp
   ·rintro e W' ⟨rfl, rfl⟩
    exact ⟨_, rfl, Gr.refl _, rfl⟩
  ·have d4 : a'.tmps[9]?.getD undef = .int .i64 u0 := Array.getD_eq_getD_getElem?.symm.trans (hdep ⟨4, .data⟩ (by simp) rfl 9 rfl)
   have d9 : a'.tmps[14]?.getD undef = .int .i64 u1 := Array.getD_eq_getD_getElem?.symm.trans (hdep ⟨9, .data⟩ (by simp) rfl 14 rfl)
   clear hdep
   refine .inl ⟨.slice (some ⟨W.heap.size, 0, none⟩) 2 2, W.alloc (.cells #[.int .i64 u0, .int .i64 u1] 3), ?_, (Gr.refl _).alloc _, ⟨W.heap.size, rfl, ?_, ?_⟩⟩
   ·go_simp
   ·go_simp
   ·go_simp
  ·obtain ⟨sb, d10, sc0, sc1⟩ : OrS W (a'.tmps[15]?.getD undef) u0 u1 := by have := hdep ⟨10, .data⟩ (by simp) rfl 15 rfl; rw [← Array.getD_eq_getD_getElem?]; exact this
   clear hdep
   refine .inr ⟨108, #[.slice (some ⟨sb, 0, none⟩) 2 2], W, ?_, Gr.refl _, (or2_any u0 u1 W sb 2 sc0 sc1).mono ?_⟩
   ·go_simp
   ·rintro e W' ⟨rfl, rfl⟩
    exact ⟨_, rfl, Gr.refl _, rfl⟩
  ·have d11 : a'.tmps[16]?.getD undef = .int .i64 (or2 u0 u1) := Array.getD_eq_getD_getElem?.symm.trans (hdep ⟨11, .data⟩ (by simp) rfl 16 rfl)
   clear hdep
   refine .inl ⟨_, W, ?_, Gr.refl _, rfl⟩
   go_simp
 ·intro W hW
  simp only [List.map_cons, List.map_nil, VQG, CrV]
  rintro _ rfl _ rfl _ rfl _ rfl _ rfl _ rfl _ rfl _ rfl _ rfl _ rfl v10 s10 _ rfl _ rfl
  simp only [List.setIfInBounds_toArray, List.set_cons_succ, List.set_cons_zero]
  have HF := Lib.hid (B0.out.trans hW)
  clear hW s10 KA KB C0 C1 B0
  go_wp2
  go_ret
  exact ⟨rfl, HF.out⟩


set_option maxRecDepth 100000 in
set_option maxHeartbeats 1000000 in
theorem refOf55r (x : Nv) (w : World) : Calls Tryz.prog 55 #[.agg x.arr] w fun e w' => e = .returned (rfv x.N.b x.N.n) ∧ Gr w w' := by
 have b0 : Gr w ((w.alloc (.cells x.arr 40)).alloc (.cells #[.int .i64 x.N.b, .int .i64 x.N.n] 31)) := ((Gr.refl _).alloc _).alloc _
 have v0 : x.arr[0]? = some (.int .i64 x.N.b) := rfl
 have v1 : x.arr[1]? = some (.int .i64 x.N.n) := rfl
 generalize x.arr = V at b0 v0 v1 ⊢
 generalize x.N.b = b at b0 v0 ⊢
 generalize x.N.n = n at b0 v1 ⊢
 go_enter Tryz.func55, Tryz.ntmps55
 go_wp2
 exact bodyPost_ret (nres_cell (fn := Tryz.f55) rfl _ (by rfl) (ref_load (nb1 _ _ _ _))) rfl ⟨rfl, b0⟩

def CbV (V U : Array Value) (b n b' n' : Int) : Nat → Value → World → Prop
 | 0, v, _ => v = .agg V
 | 1, v, _ => v = rfv b n
 | 2, v, _ => v = .agg U
 | 3, v, _ => v = rfv b' n'
 | 4, v, _ => v = .int .i64 (cmR b n b' n')
 | _, v, _ => v = .int .i64 (cmR b n b' n')

set_option maxRecDepth 100000 in
set_option maxHeartbeats 8000000 in
theorem byRef124 (x y : Nv) (w : World) : Calls Tryz.prog 124 #[.agg x.arr, .agg y.arr] w fun e w' => e = .returned (.int .i64 (cmR x.N.b x.N.n y.N.b y.N.n)) ∧ Gr w w' := by
 obtain ⟨m, hm, ⟨hm0, hm1, hm2⟩, hs40⟩ := m40.out
 have b0 := ((Gr.refl w).alloc (.cells x.arr 40)).alloc (.cells y.arr 40)
 have n0 := (NB.new w x.arr 40).alloc (.cells y.arr 40)
 have n1 := nb1 w (.cells x.arr 40) y.arr 40
 obtain ⟨W0, hW0⟩ : ∃ W0, (w.alloc (.cells x.arr 40)).alloc (.cells y.arr 40) = W0 := ⟨_, rfl⟩
 rw [hW0] at b0 n0 n1
 have LA := Lib.hid (fun W (hb : Below W0.heap.size W0 W) => (n0.keep hb).load (m := m) ((arr_size x).trans hm))
 have LB := Lib.hid (fun W (hb : Below W0.heap.size W0 W) => (n1.keep hb).load (m := m) ((arr_size y).trans hm))
 have CA := Lib.hid (fun w => refOf55r x w)
 have CB := Lib.hid (fun w => refOf55r y w)
 have C1 := Lib.hid (fun w => refs54r x.N.b x.N.n y.N.b y.N.n w)
 have B0 := Lib.hid b0
 have HW := Lib.hid hW0
 clear b0 n0 n1 hW0 hm
 generalize x.arr = V at *
 generalize y.arr = U at *
 generalize x.N.b = b at *
 generalize x.N.n = n at *
 generalize y.N.b = b' at *
 generalize y.N.n = n' at *
 go_enter Tryz.func124, Tryz.ntmps124
 go_wp2_with fail
 rw [HW.out]
 clear HW
 refine wp_region_valsGr (CbV V U b n b' n') (by kernel_rfl) (by kernel_rfl) (fun i v W W' h _ => by
  match i with
  | 0 | 1 | 2 | 3 | 4 | _ + 5 => exact h) ?_ ?_ ?_
 ·intro i o g bb ho hg v W hv
  have hi : i < 6 := by have := (List.getElem?_eq_some_iff.1 ho).1; simpa using this
  obtain rfl | rfl | rfl | rfl | rfl | rfl : i = 0 ∨ i = 1 ∨ i = 2 ∨ i = 3 ∨ i = 4 ∨ i = 5 := by omega
  all_goals simp only [List.getElem?_cons_zero, List.getElem?_cons_succ, Option.some.injEq] at ho
  all_goals subst ho
  all_goals simp only [reduceCtorEq] at hg
 ·intro i o ho a' W hW hfr hdep
  have f2 : a'.tmps[2]?.getD undef = .pointer (some ⟨w.heap.size, 0, none⟩) := Array.getD_eq_getD_getElem?.symm.trans (hfr 2 rfl)
  have f3 : a'.tmps[3]?.getD undef = .pointer (some ⟨w.heap.size + 1, 0, none⟩) := Array.getD_eq_getD_getElem?.symm.trans (hfr 3 rfl)
  clear hfr
  have hi : i < 6 := by have := (List.getElem?_eq_some_iff.1 ho).1; simpa using this
  obtain rfl | rfl | rfl | rfl | rfl | rfl : i = 0 ∨ i = 1 ∨ i = 2 ∨ i = 3 ∨ i = 4 ∨ i = 5 := by omega
  all_goals simp only [List.getElem?_cons_zero, List.getElem?_cons_succ, Option.some.injEq] at ho
  all_goals subst ho
  ·clear hdep
   have l := LA.out W hW.b
   refine .inl ⟨_, W, ?_, Gr.refl _, rfl⟩
   go_simp
  ·have d5 : a'.tmps[5]?.getD undef = .agg V := Array.getD_eq_getD_getElem?.symm.trans (hdep ⟨0, .data⟩ (by simp) rfl 5 rfl)
   clear hdep
   refine .inr ⟨55, #[.agg V], W, ?_, Gr.refl _, (CA.out W).mono ?_⟩
   ·go_simp
   ·rintro e W' ⟨rfl, hb⟩
    exact ⟨_, rfl, hb, rfl⟩
  ·clear hdep
   have l := LB.out W hW.b
   refine .inl ⟨_, W, ?_, Gr.refl _, rfl⟩
   go_simp
  ·have d5 : a'.tmps[7]?.getD undef = .agg U := Array.getD_eq_getD_getElem?.symm.trans (hdep ⟨2, .data⟩ (by simp) rfl 7 rfl)
   clear hdep
   refine .inr ⟨55, #[.agg U], W, ?_, Gr.refl _, (CB.out W).mono ?_⟩
   ·go_simp
   ·rintro e W' ⟨rfl, hb⟩
    exact ⟨_, rfl, hb, rfl⟩
  ·have d6 : a'.tmps[6]?.getD undef = rfv b n := Array.getD_eq_getD_getElem?.symm.trans (hdep ⟨1, .data⟩ (by simp) rfl 6 rfl)
   have d8 : a'.tmps[8]?.getD undef = rfv b' n' := Array.getD_eq_getD_getElem?.symm.trans (hdep ⟨3, .data⟩ (by simp) rfl 8 rfl)
   clear hdep
   refine .inr ⟨54, #[rfv b n, rfv b' n'], W, ?_, Gr.refl _, (C1.out W).mono ?_⟩
   ·go_simp
   ·rintro e W' ⟨rfl, hb⟩
    exact ⟨_, rfl, hb, rfl⟩
  ·have d4 : a'.tmps[9]?.getD undef = .int .i64 (cmR b n b' n') := Array.getD_eq_getD_getElem?.symm.trans (hdep ⟨4, .data⟩ (by simp) rfl 9 rfl)
   clear hdep
   refine .inl ⟨_, W, ?_, Gr.refl _, rfl⟩
   go_simp
 ·intro W hW
  simp only [List.map_cons, List.map_nil, VQG, CbV]
  rintro _ rfl _ rfl _ rfl _ rfl _ rfl _ rfl
  simp only [List.setIfInBounds_toArray, List.set_cons_succ, List.set_cons_zero]
  have HG := Lib.hid (B0.out.trans hW)
  clear hW CA CB LA LB B0 C1
  go_wp2
  go_ret
  exact ⟨rfl, HG.out⟩

end Go.Proofs.YtcgmmfcphfkdhaaGreat
