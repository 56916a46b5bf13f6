/- The abstract machine, part GrLP. -/
import Derived.Test.YtkmcboincjohlaaGreatGrLM
import Derived.Test.YtkmcboincjohlaaGreatGrLI
import Derived.Test.YtkmcboincjohlaaGreatGrLO
/- A region that draws its order, whose lead is told operation by operation, and whose end waits for all of the lead. -/
namespace Go.Abs
open Go Go.RowKit

variable {P : Program} {Q : Exit → Act → World → Prop}

def valsTB (size : Nat) (l : List Oper) (m : Nat) : Bool :=
  let A := ancs l []
  decide (m ≤ l.length) && valsB size (l.take m) &&
  ((List.range l.length).all fun i => match l[i]? with
    | none => true
    | some o => o.after.toList.all fun e => !Region.binds .any e || decide (e.on < i)) &&
  ((List.range l.length).all fun k => decide (k < m) || ((List.range m).all fun j => ancA A k j))

theorem wp_region_valsT {id : Nat} {l : List Oper} {a : Act} {w : World} (m : Nat) (Val : Nat → Value → World → Prop) (hm : P.follows .mixedOrders = true) (hB : valsTB a.tmps.size l m = true)
    (hst : ∀ i v W W', Val i v W → Below W.heap.size W W' → Val i v W')
    (hstep : ∀ i o, (l.take m)[i]? = some o → ∀ (a' : Act) W, Below w.heap.size w W → (∀ t, ((l.take m).map (·.dst)).contains (some t) = false → a'.eval (.tmp t) = a.eval (.tmp t)) →
      (∀ e ∈ o.after.toList, Region.binds .any e = true → ∀ d, dstOf (l.take m).toArray e.on = some d → Val e.on (a'.eval (.tmp d)) W) → StepsTo P (execOp a'.eval o) W (Val i))
    (hQ : ∀ W, Below w.heap.size w W → VQ Val W (fun tm => wpAny P .any l.toArray Q (l.length - m) (ledList l.length m) { a with tmps := tm } W) 0 ((l.take m).map (·.dst)) a.tmps) :
    (Code.region id l.toArray true).wp P Q a w := by
  unfold valsTB at hB
  simp only [Bool.and_eq_true, decide_eq_true_eq] at hB
  obtain ⟨⟨⟨hml, hBp⟩, hback⟩, htail⟩ := hB
  simp only [List.all_eq_true, List.mem_range, Bool.or_eq_true, decide_eq_true_eq] at htail hback
  unfold valsB at hBp
  simp only [Bool.and_eq_true, List.all_eq_true, List.mem_range, Bool.or_eq_true, beq_iff_eq, Bool.not_eq_true', Option.isNone_iff_eq_none] at hBp
  obtain ⟨⟨hB1, hB2⟩, -⟩ := hBp
  have hpl : (l.take m).length = m := by simp; omega
  have hd : ∀ i o, (l.take m)[i]? = some o → ∃ d, o.dst = some d ∧ d < a.tmps.size ∧ o.guard = none ∧ dstOf (l.take m).toArray i = some d := by
    intro i o ho
    obtain ⟨h1, h2⟩ := hB1 o (List.mem_of_getElem? ho)
    cases hdo : o.dst with
    | none => rw [hdo] at h2; cases h2
    | some d =>
      rw [hdo] at h2
      refine ⟨d, rfl, by simpa using h2, h1, ?_⟩
      unfold dstOf
      rw [List.getElem?_toArray, ho]
      exact hdo
  have hdi : ∀ i d, dstOf (l.take m).toArray i = some d → ∃ o, (l.take m)[i]? = some o ∧ o.dst = some d := by
    intro i d h
    unfold dstOf at h
    rw [List.getElem?_toArray] at h
    cases ho : (l.take m)[i]? with
    | none => rw [ho] at h; cases h
    | some o => rw [ho] at h; exact ⟨o, rfl, h⟩
  have hne : ∀ i j d, dstOf (l.take m).toArray i = some d → dstOf (l.take m).toArray j = some d → i = j := by
    intro i j d h1 h2
    obtain ⟨o1, g1, -⟩ := hdi i d h1
    obtain ⟨o2, g2, -⟩ := hdi j d h2
    rcases hB2 i (List.getElem?_eq_some_iff.1 g1).1 j (List.getElem?_eq_some_iff.1 g2).1 with e | e
    · exact e
    · rw [h1, h2] at e
      simp at e
  have main : ∀ (k : Nat) (listed : Array Bool) (a' : Act) (W : World), listed.size = l.length → Closed l.toArray listed → (∀ i, m ≤ i → isIn listed i = false) → VInv Val (l.take m) a w listed a' W → left m listed = k →
      wpAny P .any l.toArray Q (l.length - m + k) listed a' W := by
    intro k
    induction k with
    | zero =>
      intro listed a' W hls _ ht hi hl
      have hall := left_zero hl
      have e1 := listed_eq hml hls hall ht
      have := VQ.get (tm' := a'.tmps) ((l.take m).map (·.dst)) 0 a.tmps (hQ W hi.below) hi.len.symm
        (fun j d hj => by
          rw [List.getElem?_map] at hj
          cases ho : (l.take m)[j]? with
          | none => rw [ho] at hj; cases hj
          | some o =>
            rw [ho] at hj
            obtain ⟨d', h1, h2, -, h4⟩ := hd j o ho
            simp only [Option.map_some, Option.some.injEq] at hj
            rw [h1] at hj
            cases hj
            refine ⟨by rw [hi.len]; exact h2, ?_⟩
            rw [Nat.zero_add]
            exact hi.vals j d (hall j (by have := (List.getElem?_eq_some_iff.1 ho).1; omega)) h4)
        (fun t ht => hi.rest t (fun j _ e => ht j (by
          obtain ⟨o, h1, h2⟩ := hdi j t e
          rw [List.getElem?_map, h1]
          simp [h2])))
      have e : ({ a with tmps := a'.tmps } : Act) = a' := by
        obtain ⟨t1, d1⟩ := a'
        have := hi.defers
        simp only at this
        simp [this]
      rw [e, ← e1] at this
      exact this
    | succ k ih =>
      intro listed a' W hls hcl ht hi hl
      refine ⟨fun hnil => ?_, fun i hir => ?_⟩
      · exfalso
        have hall : ∀ i, i < m → isIn listed i = true := by
          intro i
          induction i using Nat.strongRecOn with
          | _ i ih2 =>
            intro him
            cases hli : isIn listed i with
            | true => rfl
            | false =>
              exfalso
              have hin : i < l.length := by omega
              have ho : l[i]? = some l[i] := List.getElem?_eq_getElem hin
              have : i ∈ Region.ready .any l.toArray listed := by
                rw [mem_ready]
                refine ⟨getD_in (by omega) hli, l[i], by rw [List.getElem?_toArray]; exact ho, fun e he hb => ?_⟩
                have h1 := hback i hin
                rw [ho] at h1
                simp only [List.all_eq_true] at h1
                have h2 := h1 e (by simpa using he)
                simp only [hb, Bool.not_true, Bool.false_or, decide_eq_true_eq] at h2
                exact ih2 e.on h2 (by omega)
              rw [hnil] at this
              cases this
        have : left m listed = 0 := by
          unfold left
          rw [List.length_eq_zero_iff, List.filter_eq_nil_iff]
          intro i hi2
          simp [hall i (List.mem_range.1 hi2)]
        omega
      · obtain ⟨hun, o, ho, hdep⟩ := mem_ready.1 hir
        rw [List.getElem?_toArray] at ho
        have hin := (List.getElem?_eq_some_iff.1 ho).1
        have hil : i < listed.size := by omega
        have hli : isIn listed i = false := getD_both hun
        have up : ∀ j, anc l.toArray i j = true → isIn listed j = true := fun j hj => anc_listed hcl i j hj (fun o' ho' e he hb => by
          rw [List.getElem?_toArray, ho] at ho'; cases ho'; exact hdep e he hb)
        have him : i < m := by
          rcases Nat.lt_or_ge i m with h | h
          · exact h
          · exfalso
            have hall : ∀ j, j < m → isIn listed j = true := by
              intro j hj
              rcases htail i hin with h1 | h1
              · omega
              · exact up j (h1 j hj)
            have : left m listed = 0 := by
              unfold left
              rw [List.length_eq_zero_iff, List.filter_eq_nil_iff]
              intro j hj
              simp [hall j (List.mem_range.1 hj)]
            omega
        have hop : (l.take m)[i]? = some o := by rw [List.getElem?_take, if_pos him]; exact ho
        obtain ⟨d, hdo, hds, hgu, hdst⟩ := hd i o hop
        have hnew : isIn (listed.setIfInBounds i true) i = true := by rw [isIn_set hil]; simp
        have hother : ∀ j, j ≠ i → isIn (listed.setIfInBounds i true) j = isIn listed j := fun j hj => by
          rw [isIn_set hil]
          have : (j == i) = false := by simpa using hj
          rw [this, Bool.or_false]
        have next : ∀ v W', Below W.heap.size W W' → Val i v W' → wpAny P .any l.toArray Q (l.length - m + k) (listed.setIfInBounds i true) (a'.put o.dst v) W' := by
          intro v W' hW' hv
          rw [hdo]
          have hlen : d < a'.tmps.size := by rw [hi.len]; exact hds
          refine ih _ _ _ (by simpa using hls) ?_ ?_ ⟨by simp [Act.put, hi.len], hi.defers, hi.below.trans (hW'.mono hi.below.size), fun j dj hj hdj => ?_, fun t ht => ?_⟩ ?_
          · intro j oj hoj hlj e he hb
            change isIn _ _ = true at hlj
            change isIn _ _ = true
            by_cases hji : j = i
            · subst hji
              rw [List.getElem?_toArray, ho] at hoj; cases hoj
              have := hdep e he hb
              by_cases hee : e.on = j
              · rw [hee]; exact hnew
              · rw [hother _ hee]; exact this
            · rw [hother j hji] at hlj
              have := hcl j oj hoj hlj e he hb
              by_cases hee : e.on = i
              · rw [hee]; exact hnew
              · rw [hother _ hee]; exact this
          · intro j hj
            rw [hother j (by omega)]
            exact ht j hj
          · show Val j ((a'.tmps.setIfInBounds d v).getD dj undef) W'
            by_cases hji : j = i
            · subst hji
              rw [hdst] at hdj
              cases hdj
              rw [Array.getD_eq_getD_getElem?, Array.getElem?_setIfInBounds_self_of_lt hlen]
              exact hv
            · rw [hother j hji] at hj
              have hdd : d ≠ dj := fun e => by subst e; exact hji (hne j i d hdj hdst)
              rw [Array.getD_eq_getD_getElem?, Array.getElem?_setIfInBounds_ne hdd, ← Array.getD_eq_getD_getElem?]
              exact hst j _ _ _ (hi.vals j dj hj hdj) hW'
          · show (a'.tmps.setIfInBounds d v)[t]? = _
            have htd : d ≠ t := fun e => by
              subst e
              exact ht i hnew hdst
            rw [Array.getElem?_setIfInBounds_ne htd]
            refine hi.rest t (fun j hj => ht j ?_)
            by_cases hji : j = i
            · subst hji; exact hnew
            · rw [hother j hji]; exact hj
          · have h2 : left m (listed.setIfInBounds i true) + 1 = left m listed := by
              unfold left
              refine (filter_insert (i := i) m him (by simp [hli]) ?_ fun j hj => ?_).symm
              · simp [hnew]
              · rw [hother j hj]
            omega
        have hS := hstep i o hop a' W hi.below
          (fun t ht => by
            have := hi.rest t (fun j _ e => by
              obtain ⟨o2, g1, g2⟩ := hdi j t e
              have : some t ∈ (l.take m).map (·.dst) := List.mem_map.2 ⟨o2, List.mem_of_getElem? g1, g2⟩
              rw [← List.contains_iff_mem, ht] at this
              cases this)
            show a'.tmps.getD t undef = a.tmps.getD t undef
            simp only [Array.getD_eq_getD_getElem?, this])
          (fun e he hb de hde => hi.vals e.on de (hdep e (by simpa using he) hb) hde)
        refine wpOp_step (o := o) (by rw [List.getElem?_toArray]; exact ho) (fun K hK => ?_)
        rw [if_pos (show Region.wanted o _ = true by unfold Region.wanted; rw [hgu])]
        unfold Oper.wp
        rcases hS with ⟨v, W', h1, h2, h3⟩ | ⟨f, args, W', h1, h2, h3⟩
        · rw [h1]
          exact hK _ _ (next v W' h2 h3)
        · rw [h1]
          refine h3.mono ?_
          rintro e W'' ⟨v, rfl, hb, hv⟩
          exact hK _ _ (next v W'' (h2.trans (hb.mono h2.size)) hv)
  refine wp_region_any hm ?_
  have hno : ∀ i, isIn (Array.replicate l.toArray.size false) i = false := fun i => getD_replicate_false _ _
  have := main m (Array.replicate l.toArray.size false) a w.drew (by simp) (fun j oj _ hl => (by rw [getD_replicate_false] at hl; cases hl)) (fun i _ => hno i)
    ⟨rfl, rfl, (Below.refl _ w).drew, fun i d h => (by rw [hno] at h; cases h), fun t _ => rfl⟩
    (by unfold left; rw [List.filter_eq_self.2 (fun i _ => by rw [hno]; rfl)]; simp)
  have e : l.length - m + m = l.toArray.size := by simp; omega
  rw [e] at this
  exact this

end Go.Abs

/- Walks: Settings of the program. -/
namespace Go.Proofs.YtkmcboincjohlaaGreat
open Go Go.RowKit Go.Proofs Go.Abs Go.Shelf

/-- The value is a slice, nil or not, that holds these settings. -/
def SetAt (W : World) (v : Value) (F : List (Nat × Bool)) : Prop := (F = [] ∧ v = .slice none 0 0) ∨ ∃ g cap, v = .slice (some ⟨g, 0, none⟩) F.length cap ∧ RowS W g F

theorem SetAt.keep {W W' : World} {v : Value} {F : List (Nat × Bool)} (h : SetAt W v F) (hb : Below W.heap.size W W') : SetAt W' v F := by
  rcases h with h | ⟨g, cap, h1, h2⟩
  · exact .inl h
  · exact .inr ⟨g, cap, h1, h2.keep hb⟩

/-- What Settings answers: the settings, the error. -/
def setsV (p : Bool) (G : List G5) (L : List (Int × Int)) : List (Nat × Bool) := if p = true ∧ vOut L = true ∧ G.length = L.length then (allS L.length).filter fun q => fitP G L L.length q.1 q.2 else []
def setsE (p : Bool) (L : List (Int × Int)) : Int := if p = true then (if vOut L = true then 0 else 1) else 30

theorem allS_lt {n : Nat} : ∀ p ∈ allS n, p.1 < n := by
  intro p hp
  unfold allS at hp
  obtain ⟨s, hs, h⟩ := List.mem_flatMap.1 hp
  have := List.mem_range.1 hs
  simp only [List.mem_cons, List.not_mem_nil, or_false] at h
  rcases h with rfl | rfl <;> exact this

def SetV (id c r m s : Int) (vg vm pv : Value) (ag : Option Addr) (n gcap B C : Nat) : Nat → Value → World → Prop
  | 0, v, _ => v = pcs id c r m s vg vm
  | 1, v, _ => v = pv
  | 2, v, _ => v = .pointer (some ⟨B, 5, none⟩)
  | 3, v, _ => v = .slice ag n gcap
  | 4, v, _ => v = .int .i64 (n : Nat)
  | _, v, w => w.ownsRow C 48 2 v (allS n).length (encS (allS n))

theorem SetV.keep {id c r m s : Int} {vg vm pv : Value} {ag : Option Addr} {n gcap B C : Nat} : ∀ i v W W', SetV id c r m s vg vm pv ag n gcap B C i v W → Below W.heap.size W W' → SetV id c r m s vg vm pv ag n gcap B C i v W'
  | 0, _, _, _, h, _ => h
  | 1, _, _, _, h, _ => h
  | 2, _, _, _, h, _ => h
  | 3, _, _, _, h, _ => h
  | 4, _, _, _, h, _ => h
  | _ + 5, _, _, _, h, hb => own_keep h hb


set_option maxRecDepth 100000 in
set_option maxHeartbeats 4000000 in
theorem settings14_good (id c r m s : Int) (vg vm pv : Value) (G : List G5) (M : List M3) (L : List (Int × Int)) (w : World) (hG : SlG w vg G) (hM : SlM w vm M) (hL : SlV w pv L) (hpb : vP id c r m s G M = true) (hvo : vOut L = true) :
    Calls Tryz.prog 9 #[pcs id c r m s vg vm, pv] w fun e w' => ∃ v, e = .returned (.tuple #[v, .int .i64 0]) ∧ SetAt w' v (setsV true G L) ∧ Below w.heap.size w w' := by
  have b0 : Below w.heap.size w (w.alloc (pcsObj id c r m s vg vm)) := (Below.refl _ _).alloc (Nat.le_refl _) _
  have hp := pcs_new w id c r m s vg vm
  have CV := validPiece_any id c r m s vg vm G M _ (hG.keep b0) (hM.keep b0)
  have CO := fun W (hb : Below w.heap.size w W) => vOut_sl (hL.keep hb)
  rw [hpb] at CV
  rw [hvo] at CO
  have hvG : vGs G = true := by
    unfold vP at hpb
    simp only [Bool.and_eq_true] at hpb
    exact hpb.1.2
  have hG24 := (vGs_ok hvG).2.1
  obtain ⟨bL, off, capl, hpv, hpt⟩ := vOut_pts hL hvo
  obtain ⟨ag, gcap, hvg⟩ := hG.shape
  have CF : ∀ W v, Below w.heap.size w W → W.ownsRow w.heap.size 48 2 v (allS G.length).length (encS (allS G.length)) → Calls Tryz.prog 27 #[pcs id c r m s vg vm, pv, v] W fun e w' =>
      ∃ v', e = .returned v' ∧ SetAt w' v' (setsV true G L) ∧ Below w.heap.size w w' := by
    intro W v hW hown
    have hlen := allS_len G.length
    have hg3 := (vGs_ok hvG).1
    obtain ⟨g, cap, rfl, hg0, hgc, hrow⟩ := row_of_own hown (by omega)
    by_cases hn : G.length = L.length
    · rw [hpv]
      refine (fitting_same w id c r m s vg vm G bL off capl g cap L (allS G.length) hvo hG hvG hpt hn W hW hg0 hgc (by omega) (fun p hp => by rw [← hn]; exact allS_lt p hp) hrow).mono ?_
      rintro e w' ⟨he, hr, hb⟩
      have e1 : setsV true G L = (allS G.length).filter fun q => fitP G L L.length q.1 q.2 := by unfold setsV; rw [if_pos ⟨rfl, hvo, hn⟩, hn]
      rw [e1]
      exact ⟨_, he, .inr ⟨g, cap, rfl, hr⟩, hb⟩
    · refine (fitting_other id c r m s vg vm pv _ ag (some ⟨bL, off, none⟩) (some ⟨g, 0, none⟩) G.length L.length (allS G.length).length gcap capl cap hvg hpv rfl hn W).mono ?_
      rintro e w' ⟨he, hb⟩
      have e1 : setsV true G L = [] := by unfold setsV; rw [if_neg (fun h => hn h.2.2)]
      rw [e1]
      exact ⟨_, he, .inl ⟨rfl, rfl⟩, keep_below hW hb⟩
  have HCF := Lib.hid CF
  have HV := Lib.hid hvg
  have HN := Lib.hid hG24
  obtain ⟨F, hF⟩ : ∃ F, setsV true G L = F := ⟨_, rfl⟩
  rw [hF] at HCF ⊢
  obtain ⟨n, hn⟩ : ∃ n, G.length = n := ⟨_, rfl⟩
  rw [hn] at HCF HV HN
  clear hG hM hL hpb hvo CF hvG hG24 hpt hpv hvg hF hn
  go_enter Tryz.func9, Tryz.ntmps9
  go_wp2_with (first
    | (go_at_call 26; with_reducible refine CV.mono ?_; rintro e w1 ⟨rfl, hb1⟩
       have b1 := keep_below b0 hb1
       have hp := (hb1.block _ (Array.getElem?_eq_some_iff.1 hp).1).trans hp
       clear b0 hb1)
    | (go_at_call 19; with_reducible refine (CO _ b1).mono ?_; rintro e w2 ⟨rfl, hb2⟩
       have b2 := keep_below b1 hb2
       have hp := (hb2.block _ (Array.getElem?_eq_some_iff.1 hp).1).trans hp
       clear b1 hb2))
  have HC : Hid (w.heap.size ≤ w2.heap.size) := Lib.hid b2.size
  refine wp_region_valsT 6 (SetV id c r m s vg vm pv ag n gcap w.heap.size w.heap.size) (by kernel_rfl) (by kernel_rfl) SetV.keep ?_ ?_
  · simp only [List.take_succ_cons, List.take_zero]
    intro i o ho a' W hW hfr hdep
    have f1 : a'.tmps[1]?.getD undef = pv := Array.getD_eq_getD_getElem?.symm.trans (hfr 1 rfl)
    have f2 : a'.tmps[2]?.getD undef = .pointer (some ⟨w.heap.size, 0, none⟩) := Array.getD_eq_getD_getElem?.symm.trans (hfr 2 rfl)
    have hp : W.heap[w.heap.size]? = some (pcsObj id c r m s vg vm) := (hW.block _ (Array.getElem?_eq_some_iff.1 hp).1).trans hp
    clear hfr
    have hi : i < 6 := by have := (List.getElem?_eq_some_iff.1 ho).1; simpa using this
    obtain rfl | rfl | rfl | rfl | rfl | rfl : i = 0 ∨ i = 1 ∨ i = 2 ∨ i = 3 ∨ i = 4 ∨ i = 5 := by omega
    all_goals simp only [List.getElem?_cons_zero, List.getElem?_cons_succ, Option.some.injEq] at ho
    all_goals subst ho
    · have c0 : W.cell? ⟨w.heap.size, 0, none⟩ = some (.int .i64 id) := cell_of hp rfl
      have c1 : W.cell? ⟨w.heap.size, 1, none⟩ = some (.int .i64 c) := cell_of hp rfl
      have c2 : W.cell? ⟨w.heap.size, 2, none⟩ = some (.int .i64 r) := cell_of hp rfl
      have c3 : W.cell? ⟨w.heap.size, 3, none⟩ = some (.int .i64 m) := cell_of hp rfl
      have c4 : W.cell? ⟨w.heap.size, 4, none⟩ = some (.int .i64 s) := cell_of hp rfl
      have c5 : W.cell? ⟨w.heap.size, 5, none⟩ = some vg := cell_of hp rfl
      have c6 : W.cell? ⟨w.heap.size, 6, none⟩ = some vm := cell_of hp rfl
      clear hdep hp
      refine .inl ⟨_, W, ?_, Below.refl _ _, rfl⟩
      go_simp
    · clear hdep hp
      refine .inl ⟨_, W, ?_, Below.refl _ _, rfl⟩
      go_simp
    · clear hdep hp
      refine .inl ⟨_, W, ?_, Below.refl _ _, rfl⟩
      go_simp
    · have d2 : a'.tmps[14]?.getD undef = .pointer (some ⟨w.heap.size, 5, none⟩) := Array.getD_eq_getD_getElem?.symm.trans (hdep ⟨2, .data⟩ (by simp) rfl 14 rfl)
      have c0 : W.cell? ⟨w.heap.size, 5, none⟩ = some (.slice ag n gcap) := by rw [← HV.out]; exact cell_of hp rfl
      clear hdep hp
      refine .inl ⟨_, W, ?_, Below.refl _ _, rfl⟩
      go_simp
    · have d3 : a'.tmps[15]?.getD undef = .slice ag n gcap := Array.getD_eq_getD_getElem?.symm.trans (hdep ⟨3, .data⟩ (by simp) rfl 15 rfl)
      clear hdep hp
      refine .inl ⟨_, W, ?_, Below.refl _ _, rfl⟩
      go_simp
    · have d4 : a'.tmps[16]?.getD undef = .int .i64 (n : Nat) := Array.getD_eq_getD_getElem?.symm.trans (hdep ⟨4, .data⟩ (by simp) rfl 16 rfl)
      clear hdep hp
      refine .inr ⟨28, #[.int .i64 (n : Nat)], W, ?_, Below.refl _ _, (settings48_any n HN.out W).mono ?_⟩
      · go_simp
      · rintro e W' ⟨v, rfl, ho, hb⟩
        exact ⟨_, rfl, hb, own_base ho (Nat.le_trans HC.out hW.size)⟩

  · intro W hW
    have b3 := keep_below b2 hW
    simp only [List.take_succ_cons, List.take_zero, List.map_cons, List.map_nil, VQ]
    rintro _ rfl _ rfl _ rfl _ rfl _ rfl v hv
    have C := HCF.out W v b3 hv
    simp only [List.setIfInBounds_toArray, List.set_cons_zero, List.set_cons_succ, List.length_cons, List.length_nil, Nat.reduceAdd, Nat.reduceSub, ledList, List.replicate, List.cons_append, List.nil_append]
    clear hp hv hW b2 b3
    refine wpAny_ready (rs := [6]) (by kernel_rfl) (by simp) (AllReady.cons rfl (fun K hK => ?_) AllReady.nil)
    simp only [List.getElem_toArray, List.getElem_cons_succ, List.getElem_cons_zero]
    rw [if_pos (show Region.wanted _ _ = true from rfl)]
    have HK := Lib.hid hK
    clear hK
    go_wp2_with fail
    refine C.mono ?_
    rintro e w3 ⟨v', rfl, hs, hb3⟩
    refine HK.out _ _ ?_
    clear HK K
    refine wpAny_ready (rs := [7]) (by kernel_rfl) (by simp) (AllReady.cons rfl (fun K hK => ?_) AllReady.nil)
    simp only [List.getElem_toArray, List.getElem_cons_succ, List.getElem_cons_zero]
    rw [if_pos (show Region.wanted _ _ = true from rfl)]
    have HK := Lib.hid hK
    clear hK
    go_wp2_with fail
    refine HK.out _ _ ?_
    clear HK K
    refine wpAny_ready (rs := [8]) (by kernel_rfl) (by simp) (AllReady.cons rfl (fun K hK => ?_) AllReady.nil)
    simp only [List.getElem_toArray, List.getElem_cons_succ, List.getElem_cons_zero]
    rw [if_pos (show Region.wanted _ _ = true from rfl)]
    have HK := Lib.hid hK
    clear hK
    go_wp2_with fail
    refine HK.out _ _ ?_
    clear HK K
    refine wpAny_done (by kernel_rfl) ?_ _
    simp only [Exit.then]
    go_at_K
    go_wp2
    go_ret2
    exact ⟨v', rfl, hs, hb3⟩

theorem settings14_any (id c r m s : Int) (vg vm pv : Value) (G : List G5) (M : List M3) (L : List (Int × Int)) (w : World) (hG : SlG w vg G) (hM : SlM w vm M) (hL : SlV w pv L) :
    Calls Tryz.prog 9 #[pcs id c r m s vg vm, pv] w fun e w' => ∃ v, e = .returned (.tuple #[v, .int .i64 (setsE (vP id c r m s G M) L)]) ∧ SetAt w' v (setsV (vP id c r m s G M) G L) ∧ Below w.heap.size w w' := by
  cases hpb : vP id c r m s G M
  · have b0 : Below w.heap.size w (w.alloc (pcsObj id c r m s vg vm)) := (Below.refl _ _).alloc (Nat.le_refl _) _
    have hp := pcs_new w id c r m s vg vm
    have CV := validPiece_any id c r m s vg vm G M _ (hG.keep b0) (hM.keep b0)
    rw [hpb] at CV
    have e1 : setsV false G L = [] := by unfold setsV; simp
    have e2 : setsE false L = 30 := by unfold setsE; simp
    rw [e1, e2]
    clear hG hM hL hpb e1 e2
    go_enter Tryz.func9, Tryz.ntmps9
    go_wp2_with (first
      | (go_at_call 26; with_reducible refine CV.mono ?_; rintro e w1 ⟨rfl, hb1⟩
         have b1 := keep_below b0 hb1
         clear b0 hb1))
    go_ret2
    exact ⟨_, rfl, .inl ⟨rfl, rfl⟩, b1⟩
  · cases hvo : vOut L
    · have b0 : Below w.heap.size w (w.alloc (pcsObj id c r m s vg vm)) := (Below.refl _ _).alloc (Nat.le_refl _) _
      have hp := pcs_new w id c r m s vg vm
      have CV := validPiece_any id c r m s vg vm G M _ (hG.keep b0) (hM.keep b0)
      have CO := fun W (hb : Below w.heap.size w W) => vOut_sl (hL.keep hb)
      rw [hpb] at CV
      rw [hvo] at CO
      have e1 : setsV true G L = [] := by unfold setsV; simp [hvo]
      have e2 : setsE true L = 1 := by unfold setsE; simp [hvo]
      rw [e1, e2]
      clear hG hM hL hpb e1 e2 hvo
      go_enter Tryz.func9, Tryz.ntmps9
      go_wp2_with (first
        | (go_at_call 26; with_reducible refine CV.mono ?_; rintro e w1 ⟨rfl, hb1⟩
           have b1 := keep_below b0 hb1
           clear b0 hb1)
        | (go_at_call 19; with_reducible refine (CO _ b1).mono ?_; rintro e w2 ⟨rfl, hb2⟩
           have b2 := keep_below b1 hb2
           clear hb2))
      go_ret2
      exact ⟨_, rfl, .inl ⟨rfl, rfl⟩, b2⟩
    · have e2 : setsE true L = 0 := by unfold setsE; simp [hvo]
      rw [e2]
      exact settings14_good id c r m s vg vm pv G M L w hG hM hL hpb hvo

end Go.Proofs.YtkmcboincjohlaaGreat

/- Walks: the reference's Fits. -/
namespace Go.Proofs.YtkmcboincjohlaaGreat
open Go Go.RowKit Go.Proofs Go.Abs

end Go.Proofs.YtkmcboincjohlaaGreat

/- Walks: the reference's Settings. -/
namespace Go.Proofs.YtkmcboincjohlaaGreat
open Go Go.RowKit Go.Proofs Go.Abs

def RefV (id c r m s : Int) (vg vm pv : Value) (ga q acap k sh : Nat) (b u : Bool) : Nat → Value → World → Prop
  | 0, v, _ => v = pcs id c r m s vg vm
  | 1, v, _ => v = pv
  | 2, v, _ => v = .slice (some ⟨ga, 0, none⟩) q acap
  | 3, v, _ => v = .int .i64 (k : Nat)
  | 4, v, _ => v = .pointer (some ⟨ga, k * 2, none⟩)
  | 5, v, _ => v = st (sh : Nat) b
  | _, v, _ => v = .bool u

theorem RefV.keep {id c r m s : Int} {vg vm pv : Value} {ga q acap k sh : Nat} {b u : Bool} : ∀ i v W W', RefV id c r m s vg vm pv ga q acap k sh b u i v W → Below W.heap.size W W' → RefV id c r m s vg vm pv ga q acap k sh b u i v W'
  | 0, _, _, _, h, _ => h
  | 1, _, _, _, h, _ => h
  | 2, _, _, _, h, _ => h
  | 3, _, _, _, h, _ => h
  | 4, _, _, _, h, _ => h
  | 5, _, _, _, h, _ => h
  | _ + 6, _, _, _, h, _ => h


end Go.Proofs.YtkmcboincjohlaaGreat
