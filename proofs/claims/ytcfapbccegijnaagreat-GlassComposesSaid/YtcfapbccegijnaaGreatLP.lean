/- The abstract machine, part LP. -/
import Derived.Test.YtcfapbccegijnaaGreatLM
import Derived.Test.YtcfapbccegijnaaGreatLI
import Derived.Test.YtcfapbccegijnaaGreatLO
/- A region that draws its order, whose lead is told operation by operation, and whose end waits for all of the lead. -/
namespace Go.Abs
open Go Go.RowKit

variable {P : Program} {Q : Exit → Act → World → Prop}

def valsTB (size : Nat) (l : List Oper) (m : Nat) : Bool :=
  let A := ancs l []
  decide (m ≤ l.length) && valsB size (l.take m) &&
  ((List.range l.length).all fun i => match l[i]? with
    | none => true
    | some o => o.after.toList.all fun e => !Region.binds .any e || decide (e.on < i)) &&
  ((List.range l.length).all fun k => decide (k < m) || ((List.range m).all fun j => ancA A k j))

theorem wp_region_valsT {id : Nat} {l : List Oper} {a : Act} {w : World} (m : Nat) (Val : Nat → Value → World → Prop) (hm : P.follows .mixedOrders = true) (hB : valsTB a.tmps.size l m = true)
    (hst : ∀ i v W W', Val i v W → Below W.heap.size W W' → Val i v W')
    (hstep : ∀ i o, (l.take m)[i]? = some o → ∀ (a' : Act) W, Below w.heap.size w W → (∀ t, ((l.take m).map (·.dst)).contains (some t) = false → a'.eval (.tmp t) = a.eval (.tmp t)) →
      (∀ e ∈ o.after.toList, Region.binds .any e = true → ∀ d, dstOf (l.take m).toArray e.on = some d → Val e.on (a'.eval (.tmp d)) W) → StepsTo P (execOp a'.eval o) W (Val i))
    (hQ : ∀ W, Below w.heap.size w W → VQ Val W (fun tm => wpAny P .any l.toArray Q (l.length - m) (ledList l.length m) { a with tmps := tm } W) 0 ((l.take m).map (·.dst)) a.tmps) :
    (Code.region id l.toArray true).wp P Q a w := by
  unfold valsTB at hB
  simp only [Bool.and_eq_true, decide_eq_true_eq] at hB
  obtain ⟨⟨⟨hml, hBp⟩, hback⟩, htail⟩ := hB
  simp only [List.all_eq_true, List.mem_range, Bool.or_eq_true, decide_eq_true_eq] at htail hback
  unfold valsB at hBp
  simp only [Bool.and_eq_true, List.all_eq_true, List.mem_range, Bool.or_eq_true, beq_iff_eq, Bool.not_eq_true', Option.isNone_iff_eq_none] at hBp
  obtain ⟨⟨hB1, hB2⟩, -⟩ := hBp
  have hpl : (l.take m).length = m := by simp; omega
  have hd : ∀ i o, (l.take m)[i]? = some o → ∃ d, o.dst = some d ∧ d < a.tmps.size ∧ o.guard = none ∧ dstOf (l.take m).toArray i = some d := by
    intro i o ho
    obtain ⟨h1, h2⟩ := hB1 o (List.mem_of_getElem? ho)
    cases hdo : o.dst with
    | none => rw [hdo] at h2; cases h2
    | some d =>
      rw [hdo] at h2
      refine ⟨d, rfl, by simpa using h2, h1, ?_⟩
      unfold dstOf
      rw [List.getElem?_toArray, ho]
      exact hdo
  have hdi : ∀ i d, dstOf (l.take m).toArray i = some d → ∃ o, (l.take m)[i]? = some o ∧ o.dst = some d := by
    intro i d h
    unfold dstOf at h
    rw [List.getElem?_toArray] at h
    cases ho : (l.take m)[i]? with
    | none => rw [ho] at h; cases h
    | some o => rw [ho] at h; exact ⟨o, rfl, h⟩
  have hne : ∀ i j d, dstOf (l.take m).toArray i = some d → dstOf (l.take m).toArray j = some d → i = j := by
    intro i j d h1 h2
    obtain ⟨o1, g1, -⟩ := hdi i d h1
    obtain ⟨o2, g2, -⟩ := hdi j d h2
    rcases hB2 i (List.getElem?_eq_some_iff.1 g1).1 j (List.getElem?_eq_some_iff.1 g2).1 with e | e
    · exact e
    · rw [h1, h2] at e
      simp at e
  have main : ∀ (k : Nat) (listed : Array Bool) (a' : Act) (W : World), listed.size = l.length → Closed l.toArray listed → (∀ i, m ≤ i → isIn listed i = false) → VInv Val (l.take m) a w listed a' W → left m listed = k →
      wpAny P .any l.toArray Q (l.length - m + k) listed a' W := by
    intro k
    induction k with
    | zero =>
      intro listed a' W hls _ ht hi hl
      have hall := left_zero hl
      have e1 := listed_eq hml hls hall ht
      have := VQ.get (tm' := a'.tmps) ((l.take m).map (·.dst)) 0 a.tmps (hQ W hi.below) hi.len.symm
        (fun j d hj => by
          rw [List.getElem?_map] at hj
          cases ho : (l.take m)[j]? with
          | none => rw [ho] at hj; cases hj
          | some o =>
            rw [ho] at hj
            obtain ⟨d', h1, h2, -, h4⟩ := hd j o ho
            simp only [Option.map_some, Option.some.injEq] at hj
            rw [h1] at hj
            cases hj
            refine ⟨by rw [hi.len]; exact h2, ?_⟩
            rw [Nat.zero_add]
            exact hi.vals j d (hall j (by have := (List.getElem?_eq_some_iff.1 ho).1; omega)) h4)
        (fun t ht => hi.rest t (fun j _ e => ht j (by
          obtain ⟨o, h1, h2⟩ := hdi j t e
          rw [List.getElem?_map, h1]
          simp [h2])))
      have e : ({ a with tmps := a'.tmps } : Act) = a' := by
        obtain ⟨t1, d1⟩ := a'
        have := hi.defers
        simp only at this
        simp [this]
      rw [e, ← e1] at this
      exact this
    | succ k ih =>
      intro listed a' W hls hcl ht hi hl
      refine ⟨fun hnil => ?_, fun i hir => ?_⟩
      · exfalso
        have hall : ∀ i, i < m → isIn listed i = true := by
          intro i
          induction i using Nat.strongRecOn with
          | _ i ih2 =>
            intro him
            cases hli : isIn listed i with
            | true => rfl
            | false =>
              exfalso
              have hin : i < l.length := by omega
              have ho : l[i]? = some l[i] := List.getElem?_eq_getElem hin
              have : i ∈ Region.ready .any l.toArray listed := by
                rw [mem_ready]
                refine ⟨getD_in (by omega) hli, l[i], by rw [List.getElem?_toArray]; exact ho, fun e he hb => ?_⟩
                have h1 := hback i hin
                rw [ho] at h1
                simp only [List.all_eq_true] at h1
                have h2 := h1 e (by simpa using he)
                simp only [hb, Bool.not_true, Bool.false_or, decide_eq_true_eq] at h2
                exact ih2 e.on h2 (by omega)
              rw [hnil] at this
              cases this
        have : left m listed = 0 := by
          unfold left
          rw [List.length_eq_zero_iff, List.filter_eq_nil_iff]
          intro i hi2
          simp [hall i (List.mem_range.1 hi2)]
        omega
      · obtain ⟨hun, o, ho, hdep⟩ := mem_ready.1 hir
        rw [List.getElem?_toArray] at ho
        have hin := (List.getElem?_eq_some_iff.1 ho).1
        have hil : i < listed.size := by omega
        have hli : isIn listed i = false := getD_both hun
        have up : ∀ j, anc l.toArray i j = true → isIn listed j = true := fun j hj => anc_listed hcl i j hj (fun o' ho' e he hb => by
          rw [List.getElem?_toArray, ho] at ho'; cases ho'; exact hdep e he hb)
        have him : i < m := by
          rcases Nat.lt_or_ge i m with h | h
          · exact h
          · exfalso
            have hall : ∀ j, j < m → isIn listed j = true := by
              intro j hj
              rcases htail i hin with h1 | h1
              · omega
              · exact up j (h1 j hj)
            have : left m listed = 0 := by
              unfold left
              rw [List.length_eq_zero_iff, List.filter_eq_nil_iff]
              intro j hj
              simp [hall j (List.mem_range.1 hj)]
            omega
        have hop : (l.take m)[i]? = some o := by rw [List.getElem?_take, if_pos him]; exact ho
        obtain ⟨d, hdo, hds, hgu, hdst⟩ := hd i o hop
        have hnew : isIn (listed.setIfInBounds i true) i = true := by rw [isIn_set hil]; simp
        have hother : ∀ j, j ≠ i → isIn (listed.setIfInBounds i true) j = isIn listed j := fun j hj => by
          rw [isIn_set hil]
          have : (j == i) = false := by simpa using hj
          rw [this, Bool.or_false]
        have next : ∀ v W', Below W.heap.size W W' → Val i v W' → wpAny P .any l.toArray Q (l.length - m + k) (listed.setIfInBounds i true) (a'.put o.dst v) W' := by
          intro v W' hW' hv
          rw [hdo]
          have hlen : d < a'.tmps.size := by rw [hi.len]; exact hds
          refine ih _ _ _ (by simpa using hls) ?_ ?_ ⟨by simp [Act.put, hi.len], hi.defers, hi.below.trans (hW'.mono hi.below.size), fun j dj hj hdj => ?_, fun t ht => ?_⟩ ?_
          · intro j oj hoj hlj e he hb
            change isIn _ _ = true at hlj
            change isIn _ _ = true
            by_cases hji : j = i
            · subst hji
              rw [List.getElem?_toArray, ho] at hoj; cases hoj
              have := hdep e he hb
              by_cases hee : e.on = j
              · rw [hee]; exact hnew
              · rw [hother _ hee]; exact this
            · rw [hother j hji] at hlj
              have := hcl j oj hoj hlj e he hb
              by_cases hee : e.on = i
              · rw [hee]; exact hnew
              · rw [hother _ hee]; exact this
          · intro j hj
            rw [hother j (by omega)]
            exact ht j hj
          · show Val j ((a'.tmps.setIfInBounds d v).getD dj undef) W'
            by_cases hji : j = i
            · subst hji
              rw [hdst] at hdj
              cases hdj
              rw [Array.getD_eq_getD_getElem?, Array.getElem?_setIfInBounds_self_of_lt hlen]
              exact hv
            · rw [hother j hji] at hj
              have hdd : d ≠ dj := fun e => by subst e; exact hji (hne j i d hdj hdst)
              rw [Array.getD_eq_getD_getElem?, Array.getElem?_setIfInBounds_ne hdd, ← Array.getD_eq_getD_getElem?]
              exact hst j _ _ _ (hi.vals j dj hj hdj) hW'
          · show (a'.tmps.setIfInBounds d v)[t]? = _
            have htd : d ≠ t := fun e => by
              subst e
              exact ht i hnew hdst
            rw [Array.getElem?_setIfInBounds_ne htd]
            refine hi.rest t (fun j hj => ht j ?_)
            by_cases hji : j = i
            · subst hji; exact hnew
            · rw [hother j hji]; exact hj
          · have h2 : left m (listed.setIfInBounds i true) + 1 = left m listed := by
              unfold left
              refine (filter_insert (i := i) m him (by simp [hli]) ?_ fun j hj => ?_).symm
              · simp [hnew]
              · rw [hother j hj]
            omega
        have hS := hstep i o hop a' W hi.below
          (fun t ht => by
            have := hi.rest t (fun j _ e => by
              obtain ⟨o2, g1, g2⟩ := hdi j t e
              have : some t ∈ (l.take m).map (·.dst) := List.mem_map.2 ⟨o2, List.mem_of_getElem? g1, g2⟩
              rw [← List.contains_iff_mem, ht] at this
              cases this)
            show a'.tmps.getD t undef = a.tmps.getD t undef
            simp only [Array.getD_eq_getD_getElem?, this])
          (fun e he hb de hde => hi.vals e.on de (hdep e (by simpa using he) hb) hde)
        refine wpOp_step (o := o) (by rw [List.getElem?_toArray]; exact ho) (fun K hK => ?_)
        rw [if_pos (show Region.wanted o _ = true by unfold Region.wanted; rw [hgu])]
        unfold Oper.wp
        rcases hS with ⟨v, W', h1, h2, h3⟩ | ⟨f, args, W', h1, h2, h3⟩
        · rw [h1]
          exact hK _ _ (next v W' h2 h3)
        · rw [h1]
          refine h3.mono ?_
          rintro e W'' ⟨v, rfl, hb, hv⟩
          exact hK _ _ (next v W'' (h2.trans (hb.mono h2.size)) hv)
  refine wp_region_any hm ?_
  have hno : ∀ i, isIn (Array.replicate l.toArray.size false) i = false := fun i => getD_replicate_false _ _
  have := main m (Array.replicate l.toArray.size false) a w.drew (by simp) (fun j oj _ hl => (by rw [getD_replicate_false] at hl; cases hl)) (fun i _ => hno i)
    ⟨rfl, rfl, (Below.refl _ w).drew, fun i d h => (by rw [hno] at h; cases h), fun t _ => rfl⟩
    (by unfold left; rw [List.filter_eq_self.2 (fun i _ => by rw [hno]; rfl)]; simp)
  have e : l.length - m + m = l.toArray.size := by simp; omega
  rw [e] at this
  exact this

end Go.Abs

/- Walks: Settings of the program. -/
namespace Go.Proofs.YtcfapbccegijnaaGreat
open Go Go.RowKit Go.Proofs Go.Abs Go.Shelf

/-- The value is a slice, nil or not, that holds these settings. -/
def SetAt (W : World) (v : Value) (F : List (Nat × Bool)) : Prop := (F = [] ∧ v = .slice none 0 0) ∨ ∃ g cap, v = .slice (some ⟨g, 0, none⟩) F.length cap ∧ RowS W g F

theorem SetAt.keep {W W' : World} {v : Value} {F : List (Nat × Bool)} (h : SetAt W v F) (hb : Below W.heap.size W W') : SetAt W' v F := by
  rcases h with h | ⟨g, cap, h1, h2⟩
  · exact .inl h
  · exact .inr ⟨g, cap, h1, h2.keep hb⟩

theorem setAt_own {W : World} {B : Nat} {v : Value} {F : List (Nat × Bool)} (h : W.ownsRow B 28 2 v F.length (encS F)) : SetAt W v F := by
  rcases Nat.eq_zero_or_pos F.length with h0 | h0
  · have e : F = [] := List.length_eq_zero_iff.1 h0
    subst e
    rcases h.2 with ⟨rfl, -⟩ | ⟨g, cap, cur, rfl, e2, e3, e4, e5, e6, e7⟩
    · exact .inl ⟨rfl, rfl⟩
    · exact .inr ⟨g, cap, rfl, cur, e3, fun j hj => by simp at hj⟩
  · obtain ⟨g, cap, rfl, -, -, hr⟩ := row_of_own h h0
    exact .inr ⟨g, cap, rfl, hr⟩

/-- What Settings answers: the settings, the error. -/
def setsV (p : Bool) (G : List G5) (L : List (Int × Int)) : List (Nat × Bool) := if p = true ∧ vOut L = true ∧ G.length = L.length then (allS L.length).filter fun q => fitP G L L.length q.1 q.2 else []
def setsE (p : Bool) (L : List (Int × Int)) : Int := if p = true then (if vOut L = true then 0 else 1) else 30

theorem allS_lt {n : Nat} : ∀ p ∈ allS n, p.1 < n := by
  intro p hp
  unfold allS at hp
  obtain ⟨s, hs, h⟩ := List.mem_flatMap.1 hp
  have := List.mem_range.1 hs
  simp only [List.mem_cons, List.not_mem_nil, or_false] at h
  rcases h with rfl | rfl <;> exact this

def SetV (id c r m s : Int) (vg vm pv : Value) (ag : Option Addr) (n gcap B C : Nat) : Nat → Value → World → Prop
  | 0, v, _ => v = pcs id c r m s vg vm
  | 1, v, _ => v = pv
  | 2, v, _ => v = .pointer (some ⟨B, 5, none⟩)
  | 3, v, _ => v = .slice ag n gcap
  | 4, v, _ => v = .int .i64 (n : Nat)
  | _, v, w => w.ownsRow C 28 2 v (allS n).length (encS (allS n))

theorem SetV.keep {id c r m s : Int} {vg vm pv : Value} {ag : Option Addr} {n gcap B C : Nat} : ∀ i v W W', SetV id c r m s vg vm pv ag n gcap B C i v W → Below W.heap.size W W' → SetV id c r m s vg vm pv ag n gcap B C i v W'
  | 0, _, _, _, h, _ => h
  | 1, _, _, _, h, _ => h
  | 2, _, _, _, h, _ => h
  | 3, _, _, _, h, _ => h
  | 4, _, _, _, h, _ => h
  | _ + 5, _, _, _, h, hb => own_keep h hb


set_option maxRecDepth 100000 in
set_option maxHeartbeats 4000000 in
theorem settings14_good (id c r m s : Int) (vg vm pv : Value) (G : List G5) (M : List M3) (L : List (Int × Int)) (w : World) (hG : SlG w vg G) (hM : SlM w vm M) (hL : SlV w pv L) (hpb : vP id c r m s G M = true) (hvo : vOut L = true) :
    Calls Tryz.prog 14 #[pcs id c r m s vg vm, pv] w fun e w' => ∃ v, e = .returned (.tuple #[v, .int .i64 0]) ∧ SetAt w' v (setsV true G L) ∧ Below w.heap.size w w' := by
  have b0 : Below w.heap.size w (w.alloc (pcsObj id c r m s vg vm)) := (Below.refl _ _).alloc (Nat.le_refl _) _
  have hp := pcs_new w id c r m s vg vm
  have CV := validPiece_any id c r m s vg vm G M _ (hG.keep b0) (hM.keep b0)
  have CO := fun W (hb : Below w.heap.size w W) => vOut_sl (hL.keep hb)
  rw [hpb] at CV
  rw [hvo] at CO
  have hvG : vGs G = true := by
    unfold vP at hpb
    simp only [Bool.and_eq_true] at hpb
    exact hpb.1.2
  have hG24 := (vGs_ok hvG).2.1
  obtain ⟨bL, off, capl, hpv, hpt⟩ := vOut_pts hL hvo
  obtain ⟨ag, gcap, hvg⟩ := hG.shape
  have CF : ∀ W v, Below w.heap.size w W → W.ownsRow w.heap.size 28 2 v (allS G.length).length (encS (allS G.length)) → Calls Tryz.prog 46 #[pcs id c r m s vg vm, pv, v] W fun e w' =>
      ∃ v', e = .returned v' ∧ SetAt w' v' (setsV true G L) ∧ Below w.heap.size w w' := by
    intro W v hW hown
    have hlen := allS_len G.length
    have hg3 := (vGs_ok hvG).1
    obtain ⟨g, cap, rfl, hg0, hgc, hrow⟩ := row_of_own hown (by omega)
    by_cases hn : G.length = L.length
    · rw [hpv]
      refine (fitting_same w id c r m s vg vm G bL off capl g cap L (allS G.length) hvo hG hvG hpt hn W hW hg0 hgc (by omega) (fun p hp => by rw [← hn]; exact allS_lt p hp) hrow).mono ?_
      rintro e w' ⟨he, hr, hb⟩
      have e1 : setsV true G L = (allS G.length).filter fun q => fitP G L L.length q.1 q.2 := by unfold setsV; rw [if_pos ⟨rfl, hvo, hn⟩, hn]
      rw [e1]
      exact ⟨_, he, .inr ⟨g, cap, rfl, hr⟩, hb⟩
    · refine (fitting_other id c r m s vg vm pv _ ag (some ⟨bL, off, none⟩) (some ⟨g, 0, none⟩) G.length L.length (allS G.length).length gcap capl cap hvg hpv rfl hn W).mono ?_
      rintro e w' ⟨he, hb⟩
      have e1 : setsV true G L = [] := by unfold setsV; rw [if_neg (fun h => hn h.2.2)]
      rw [e1]
      exact ⟨_, he, .inl ⟨rfl, rfl⟩, keep_below hW hb⟩
  have HCF := Lib.hid CF
  have HV := Lib.hid hvg
  have HN := Lib.hid hG24
  obtain ⟨F, hF⟩ : ∃ F, setsV true G L = F := ⟨_, rfl⟩
  rw [hF] at HCF ⊢
  obtain ⟨n, hn⟩ : ∃ n, G.length = n := ⟨_, rfl⟩
  rw [hn] at HCF HV HN
  clear hG hM hL hpb hvo CF hvG hG24 hpt hpv hvg hF hn
  go_enter Tryz.func14, Tryz.ntmps14
  go_wp2_with (first
    | (go_at_call 39; with_reducible refine CV.mono ?_; rintro e w1 ⟨rfl, hb1⟩
       have b1 := keep_below b0 hb1
       have hp := (hb1.block _ (Array.getElem?_eq_some_iff.1 hp).1).trans hp
       clear b0 hb1)
    | (go_at_call 45; with_reducible refine (CO _ b1).mono ?_; rintro e w2 ⟨rfl, hb2⟩
       have b2 := keep_below b1 hb2
       have hp := (hb2.block _ (Array.getElem?_eq_some_iff.1 hp).1).trans hp
       clear b1 hb2))
  have HC : Hid (w.heap.size ≤ w2.heap.size) := Lib.hid b2.size
  refine wp_region_valsT 6 (SetV id c r m s vg vm pv ag n gcap w.heap.size w.heap.size) (by kernel_rfl) (by kernel_rfl) SetV.keep ?_ ?_
  · simp only [List.take_succ_cons, List.take_zero]
    intro i o ho a' W hW hfr hdep
    have f1 : a'.tmps[1]?.getD undef = pv := Array.getD_eq_getD_getElem?.symm.trans (hfr 1 rfl)
    have f2 : a'.tmps[2]?.getD undef = .pointer (some ⟨w.heap.size, 0, none⟩) := Array.getD_eq_getD_getElem?.symm.trans (hfr 2 rfl)
    have hp : W.heap[w.heap.size]? = some (pcsObj id c r m s vg vm) := (hW.block _ (Array.getElem?_eq_some_iff.1 hp).1).trans hp
    clear hfr
    have hi : i < 6 := by have := (List.getElem?_eq_some_iff.1 ho).1; simpa using this
    obtain rfl | rfl | rfl | rfl | rfl | rfl : i = 0 ∨ i = 1 ∨ i = 2 ∨ i = 3 ∨ i = 4 ∨ i = 5 := by omega
    all_goals simp only [List.getElem?_cons_zero, List.getElem?_cons_succ, Option.some.injEq] at ho
    all_goals subst ho
    · have c0 : W.cell? ⟨w.heap.size, 0, none⟩ = some (.int .i64 id) := cell_of hp rfl
      have c1 : W.cell? ⟨w.heap.size, 1, none⟩ = some (.int .i64 c) := cell_of hp rfl
      have c2 : W.cell? ⟨w.heap.size, 2, none⟩ = some (.int .i64 r) := cell_of hp rfl
      have c3 : W.cell? ⟨w.heap.size, 3, none⟩ = some (.int .i64 m) := cell_of hp rfl
      have c4 : W.cell? ⟨w.heap.size, 4, none⟩ = some (.int .i64 s) := cell_of hp rfl
      have c5 : W.cell? ⟨w.heap.size, 5, none⟩ = some vg := cell_of hp rfl
      have c6 : W.cell? ⟨w.heap.size, 6, none⟩ = some vm := cell_of hp rfl
      clear hdep hp
      refine .inl ⟨_, W, ?_, Below.refl _ _, rfl⟩
      go_simp
    · clear hdep hp
      refine .inl ⟨_, W, ?_, Below.refl _ _, rfl⟩
      go_simp
    · clear hdep hp
      refine .inl ⟨_, W, ?_, Below.refl _ _, rfl⟩
      go_simp
    · have d2 : a'.tmps[14]?.getD undef = .pointer (some ⟨w.heap.size, 5, none⟩) := Array.getD_eq_getD_getElem?.symm.trans (hdep ⟨2, .data⟩ (by simp) rfl 14 rfl)
      have c0 : W.cell? ⟨w.heap.size, 5, none⟩ = some (.slice ag n gcap) := by rw [← HV.out]; exact cell_of hp rfl
      clear hdep hp
      refine .inl ⟨_, W, ?_, Below.refl _ _, rfl⟩
      go_simp
    · have d3 : a'.tmps[15]?.getD undef = .slice ag n gcap := Array.getD_eq_getD_getElem?.symm.trans (hdep ⟨3, .data⟩ (by simp) rfl 15 rfl)
      clear hdep hp
      refine .inl ⟨_, W, ?_, Below.refl _ _, rfl⟩
      go_simp
    · have d4 : a'.tmps[16]?.getD undef = .int .i64 (n : Nat) := Array.getD_eq_getD_getElem?.symm.trans (hdep ⟨4, .data⟩ (by simp) rfl 16 rfl)
      clear hdep hp
      refine .inr ⟨48, #[.int .i64 (n : Nat)], W, ?_, Below.refl _ _, (settings48_any n HN.out W).mono ?_⟩
      · go_simp
      · rintro e W' ⟨v, rfl, ho, hb⟩
        exact ⟨_, rfl, hb, own_base ho (Nat.le_trans HC.out hW.size)⟩

  · intro W hW
    have b3 := keep_below b2 hW
    simp only [List.take_succ_cons, List.take_zero, List.map_cons, List.map_nil, VQ]
    rintro _ rfl _ rfl _ rfl _ rfl _ rfl v hv
    have C := HCF.out W v b3 hv
    simp only [List.setIfInBounds_toArray, List.set_cons_zero, List.set_cons_succ, List.length_cons, List.length_nil, Nat.reduceAdd, Nat.reduceSub, ledList, List.replicate, List.cons_append, List.nil_append]
    clear hp hv hW b2 b3
    refine wpAny_ready (rs := [6]) (by kernel_rfl) (by simp) (AllReady.cons rfl (fun K hK => ?_) AllReady.nil)
    simp only [List.getElem_toArray, List.getElem_cons_succ, List.getElem_cons_zero]
    rw [if_pos (show Region.wanted _ _ = true from rfl)]
    have HK := Lib.hid hK
    clear hK
    go_wp2_with fail
    refine C.mono ?_
    rintro e w3 ⟨v', rfl, hs, hb3⟩
    refine HK.out _ _ ?_
    clear HK K
    refine wpAny_ready (rs := [7]) (by kernel_rfl) (by simp) (AllReady.cons rfl (fun K hK => ?_) AllReady.nil)
    simp only [List.getElem_toArray, List.getElem_cons_succ, List.getElem_cons_zero]
    rw [if_pos (show Region.wanted _ _ = true from rfl)]
    have HK := Lib.hid hK
    clear hK
    go_wp2_with fail
    refine HK.out _ _ ?_
    clear HK K
    refine wpAny_ready (rs := [8]) (by kernel_rfl) (by simp) (AllReady.cons rfl (fun K hK => ?_) AllReady.nil)
    simp only [List.getElem_toArray, List.getElem_cons_succ, List.getElem_cons_zero]
    rw [if_pos (show Region.wanted _ _ = true from rfl)]
    have HK := Lib.hid hK
    clear hK
    go_wp2_with fail
    refine HK.out _ _ ?_
    clear HK K
    refine wpAny_done (by kernel_rfl) ?_ _
    simp only [Exit.then]
    go_at_K
    go_wp2
    go_ret2
    exact ⟨v', rfl, hs, hb3⟩

theorem settings14_any (id c r m s : Int) (vg vm pv : Value) (G : List G5) (M : List M3) (L : List (Int × Int)) (w : World) (hG : SlG w vg G) (hM : SlM w vm M) (hL : SlV w pv L) :
    Calls Tryz.prog 14 #[pcs id c r m s vg vm, pv] w fun e w' => ∃ v, e = .returned (.tuple #[v, .int .i64 (setsE (vP id c r m s G M) L)]) ∧ SetAt w' v (setsV (vP id c r m s G M) G L) ∧ Below w.heap.size w w' := by
  cases hpb : vP id c r m s G M
  · have b0 : Below w.heap.size w (w.alloc (pcsObj id c r m s vg vm)) := (Below.refl _ _).alloc (Nat.le_refl _) _
    have hp := pcs_new w id c r m s vg vm
    have CV := validPiece_any id c r m s vg vm G M _ (hG.keep b0) (hM.keep b0)
    rw [hpb] at CV
    have e1 : setsV false G L = [] := by unfold setsV; simp
    have e2 : setsE false L = 30 := by unfold setsE; simp
    rw [e1, e2]
    clear hG hM hL hpb e1 e2
    go_enter Tryz.func14, Tryz.ntmps14
    go_wp2_with (first
      | (go_at_call 39; with_reducible refine CV.mono ?_; rintro e w1 ⟨rfl, hb1⟩
         have b1 := keep_below b0 hb1
         clear b0 hb1))
    go_ret2
    exact ⟨_, rfl, .inl ⟨rfl, rfl⟩, b1⟩
  · cases hvo : vOut L
    · have b0 : Below w.heap.size w (w.alloc (pcsObj id c r m s vg vm)) := (Below.refl _ _).alloc (Nat.le_refl _) _
      have hp := pcs_new w id c r m s vg vm
      have CV := validPiece_any id c r m s vg vm G M _ (hG.keep b0) (hM.keep b0)
      have CO := fun W (hb : Below w.heap.size w W) => vOut_sl (hL.keep hb)
      rw [hpb] at CV
      rw [hvo] at CO
      have e1 : setsV true G L = [] := by unfold setsV; simp [hvo]
      have e2 : setsE true L = 1 := by unfold setsE; simp [hvo]
      rw [e1, e2]
      clear hG hM hL hpb e1 e2 hvo
      go_enter Tryz.func14, Tryz.ntmps14
      go_wp2_with (first
        | (go_at_call 39; with_reducible refine CV.mono ?_; rintro e w1 ⟨rfl, hb1⟩
           have b1 := keep_below b0 hb1
           clear b0 hb1)
        | (go_at_call 45; with_reducible refine (CO _ b1).mono ?_; rintro e w2 ⟨rfl, hb2⟩
           have b2 := keep_below b1 hb2
           clear hb2))
      go_ret2
      exact ⟨_, rfl, .inl ⟨rfl, rfl⟩, b2⟩
    · have e2 : setsE true L = 0 := by unfold setsE; simp [hvo]
      rw [e2]
      exact settings14_good id c r m s vg vm pv G M L w hG hM hL hpb hvo

end Go.Proofs.YtcfapbccegijnaaGreat

/- Walks: the reference's Fits. -/
namespace Go.Proofs.YtcfapbccegijnaaGreat
open Go Go.RowKit Go.Proofs Go.Abs

set_option maxRecDepth 100000 in
set_option maxHeartbeats 4000000 in
theorem refFits_other (id c r m z : Int) (vg vm pv : Value) (ag al : Option Addr) (gn ln gc lc : Nat) (s : Int) (b : Bool) (hg : vg = .slice ag gn gc) (hp : pv = .slice al ln lc) (hn : gn ≠ ln) (w : World) :
    Calls Tryz.prog 47 #[pcs id c r m z vg vm, pv, st s b] w fun e w' => e = .returned (.bool false) ∧ Below w.heap.size w w' := by
  subst hg hp
  have hb : Below w.heap.size w ((w.alloc (pcsObj id c r m z (.slice ag gn gc) vm)).alloc (stObj s b)) := ((Below.refl _ _).alloc (Nat.le_refl _) _).alloc (by simp) _
  have hx : ((w.alloc (pcsObj id c r m z (.slice ag gn gc) vm)).alloc (stObj s b)).cell? ⟨w.heap.size, 5, none⟩ = some (.slice ag gn gc) :=
    cell_of (pcs_stX w id c r m z _ vm s b).1 rfl
  have hne : ((gn : Int) != (ln : Int)) = true := by rw [bne_iff_ne]; omega
  go_enter Tryz.func47, Tryz.ntmps47
  go_wp2
  go_ret
  exact ⟨rfl, hb⟩

theorem fits47_any (id c r m z : Int) (vg vm pv : Value) (G : List G5) (L : List (Int × Int)) (s : Nat) (b : Bool) (hv : vOut L = true) (hs : s < G.length) (w : World) (hG : SlG w vg G) (hL : SlV w pv L) :
    Calls Tryz.prog 47 #[pcs id c r m z vg vm, pv, st s b] w fun e w' => e = .returned (.bool (decide (G.length = L.length) && fitP G L L.length s b)) ∧ Below w.heap.size w w' := by
  obtain ⟨bL, off, capl, rfl, hpt⟩ := vOut_pts hL hv
  by_cases hn : G.length = L.length
  · rw [decide_eq_true hn, Bool.true_and, fit_eq G L b (by omega)]
    exact refFits_same id c r m z vg vm G bL off capl L s b hv hn (by omega) w hG hpt
  · rw [decide_eq_false hn, Bool.false_and]
    obtain ⟨ag, gcap, hvg⟩ := hG.shape
    exact refFits_other id c r m z vg vm _ ag _ G.length L.length gcap capl s b hvg rfl hn w

set_option maxRecDepth 100000 in
set_option maxHeartbeats 4000000 in
theorem fits13_any (id c r m s : Int) (vg vm pv : Value) (G : List G5) (M : List M3) (L : List (Int × Int)) (sh : Int) (b : Bool) (w : World) (hG : SlG w vg G) (hM : SlM w vm M) (hL : SlV w pv L) :
    Calls Tryz.prog 13 #[pcs id c r m s vg vm, pv, st sh b] w fun e w' => e = .returned (.tuple #[.bool (fitsV (vP id c r m s G M) G L sh b), .int .i64 (fitsE (vP id c r m s G M) G L sh)]) ∧ Below w.heap.size w w' := by
  have b0 : Below w.heap.size w ((w.alloc (pcsObj id c r m s vg vm)).alloc (stObj sh b)) := ((Below.refl _ _).alloc (Nat.le_refl _) _).alloc (by simp) _
  obtain ⟨hp, hq⟩ := pcs_st w id c r m s vg vm sh b
  have CP := fun W (hb : Below w.heap.size w W) => refValidPiece_any id c r m s vg vm G M W (hG.keep hb) (hM.keep hb)
  have CO := fun W (hb : Below w.heap.size w W) => refOut_sl (hL.keep hb)
  obtain ⟨ag, gcap, hvg⟩ := hG.shape
  have CT := fun W => refSetting_any sh G.length b W
  have CF : vOut L = true → vset sh G.length = true → ∀ W, Below w.heap.size w W → Calls Tryz.prog 47 #[pcs id c r m s vg vm, pv, st sh b] W fun e w' => e = .returned (.bool (fitsV true G L sh b)) ∧ Below W.heap.size W w' := by
    intro hvo hvs W hb
    have hvs' := hvs
    simp only [vset, Bool.and_eq_true, decide_eq_true_eq] at hvs'
    obtain ⟨⟨⟨a1, a2⟩, a3⟩, a4⟩ := hvs'
    obtain ⟨k, rfl⟩ : ∃ k : Nat, sh = (k : Int) := ⟨sh.toNat, by omega⟩
    have := fits47_any id c r m s vg vm pv G L k b hvo (by omega) W (hG.keep hb) (hL.keep hb)
    unfold fitsV
    rw [hvs, hvo]
    simpa using this
  have HF := Lib.hid CF
  have hlen := Lib.hid (show G.length ≤ 9223372036854775807 by obtain ⟨_, _, -, h, -⟩ := hG; exact h)
  obtain ⟨W0, hW0⟩ : ∃ W0, (w.alloc (pcsObj id c r m s vg vm)).alloc (stObj sh b) = W0 := ⟨_, rfl⟩
  have g0 : W0.cell? ⟨w.heap.size, 0, none⟩ = some (.int .i64 id) := by rw [← hW0]; exact cell_of hp rfl
  have g1 : W0.cell? ⟨w.heap.size, 1, none⟩ = some (.int .i64 c) := by rw [← hW0]; exact cell_of hp rfl
  have g2 : W0.cell? ⟨w.heap.size, 2, none⟩ = some (.int .i64 r) := by rw [← hW0]; exact cell_of hp rfl
  have g3 : W0.cell? ⟨w.heap.size, 3, none⟩ = some (.int .i64 m) := by rw [← hW0]; exact cell_of hp rfl
  have g4 : W0.cell? ⟨w.heap.size, 4, none⟩ = some (.int .i64 s) := by rw [← hW0]; exact cell_of hp rfl
  have g5 : W0.cell? ⟨w.heap.size, 5, none⟩ = some vg := by rw [← hW0]; exact cell_of hp rfl
  have g6 : W0.cell? ⟨w.heap.size, 6, none⟩ = some vm := by rw [← hW0]; exact cell_of hp rfl
  have s0 : W0.cell? ⟨w.heap.size + 1, 0, none⟩ = some (.int .i64 sh) := by rw [← hW0]; exact cell_of hq rfl
  have s1 : W0.cell? ⟨w.heap.size + 1, 1, none⟩ = some (.bool b) := by rw [← hW0]; exact cell_of hq rfl
  rw [hW0] at b0 hp hq
  obtain ⟨pb, hpb⟩ : ∃ p, vP id c r m s G M = p := ⟨_, rfl⟩
  rw [hpb] at CP ⊢
  have CP0 := CP W0 b0
  have HE : Hid (fitsE pb G L sh = (if pb = true then (if vOut L = true then (if vset sh G.length = true then 0 else 1) else 1) else 30)) := Lib.hid (by
    unfold fitsE; cases pb <;> cases vOut L <;> cases vset sh G.length <;> rfl)
  have HV : Hid (fitsV pb G L sh b = (pb && (vOut L && (vset sh G.length && fitsV true G L sh b)))) := Lib.hid (by
    unfold fitsV; cases pb <;> cases vOut L <;> cases vset sh G.length <;> simp)
  rw [HE.out, HV.out]
  obtain ⟨ov, hov⟩ : ∃ o, vOut L = o := ⟨_, rfl⟩
  obtain ⟨sv, hsv⟩ : ∃ o, vset sh G.length = o := ⟨_, rfl⟩
  obtain ⟨fv, hfv⟩ : ∃ o, fitsV true G L sh b = o := ⟨_, rfl⟩
  rw [hov] at CO HF ⊢
  rw [hsv] at CT HF ⊢
  rw [hfv] at HF ⊢
  subst hvg
  clear hG hM hL hpb CF CP HE HV hov hsv hfv
  obtain ⟨n, hn⟩ : ∃ n, G.length = n := ⟨_, rfl⟩
  rw [hn] at CT hlen CP0 HF g5 hp hW0 ⊢
  clear hn
  have ret2 : ∀ (u v : Bool) (x y : Int) (w' : World), u = v → x = y → Below w.heap.size w w' → (Ending.returned (.tuple #[.bool u, .int .i64 x]) = .returned (.tuple #[.bool v, .int .i64 y])) ∧ Below w.heap.size w w' := fun u v x y w' h1 h2 h3 => ⟨by rw [h1, h2], h3⟩
  cases pb <;> cases ov <;> cases sv
  all_goals
    go_enter Tryz.func13, Tryz.ntmps13
    go_wp2_with (first
      | (go_at_call 35; with_reducible refine CP0.mono ?_; rintro e w1 ⟨rfl, hb1⟩
         have b1 := keep_below b0 hb1
         have g0 := keep_cell hb1 g0
         have g1 := keep_cell hb1 g1
         have g2 := keep_cell hb1 g2
         have g3 := keep_cell hb1 g3
         have g4 := keep_cell hb1 g4
         have g5 := keep_cell hb1 g5
         have g6 := keep_cell hb1 g6
         have s0 := keep_cell hb1 s0
         have s1 := keep_cell hb1 s1
         clear hW0 b0 hb1)
      | (go_at_call 29; with_reducible refine (CO _ b1).mono ?_; rintro e w2 ⟨rfl, hb2⟩
         have b1 := keep_below b1 hb2
         have g0 := keep_cell hb2 g0
         have g1 := keep_cell hb2 g1
         have g2 := keep_cell hb2 g2
         have g3 := keep_cell hb2 g3
         have g4 := keep_cell hb2 g4
         have g5 := keep_cell hb2 g5
         have g6 := keep_cell hb2 g6
         have s0 := keep_cell hb2 s0
         have s1 := keep_cell hb2 s1
         clear hb2)
      | (go_at_call 36; with_reducible refine (CT _).mono ?_; rintro e w3 ⟨rfl, hb3⟩
         have b1 := keep_below b1 hb3
         have g0 := keep_cell hb3 g0
         have g1 := keep_cell hb3 g1
         have g2 := keep_cell hb3 g2
         have g3 := keep_cell hb3 g3
         have g4 := keep_cell hb3 g4
         have g5 := keep_cell hb3 g5
         have g6 := keep_cell hb3 g6
         have s0 := keep_cell hb3 s0
         have s1 := keep_cell hb3 s1
         clear hb3)
      | (go_at_call 47; with_reducible refine (HF.out trivial trivial _ b1).mono ?_; rintro e w4 ⟨rfl, hb4⟩
         have b1 := keep_below b1 hb4
         clear hb4))
    go_ret2
    exact ret2 _ _ _ _ _ (by first | rfl | simp) rfl b1

end Go.Proofs.YtcfapbccegijnaaGreat

/- Walks: the reference's Settings. -/
namespace Go.Proofs.YtcfapbccegijnaaGreat
open Go Go.RowKit Go.Proofs Go.Abs

def fB (G : List G5) (L : List (Int × Int)) (p : Nat × Bool) : Bool := decide (G.length = L.length) && fitP G L L.length p.1 p.2

theorem fB_sets {G : List G5} {L : List (Int × Int)} (hv : vOut L = true) : (allS G.length).filter (fB G L) = setsV true G L := by
  unfold setsV fB
  by_cases hn : G.length = L.length
  · rw [if_pos ⟨rfl, hv, hn⟩, decide_eq_true hn, hn]
    simp
  · rw [if_neg (fun h => hn h.2.2), decide_eq_false hn]
    simp

def RefV (id c r m s : Int) (vg vm pv : Value) (ga q acap k sh : Nat) (b u : Bool) : Nat → Value → World → Prop
  | 0, v, _ => v = pcs id c r m s vg vm
  | 1, v, _ => v = pv
  | 2, v, _ => v = .slice (some ⟨ga, 0, none⟩) q acap
  | 3, v, _ => v = .int .i64 (k : Nat)
  | 4, v, _ => v = .pointer (some ⟨ga, k * 2, none⟩)
  | 5, v, _ => v = st (sh : Nat) b
  | _, v, _ => v = .bool u

theorem RefV.keep {id c r m s : Int} {vg vm pv : Value} {ga q acap k sh : Nat} {b u : Bool} : ∀ i v W W', RefV id c r m s vg vm pv ga q acap k sh b u i v W → Below W.heap.size W W' → RefV id c r m s vg vm pv ga q acap k sh b u i v W'
  | 0, _, _, _, h, _ => h
  | 1, _, _, _, h, _ => h
  | 2, _, _, _, h, _ => h
  | 3, _, _, _, h, _ => h
  | 4, _, _, _, h, _ => h
  | 5, _, _, _, h, _ => h
  | _ + 6, _, _, _, h, _ => h


set_option maxRecDepth 100000 in
set_option maxHeartbeats 8000000 in
theorem settings15_good (id c r m s : Int) (vg vm pv : Value) (G : List G5) (M : List M3) (L : List (Int × Int)) (w : World) (hG : SlG w vg G) (hM : SlM w vm M) (hL : SlV w pv L) (hpb : vP id c r m s G M = true) (hvo : vOut L = true) :
    Calls Tryz.prog 15 #[pcs id c r m s vg vm, pv] w fun e w' => ∃ v, e = .returned (.tuple #[v, .int .i64 0]) ∧ SetAt w' v (setsV true G L) ∧ Below w.heap.size w w' := by
  obtain ⟨i0, hi, hz0, hz1, hz2⟩ := info_parts info28
  have b0 : Below w.heap.size w (w.alloc (pcsObj id c r m s vg vm)) := (Below.refl _ _).alloc (Nat.le_refl _) _
  have hp := pcs_new w id c r m s vg vm
  have CV := refValidPiece_any id c r m s vg vm G M _ (hG.keep b0) (hM.keep b0)
  have CO := fun W (hb : Below w.heap.size w W) => refOut_sl (hL.keep hb)
  rw [hpb] at CV
  rw [hvo] at CO
  have hvG : vGs G = true := by
    unfold vP at hpb
    simp only [Bool.and_eq_true] at hpb
    exact hpb.1.2
  have hG24 := (vGs_ok hvG).2.1
  obtain ⟨ag, gcap, hvg⟩ := hG.shape
  have HCF : Hid (∀ (sh : Nat) (b : Bool) (_ : sh < G.length) W (_ : Below w.heap.size w W), Calls Tryz.prog 47 #[pcs id c r m s vg vm, pv, st sh b] W fun e w' => e = .returned (.bool (fB G L (sh, b))) ∧ Below W.heap.size W w') := Lib.hid (fun sh b hs W hb => fits47_any id c r m s vg vm pv G L sh b hvo hs W (hG.keep hb) (hL.keep hb))
  have HS := Lib.hid (fB_sets (G := G) hvo)
  obtain ⟨F, hF⟩ : ∃ F, setsV true G L = F := ⟨_, rfl⟩
  rw [hF] at HS ⊢
  have CA := fun W => refAll_any G.length hG24 W
  have AL : ∀ p ∈ allS G.length, p.1 < G.length := allS_lt
  have ALn := allS_len G.length
  obtain ⟨f, hf⟩ : ∃ f, fB G L = f := ⟨_, rfl⟩
  rw [hf] at HCF HS
  obtain ⟨n, hn⟩ : ∃ n, G.length = n := ⟨_, rfl⟩
  have hg3 := (vGs_ok hvG).1
  have hc5 : (w.alloc (pcsObj id c r m s vg vm)).cell? ⟨w.heap.size, 5, none⟩ = some vg := cell_of hp rfl
  subst hvg
  rw [hn] at HCF HS CA AL ALn hG24 hg3 CV b0 hp hc5 ⊢
  clear hG hM hL hpb hvo hvG hF hf hn
  obtain ⟨A, hA⟩ : ∃ A, allS n = A := ⟨_, rfl⟩
  rw [hA] at HS CA AL ALn
  have HA := Lib.hid AL
  clear AL hA
  go_enter Tryz.func15, Tryz.ntmps15
  go_wp2_with (first
    | (go_at_call 35; with_reducible refine CV.mono ?_; rintro e w1 ⟨rfl, hb1⟩
       have b1 := keep_below b0 hb1
       have hp := (hb1.block _ (Array.getElem?_eq_some_iff.1 hp).1).trans hp
       have hc5 := keep_cell hb1 hc5
       clear b0 hb1)
    | (go_at_call 29; with_reducible refine (CO _ b1).mono ?_; rintro e w2 ⟨rfl, hb2⟩
       have b2 := keep_below b1 hb2
       have hp := (hb2.block _ (Array.getElem?_eq_some_iff.1 hp).1).trans hp
       have hc5 := keep_cell hb2 hc5
       clear b1 hb2)
    | (go_at_call 49; with_reducible refine (CA _).mono ?_; rintro e w3 ⟨va, rfl, hown, hb3⟩
       have b3 := keep_below b2 hb3
       have hp := (hb3.block _ (Array.getElem?_eq_some_iff.1 hp).1).trans hp
       have sz3 := hb3.size
       have sz2 := b2.size
       clear hb3 hc5))
  obtain ⟨ga, acap, rfl⟩ := own_slice hown (by omega)
  have hgcell : ∀ k p, A[k]? = some p → w3.cell? ⟨ga, k * 2, none⟩ = some (.int .i64 (p.1 : Nat)) ∧ w3.cell? ⟨ga, k * 2 + 1, none⟩ = some (.bool p.2) := fun k p hp => own_set hown hp
  have HGC := Lib.hid hgcell
  clear hown hgcell
  obtain ⟨q, hq⟩ : ∃ q, A.length = q := ⟨_, rfl⟩
  have HQ := Lib.hid hq
  rw [hq] at ALn ⊢
  clear hq
  have hq48 : q ≤ 48 := by omega
  clear ALn
  go_wp2_with fail
  go_loopw [6, 8] (fun v i wr => ∃ k : Nat, k ≤ q ∧ i = .int .i64 k ∧ wr.ownsRow w3.heap.size 28 2 v ((A.take k).filter f).length (encS ((A.take k).filter f)) ∧ Below w3.heap.size w3 wr) (fun _ i _ => q - (intOf i).toNat)
  case atStart => exact ⟨0, Nat.zero_le _, rfl, World.ownsRow_nil _ _ _ _, Below.refl _ _⟩
  case round =>
    obtain ⟨k, hk, rfl, hown, hbel⟩ := hrel
    have hbw := keep_below b3 hbel
    have hp := (hbel.block _ (Array.getElem?_eq_some_iff.1 hp).1).trans hp
    by_cases hlt : k < q
    · have j1 : (k : Int) < (q : Int) := by omega
      obtain ⟨⟨sh, b⟩, hx⟩ : ∃ p, A[k]? = some p := ⟨_, List.getElem?_eq_getElem (by rw [HQ.out]; exact hlt)⟩
      have hsh : sh < n := HA.out (sh, b) (List.mem_of_getElem? hx)
      have hg0 := HGC.out k _ hx
      have hg := And.intro (keep_cell hbel hg0.1) (keep_cell hbel hg0.2)
      have HSUC := Lib.hid (kept_succ (q := f) hx)
      have hFl : ((A.take k).filter f).length ≤ k := Nat.le_trans (List.length_filter_le _ _) (by simp; omega)
      have CF := Lib.hid (fun W (hW : Below wr.heap.size wr W) => HCF.out sh b hsh W (keep_below hbw hW))
      obtain ⟨u, hu⟩ : ∃ u, f (sh, b) = u := ⟨_, rfl⟩
      rw [hu] at CF HSUC
      clear hx hg0 hu
      generalize (A.take k).filter f = K at hown hFl HSUC
      have HK := Lib.hid j1
      go_wp2_with fail
      refine wp_region_vals (RefV id c r m s (.slice ag n gcap) vm pv ga q acap k sh b u) (by kernel_rfl) (by kernel_rfl) RefV.keep ?_ ?_
      · intro i o ho a' W hW hfr hdep
        have f1 : a'.tmps[1]?.getD undef = pv := Array.getD_eq_getD_getElem?.symm.trans (hfr 1 rfl)
        have f2 : a'.tmps[2]?.getD undef = .pointer (some ⟨w.heap.size, 0, none⟩) := Array.getD_eq_getD_getElem?.symm.trans (hfr 2 rfl)
        have f7 : a'.tmps[7]?.getD undef = .slice (some ⟨ga, 0, none⟩) q acap := Array.getD_eq_getD_getElem?.symm.trans (hfr 7 rfl)
        have f8 : a'.tmps[8]?.getD undef = .int .i64 (k : Nat) := Array.getD_eq_getD_getElem?.symm.trans (hfr 8 rfl)
        replace hp := (hW.block _ (Array.getElem?_eq_some_iff.1 hp).1).trans hp
        replace hg := And.intro (keep_cell hW hg.1) (keep_cell hW hg.2)
        clear hfr
        have hi : i < 7 := by have := (List.getElem?_eq_some_iff.1 ho).1; simpa using this
        obtain rfl | rfl | rfl | rfl | rfl | rfl | rfl : i = 0 ∨ i = 1 ∨ i = 2 ∨ i = 3 ∨ i = 4 ∨ i = 5 ∨ i = 6 := by omega
        all_goals simp only [List.getElem?_cons_zero, List.getElem?_cons_succ, Option.some.injEq] at ho
        all_goals subst ho
        · have c0 : W.cell? ⟨w.heap.size, 0, none⟩ = some (.int .i64 id) := cell_of hp rfl
          have c1 : W.cell? ⟨w.heap.size, 1, none⟩ = some (.int .i64 c) := cell_of hp rfl
          have c2 : W.cell? ⟨w.heap.size, 2, none⟩ = some (.int .i64 r) := cell_of hp rfl
          have c3 : W.cell? ⟨w.heap.size, 3, none⟩ = some (.int .i64 m) := cell_of hp rfl
          have c4 : W.cell? ⟨w.heap.size, 4, none⟩ = some (.int .i64 s) := cell_of hp rfl
          have c5 : W.cell? ⟨w.heap.size, 5, none⟩ = some (.slice ag n gcap) := cell_of hp rfl
          have c6 : W.cell? ⟨w.heap.size, 6, none⟩ = some vm := cell_of hp rfl
          clear hdep hp hg
          refine .inl ⟨_, W, ?_, Below.refl _ _, rfl⟩
          go_simp
        · clear hdep hp hg
          refine .inl ⟨_, W, ?_, Below.refl _ _, rfl⟩
          go_simp
        · clear hdep hp hg
          refine .inl ⟨_, W, ?_, Below.refl _ _, rfl⟩
          go_simp
        · clear hdep hp hg
          refine .inl ⟨_, W, ?_, Below.refl _ _, rfl⟩
          go_simp
        · have d2 : a'.tmps[27]?.getD undef = .slice (some ⟨ga, 0, none⟩) q acap := Array.getD_eq_getD_getElem?.symm.trans (hdep ⟨2, .data⟩ (by simp) rfl 27 rfl)
          have d3 : a'.tmps[28]?.getD undef = .int .i64 (k : Nat) := Array.getD_eq_getD_getElem?.symm.trans (hdep ⟨3, .data⟩ (by simp) rfl 28 rfl)
          have i1 : (k : Int) < (q : Int) := HK.out
          clear hdep hp hg
          refine .inl ⟨_, W, ?_, Below.refl _ _, rfl⟩
          go_simp
        · have d4 : a'.tmps[29]?.getD undef = .pointer (some ⟨ga, k * 2, none⟩) := Array.getD_eq_getD_getElem?.symm.trans (hdep ⟨4, .data⟩ (by simp) rfl 29 rfl)
          have c0 : W.cell? ⟨ga, k * 2, none⟩ = some (.int .i64 (sh : Nat)) := hg.1
          have c1 : W.cell? ⟨ga, k * 2 + 1, none⟩ = some (.bool b) := hg.2
          clear hdep hp hg
          refine .inl ⟨_, W, ?_, Below.refl _ _, rfl⟩
          go_simp
        · have d0 : a'.tmps[25]?.getD undef = pcs id c r m s (.slice ag n gcap) vm := Array.getD_eq_getD_getElem?.symm.trans (hdep ⟨0, .data⟩ (by simp) rfl 25 rfl)
          have d1 : a'.tmps[26]?.getD undef = pv := Array.getD_eq_getD_getElem?.symm.trans (hdep ⟨1, .data⟩ (by simp) rfl 26 rfl)
          have d5 : a'.tmps[30]?.getD undef = st (sh : Nat) b := Array.getD_eq_getD_getElem?.symm.trans (hdep ⟨5, .data⟩ (by simp) rfl 30 rfl)
          clear hdep hp hg
          refine .inr ⟨47, #[pcs id c r m s (.slice ag n gcap) vm, pv, st (sh : Nat) b], W, ?_, Below.refl _ _, (CF.out W hW).mono ?_⟩
          · go_simp
          · rintro e W' ⟨rfl, hb⟩
            exact ⟨_, rfl, hb, rfl⟩
      · intro W hW
        have hbel2 := keep_below hbel hW
        have hown2 := own_keep hown hW
        have hgw := And.intro (keep_cell hW hg.1) (keep_cell hW hg.2)
        have hpW := (hW.block _ (Array.getElem?_eq_some_iff.1 hp).1).trans hp
        clear CF hp hg hW hown hbel hbw HGC
        simp only [List.map_cons, List.map_nil, VQ]
        rintro _ rfl _ rfl _ rfl _ rfl _ rfl _ rfl _ rfl
        simp only [List.setIfInBounds_toArray, List.set_cons_zero, List.set_cons_succ]
        have sz := hbel2.size
        cases u
        · go_wp2
          refine ⟨⟨k + 1, by omega, by simp, ?_, hbel2⟩, by simp [intOf]; omega⟩
          rw [HSUC.out]
          simpa using hown2
        · obtain ⟨x0, x1⟩ := hgw
          go_wp2_with (at_builtin; refine wpList_append_own _ rfl _ _ 34 rfl w3.heap.size 28 i0 (.agg #[.int .i64 0, .bool false]) 2 16 Tryz.underlying34 hi hz0 hz1 hz2 rfl (by decide) _ _ _ rfl (hown2.alloc _) _ 1 1 [.int .i64 sh, .bool b] rfl rfl (st_two_new _ _ _) (st_two_cells _ _) (by unfold maxLen; omega) (by first | omega | (simp; done) | (simp; omega)) (by simp; omega) ?_; intro v1 w6 hown6 hgrow6 hnil6)
          have bel6 := (hbel2.alloc sz (stObj sh b)).grown hgrow6 (by simp; omega) (fun j hj => (hown2.lt j hj).1)
          refine ⟨⟨k + 1, by omega, by simp, ?_, bel6⟩, by simp [intOf]; omega⟩
          rw [HSUC.out, if_pos rfl, encS_snoc]
          simpa using hown6
    · obtain rfl : k = q := by omega
      go_wp2
      go_ret2
      have e : (A.take k).filter f = F := by rw [List.take_of_length_le (by rw [HQ.out]; omega)]; exact HS.out
      rw [e] at hown
      exact ⟨_, rfl, setAt_own hown, hbw⟩

theorem settings15_any (id c r m s : Int) (vg vm pv : Value) (G : List G5) (M : List M3) (L : List (Int × Int)) (w : World) (hG : SlG w vg G) (hM : SlM w vm M) (hL : SlV w pv L) :
    Calls Tryz.prog 15 #[pcs id c r m s vg vm, pv] w fun e w' => ∃ v, e = .returned (.tuple #[v, .int .i64 (setsE (vP id c r m s G M) L)]) ∧ SetAt w' v (setsV (vP id c r m s G M) G L) ∧ Below w.heap.size w w' := by
  cases hpb : vP id c r m s G M
  · have b0 : Below w.heap.size w (w.alloc (pcsObj id c r m s vg vm)) := (Below.refl _ _).alloc (Nat.le_refl _) _
    have hp := pcs_new w id c r m s vg vm
    have CV := refValidPiece_any id c r m s vg vm G M _ (hG.keep b0) (hM.keep b0)
    rw [hpb] at CV
    have e1 : setsV false G L = [] := by unfold setsV; simp
    have e2 : setsE false L = 30 := by unfold setsE; simp
    rw [e1, e2]
    clear hG hM hL hpb e1 e2
    go_enter Tryz.func15, Tryz.ntmps15
    go_wp2_with (first
      | (go_at_call 35; with_reducible refine CV.mono ?_; rintro e w1 ⟨rfl, hb1⟩
         have b1 := keep_below b0 hb1
         clear b0 hb1))
    go_ret2
    exact ⟨_, rfl, .inl ⟨rfl, rfl⟩, b1⟩
  · cases hvo : vOut L
    · have b0 : Below w.heap.size w (w.alloc (pcsObj id c r m s vg vm)) := (Below.refl _ _).alloc (Nat.le_refl _) _
      have hp := pcs_new w id c r m s vg vm
      have CV := refValidPiece_any id c r m s vg vm G M _ (hG.keep b0) (hM.keep b0)
      have CO := fun W (hb : Below w.heap.size w W) => refOut_sl (hL.keep hb)
      rw [hpb] at CV
      rw [hvo] at CO
      have e1 : setsV true G L = [] := by unfold setsV; simp [hvo]
      have e2 : setsE true L = 1 := by unfold setsE; simp [hvo]
      rw [e1, e2]
      clear hG hM hL hpb e1 e2 hvo
      go_enter Tryz.func15, Tryz.ntmps15
      go_wp2_with (first
        | (go_at_call 35; with_reducible refine CV.mono ?_; rintro e w1 ⟨rfl, hb1⟩
           have b1 := keep_below b0 hb1
           clear b0 hb1)
        | (go_at_call 29; with_reducible refine (CO _ b1).mono ?_; rintro e w2 ⟨rfl, hb2⟩
           have b2 := keep_below b1 hb2
           clear hb2))
      go_ret2
      exact ⟨_, rfl, .inl ⟨rfl, rfl⟩, b2⟩
    · have e2 : setsE true L = 0 := by unfold setsE; simp [hvo]
      rw [e2]
      exact settings15_good id c r m s vg vm pv G M L w hG hM hL hpb hvo

end Go.Proofs.YtcfapbccegijnaaGreat
