/- The abstract machine, part LM. -/
import Derived.Test.YtcfapbccegijnaaGreatLL
import Derived.Test.YtcfapbccegijnaaGreatLF
import Derived.Test.YtcfapbccegijnaaGreatLA
import Derived.Laws.AppendOwn
import Derived.Test.YtcfapbccegijnaaGreatAbsC
import Derived.RegionTactic
/- Walks: lists of settings: of the program and of the reference, and equal ones. -/
namespace Go.Proofs.YtcfapbccegijnaaGreat
open Go Go.RowKit Go.Proofs

theorem info28 : (Tryz.prog.info? 28).map (fun i => (i.zero, i.size, i.bytes)) = some (some (.agg #[.int .i64 0, .bool false]), 2, 16) := by kernel_rfl

def encS (L : List (Nat × Bool)) : List Value := L.flatMap fun p => [.int .i64 p.1, .bool p.2]

theorem encS_snoc (L : List (Nat × Bool)) (s : Nat) (b : Bool) : encS (L ++ [(s, b)]) = encS L ++ [.int .i64 s, .bool b] := by simp [encS]

theorem st_two_new (w : World) (s : Int) (b : Bool) : ∀ j u, [Value.int .i64 s, .bool b][j]? = some u → (w.alloc (stObj s b)).cell? ((⟨w.heap.size, 0, none⟩ : Addr).add j) = some u := by
  intro j u h
  match j, h with
  | 0, h => simp at h; subst h; simp [Addr.add]
  | 1, h => simp at h; subst h; simp [Addr.add]
  | j + 2, h => simp at h

theorem st_two_cells (s : Int) (b : Bool) : ∀ u ∈ [Value.int .i64 s, .bool b], u.oneCell' = true := by
  intro u hu
  simp at hu
  rcases hu with rfl | rfl <;> rfl

/-- All settings up to shift k, by shift, without back first. -/
def allS (k : Nat) : List (Nat × Bool) := (List.range k).flatMap fun s => [(s, false), (s, true)]

theorem allS_succ (k : Nat) : allS (k + 1) = allS k ++ [(k, false), (k, true)] := by simp [allS, List.range_succ]

theorem allS_len (k : Nat) : (allS k).length = 2 * k := by
  induction k with
  | zero => rfl
  | succ k ih => rw [allS_succ]; simp [ih]; omega

theorem own_slice {W : World} {base : Nat} {e : TypeId} {size : Nat} {v : Value} {n : Nat} {xs : List Value} (h : W.ownsRow base e size v n xs) (hn : 0 < n) : ∃ g cap, v = .slice (some ⟨g, 0, none⟩) n cap := by
  obtain ⟨m, rfl⟩ : ∃ m, n = m + 1 := ⟨n - 1, by omega⟩
  exact ownsRow_succ h

set_option maxRecDepth 100000 in
set_option maxHeartbeats 4000000 in
theorem refAll_any (n : Nat) (hn : n ≤ 24) (w : World) :
    Calls Tryz.prog 49 #[.int .i64 n] w fun e w' => ∃ v, e = .returned v ∧ w'.ownsRow w.heap.size 28 2 v (allS n).length (encS (allS n)) ∧ Below w.heap.size w w' := by
  obtain ⟨i0, hi, hz0, hz1, hz2⟩ := info_parts info28
  go_enter Tryz.func49, Tryz.ntmps49
  go_wp2_with fail
  go_loopw [3, 4] (fun v i wr => ∃ k : Nat, k ≤ n ∧ i = .int .i64 k ∧ wr.ownsRow w.heap.size 28 2 v (allS k).length (encS (allS k)) ∧ Below w.heap.size w wr) (fun _ i _ => n - (intOf i).toNat)
  case atStart => exact ⟨0, Nat.zero_le _, rfl, World.ownsRow_nil _ _ _ _, Below.refl _ _⟩
  case round =>
    obtain ⟨k, hk, rfl, hown, hbel⟩ := hrel
    by_cases hlt : k < n
    · have j1 : (k : Int) < (n : Int) := by omega
      have hl := allS_len k
      have hs := allS_succ k
      generalize allS k = L at hown hl hs
      have HS := Lib.hid hs
      clear hs
      go_wp2_with (first
        | (at_builtin; refine wpList_append_own _ rfl _ _ 34 rfl w.heap.size 28 i0 (.agg #[.int .i64 0, .bool false]) 2 16 Tryz.underlying34 hi hz0 hz1 hz2 rfl (by decide) _ _ _ rfl (hown6.alloc _) _ 1 1 [.int .i64 k, .bool true] rfl rfl (st_two_new _ _ _) (st_two_cells _ _) (by unfold maxLen; omega) (by first | omega | (simp; done) | (simp; omega)) (by have := bel6.size; simp; omega) ?_; intro v1 w7 hown7 hgrow7 hnil7)
        | (at_builtin; refine wpList_append_own _ rfl _ _ 34 rfl w.heap.size 28 i0 (.agg #[.int .i64 0, .bool false]) 2 16 Tryz.underlying34 hi hz0 hz1 hz2 rfl (by decide) _ _ _ rfl (hown.alloc _) _ 1 1 [.int .i64 k, .bool false] rfl rfl (st_two_new _ _ _) (st_two_cells _ _) (by unfold maxLen; omega) (by first | omega | (simp; done) | (simp; omega)) (by have := hbel.size; simp; omega) ?_; intro v1 w6 hown6 hgrow6 hnil6; have bel6 := (hbel.alloc hbel.size (stObj k false)).grown hgrow6 (by have := hbel.size; simp; omega) (fun j hj => (hown.lt j hj).1)))
      have bel7 := (bel6.alloc bel6.size (stObj k true)).grown hgrow7 (by have := bel6.size; simp; omega) (fun j hj => (hown6.lt j hj).1)
      refine ⟨⟨k + 1, by omega, by simp, ?_, bel7⟩, by simp [intOf]; omega⟩
      rw [HS.out]
      have e : encS (L ++ [(k, false), (k, true)]) = encS L ++ [.int .i64 k, .bool false] ++ [.int .i64 k, .bool true] := by simp [encS]
      rw [e]
      simpa using hown7
    · obtain rfl : k = n := by omega
      go_wp2
      go_ret
      exact ⟨_, rfl, hown, hbel⟩

theorem run_st_eql (a c : Int) (b d : Bool) (w : World) : (binOp .eql 28 (st a b) (st c d)).run Tryz.prog w = .ok (.bool (a == c && b == d)) w := by
  by_cases h1 : a = c <;> by_cases h2 : b = d <;> go_simp

theorem encS_get : ∀ (L : List (Nat × Bool)) (i : Nat) (p : Nat × Bool), L[i]? = some p → (encS L)[i * 2]? = some (.int .i64 p.1) ∧ (encS L)[i * 2 + 1]? = some (.bool p.2)
  | [], i, p, h => by simp at h
  | q :: L, 0, p, h => by simp at h; subst h; simp [encS]
  | q :: L, i + 1, p, h => by
    have ih := encS_get L i p (by simpa using h)
    have e : encS (q :: L) = .int .i64 q.1 :: .bool q.2 :: encS L := by simp [encS]
    rw [e, show (i + 1) * 2 = i * 2 + 1 + 1 by omega]
    simpa using ih

theorem own_set {W : World} {base g cap : Nat} {L : List (Nat × Bool)} (h : W.ownsRow base 28 2 (.slice (some ⟨g, 0, none⟩) L.length cap) L.length (encS L)) {i : Nat} {p : Nat × Bool} (hp : L[i]? = some p) :
    W.cell? ⟨g, i * 2, none⟩ = some (.int .i64 p.1) ∧ W.cell? ⟨g, i * 2 + 1, none⟩ = some (.bool p.2) := by
  have hi : i < L.length := (List.getElem?_eq_some_iff.1 hp).1
  have e := encS_get L i p hp
  exact ⟨(h.cellAt _ (by omega)).trans e.1, (h.cellAt _ (by omega)).trans e.2⟩

set_option maxRecDepth 100000 in
set_option maxHeartbeats 2000000 in
theorem among_any {L : List (Nat × Bool)} {base : Nat} {v : Value} (w : World) (h : w.ownsRow base 28 2 v L.length (encS L)) (hl : L.length ≤ 1000) (s : Nat) (b : Bool) (hm : (s, b) ∈ L) :
    Calls Tryz.prog 34 #[v, st s b] w fun e w' => e = .returned (.bool true) ∧ Below w.heap.size w w' := by
  obtain ⟨g, cap, rfl⟩ := own_slice h (List.length_pos_of_mem hm)
  obtain ⟨q, hq, hqe⟩ := List.getElem_of_mem hm
  have hx : ∀ i p, L[i]? = some p → w.cell? ⟨g, i * 2, none⟩ = some (.int .i64 p.1) ∧ w.cell? ⟨g, i * 2 + 1, none⟩ = some (.bool p.2) := fun i p hp => own_set h hp
  have HX := Lib.hid hx
  have hqe' : L[q]? = some (s, b) := List.getElem?_eq_some_iff.2 ⟨hq, hqe⟩
  clear h hx hm hqe
  have n0 := st_new w s b
  have B0 : Below w.heap.size w (w.alloc (stObj s b)) := (Below.refl _ _).alloc (Nat.le_refl _) _
  obtain ⟨n, hn⟩ : ∃ n, L.length = n := ⟨_, rfl⟩
  have HLn := Lib.hid hn
  rw [hn] at hl hq ⊢
  clear hn
  go_enter Tryz.func34, Tryz.ntmps34
  go_wp2_with fail
  go_loopw [5] (fun i wr => ∃ k : Nat, k ≤ q ∧ i = .int .i64 k ∧ Below (w.alloc (stObj s b)).heap.size (w.alloc (stObj s b)) wr) (fun i _ => n - (intOf i).toNat)
  case atStart => exact ⟨0, Nat.zero_le _, rfl, Below.refl _ _⟩
  case round =>
    obtain ⟨k, hk, rfl, hbel⟩ := hrel
    have j1 : (k : Int) < (n : Int) := by omega
    obtain ⟨⟨t, c⟩, hp⟩ : ∃ p, L[k]? = some p := ⟨_, List.getElem?_eq_getElem (by rw [HLn.out]; omega)⟩
    have a0 := keep_cell2 (keep_below B0 hbel) (HX.out k _ hp).1
    have a1 := keep_cell2 (keep_below B0 hbel) (HX.out k _ hp).2
    have s0 := keep_cell2 hbel n0.1
    have s1 := keep_cell2 hbel n0.2
    have HK : Hid (k = q → t = s ∧ c = b) := Lib.hid (fun e => by
      subst e
      rw [hp] at hqe'
      simpa using hqe')
    have bel := keep_below B0 hbel
    clear hp
    go_wp2_with fail
    have G0 := grow_cell a0
    have G1 := grow_cell a1
    have G2 := grow_cell s0
    have G3 := grow_cell s1
    have hq := run_st_eql
    refine wp_region_grow (by kernel_rfl) (by kernel_rfl) ?_
    repeat (go_big_quiet_step (fail))
    refine wpQuiet_nil ?_
    rintro w4 ⟨z, hz⟩
    have hb : Below wr.heap.size wr w4 := by rw [hz]; exact z.b
    clear hz z G0 G1 G2 G3 a0 a1 s0 s1 hq
    have bel4 := keep_below bel hb
    replace hbel := keep_below hbel hb
    clear hb
    by_cases hts : t = s ∧ c = b
    · obtain ⟨rfl, rfl⟩ := hts
      go_wp2
      all_goals first
        | (exfalso; simp_all; done)
        | (go_ret; exact ⟨rfl, bel4⟩)
    · have hkq : k ≠ q := fun e => hts (HK.out e)
      have e1 : ((t : Int) == (s : Int) && c == b) = false := by
        rw [Bool.and_eq_false_iff]
        by_cases h : t = s
        · exact .inr (by simpa using fun h2 => hts ⟨h, h2⟩)
        · exact .inl (by simpa using fun h2 => h (by omega))
      rw [e1]
      clear e1 hts HK
      go_wp2
      exact ⟨⟨k + 1, by omega, by simp, hbel⟩, by simp [intOf]; omega⟩

theorem own_shape {W : World} {base : Nat} {e : TypeId} {size : Nat} {v : Value} {n : Nat} {xs : List Value} (h : W.ownsRow base e size v n xs) : ∃ a cap, v = .slice a n cap := by
  rcases h.2 with ⟨rfl, rfl⟩ | ⟨g, cap, cur, rfl, _⟩
  · exact ⟨_, _, rfl⟩
  · exact ⟨_, _, rfl⟩

theorem own_pos {W : World} {base : Nat} {a : Option Addr} {cap : Nat} {L : List (Nat × Bool)} (h : W.ownsRow base 28 2 (.slice a L.length cap) L.length (encS L)) {i : Nat} {p : Nat × Bool} (hp : L[i]? = some p) :
    ∃ g, a = some ⟨g, 0, none⟩ ∧ W.cell? ⟨g, i * 2, none⟩ = some (.int .i64 p.1) ∧ W.cell? ⟨g, i * 2 + 1, none⟩ = some (.bool p.2) := by
  have hi : i < L.length := (List.getElem?_eq_some_iff.1 hp).1
  obtain ⟨g, cap', e⟩ := own_slice h (by omega)
  simp only [Value.slice.injEq] at e
  obtain ⟨rfl, _, rfl⟩ := e
  exact ⟨g, rfl, own_set h hp⟩

theorem run_st_neq (a : Int) (b : Bool) (w : World) : (binOp .neq 28 (st a b) (st a b)).run Tryz.prog w = .ok (.bool false) w := by
  go_simp

set_option maxRecDepth 100000 in
set_option maxHeartbeats 2000000 in
theorem sameSet_any {L : List (Nat × Bool)} {b1 b2 : Nat} {v1 v2 : Value} (w : World) (h1 : w.ownsRow b1 28 2 v1 L.length (encS L)) (h2 : w.ownsRow b2 28 2 v2 L.length (encS L)) (hl : L.length ≤ 1000) :
    Calls Tryz.prog 16 #[v1, v2] w fun e w' => e = .returned (.bool true) ∧ Below w.heap.size w w' := by
  obtain ⟨a1, c1, rfl⟩ := own_shape h1
  obtain ⟨a2, c2, rfl⟩ := own_shape h2
  have H1 := Lib.hid h1
  have H2 := Lib.hid h2
  clear h1 h2
  go_enter Tryz.func16, Tryz.ntmps16
  go_wp2_with fail
  go_loopw [5] (fun i wr => ∃ k : Nat, k ≤ L.length ∧ i = .int .i64 k ∧ Below w.heap.size w wr) (fun i _ => L.length - (intOf i).toNat)
  case atStart => exact ⟨0, Nat.zero_le _, rfl, Below.refl _ _⟩
  case round =>
    obtain ⟨k, hk, rfl, hbel⟩ := hrel
    by_cases hlt : k < L.length
    · have j1 : (k : Int) < (L.length : Int) := by omega
      obtain ⟨⟨s, b⟩, hp⟩ : ∃ p, L[k]? = some p := ⟨_, List.getElem?_eq_getElem hlt⟩
      obtain ⟨g1, rfl, x0, x1⟩ := own_pos (own_keep H1.out hbel) hp
      obtain ⟨g2, rfl, y0, y1⟩ := own_pos (own_keep H2.out hbel) hp
      clear hp
      go_wp2_with fail
      have G0 := grow_cell x0
      have G1 := grow_cell x1
      have G2 := grow_cell y0
      have G3 := grow_cell y1
      have hq := run_st_neq
      refine wp_region_grow (by kernel_rfl) (by kernel_rfl) ?_
      repeat (go_big_quiet_step (fail))
      refine wpQuiet_nil ?_
      rintro w4 ⟨z, hz⟩
      have hb : Below wr.heap.size wr w4 := by rw [hz]; exact z.b
      clear hz z G0 G1 G2 G3 x0 x1 y0 y1 hq
      have bel4 := keep_below hbel hb
      clear hb
      go_wp2
      exact ⟨⟨k + 1, by omega, by simp, bel4⟩, by simp [intOf]; omega⟩
    · obtain rfl : k = L.length := by omega
      go_wp2
      go_ret
      exact ⟨rfl, hbel⟩

end Go.Proofs.YtcfapbccegijnaaGreat

/- A region that draws its order, its operations told one by one: what each yields depends on what it waits for alone, and what it makes lies above. -/
namespace Go.Abs
open Go Go.RowKit

variable {P : Program} {md : Region.Mode} {ops : Array Oper} {Q : Exit → Act → World → Prop}

theorem wpAny_invV (Inv : Array Bool → Act → World → Prop)
    (hstep : ∀ listed a w i, listed.size = ops.size → Inv listed a w → i ∈ Region.ready md ops listed → wpOp P ops Q i (Inv (listed.setIfInBounds i true)) a w)
    (hdone : ∀ listed a w, Inv listed a w → Region.ready md ops listed = [] → Q .normal a w) :
    ∀ (fuel : Nat) (listed : Array Bool) (a : Act) (w : World), listed.size = ops.size → listed.toList.countP (fun b => !b) ≤ fuel → Inv listed a w → wpAny P md ops Q fuel listed a w := by
  intro fuel
  induction fuel with
  | zero =>
    intro listed a w hs hc hi
    have hr : Region.ready md ops listed = [] := by
      rw [List.eq_nil_iff_forall_not_mem]
      intro i h
      obtain ⟨hl, o, ho, -⟩ := mem_ready.1 h
      have hlt : i < listed.size := by rw [hs]; exact (Array.getElem?_eq_some_iff.1 ho).1
      have h0 : listed.toList.countP (fun b => !b) = 0 := by omega
      rw [List.countP_eq_zero] at h0
      have := h0 (listed[i]) (by simp)
      simp [Array.getD_eq_getD_getElem?, hlt] at hl
      simp [hl] at this
    exact ⟨hr, hdone listed a w hi hr⟩
  | succ fuel ih =>
    intro listed a w hs hc hi
    refine ⟨hdone listed a w hi, fun i h => ?_⟩
    refine wpOp_mono (fun a' w' hi' => ih _ a' w' (by simpa using hs) ?_ hi') (hstep listed a w i hs hi h)
    obtain ⟨hl, o, ho, -⟩ := mem_ready.1 h
    have hlt : i < listed.size := by rw [hs]; exact (Array.getElem?_eq_some_iff.1 ho).1
    have hl' : listed.toList[i]'(by simpa using hlt) = false := by simpa [Array.getD_eq_getD_getElem?, hlt] using hl
    rw [Array.toList_setIfInBounds, List.countP_set]
    · simp only [Bool.not_true, Bool.false_eq_true, if_false, hl', Bool.not_false, if_true]
      omega
    · simpa using hlt


/-- An operation ends with a value, or calls what returns one; it leaves what was there. -/
def StepsTo (P : Program) (c : Sem Next) (W : World) (R : Value → World → Prop) : Prop :=
  (∃ v W', c.run P W = .ok (.value v) W' ∧ Below W.heap.size W W' ∧ R v W') ∨
  (∃ f args W', c.run P W = .ok (.enter f args) W' ∧ Below W.heap.size W W' ∧ Calls P f args W' fun e W'' => ∃ v, e = .returned v ∧ Below W'.heap.size W' W'' ∧ R v W'')

/-- No guard; each writes a slot of its own. -/
def valsB (size : Nat) (l : List Oper) : Bool :=
  (l.all fun o => o.guard.isNone && (match o.dst with | none => false | some d => decide (d < size))) &&
  ((List.range l.length).all fun i => (List.range l.length).all fun j => i == j || !(dstOf l.toArray i == dstOf l.toArray j)) &&
  ((List.range l.length).all fun i => match l[i]? with
    | none => true
    | some o => o.after.toList.all fun e => !Region.binds .any e || decide (e.on < i))

structure VInv (Val : Nat → Value → World → Prop) (l : List Oper) (a : Act) (w : World) (listed : Array Bool) (a' : Act) (W : World) : Prop where
  len : a'.tmps.size = a.tmps.size
  defers : a'.defers = a.defers
  below : Below w.heap.size w W
  vals : ∀ i d, isIn listed i = true → dstOf l.toArray i = some d → Val i (a'.tmps.getD d undef) W
  rest : ∀ t, (∀ i, isIn listed i = true → dstOf l.toArray i ≠ some t) → a'.tmps[t]? = a.tmps[t]?

/-- All values that the operations from i on may yield, one after the other. -/
def VQ (Val : Nat → Value → World → Prop) (W : World) (Q : Array Value → Prop) : Nat → List (Option Nat) → Array Value → Prop
  | _, [], tm => Q tm
  | i, none :: ds, tm => VQ Val W Q (i + 1) ds tm
  | i, some d :: ds, tm => ∀ v, Val i v W → VQ Val W Q (i + 1) ds (tm.setIfInBounds d v)

theorem VQ.get {Val : Nat → Value → World → Prop} {W : World} {Q : Array Value → Prop} {tm' : Array Value} :
    ∀ (ds : List (Option Nat)) (i : Nat) (tm : Array Value), VQ Val W Q i ds tm → tm.size = tm'.size →
      (∀ j d, ds[j]? = some (some d) → d < tm'.size ∧ Val (i + j) (tm'.getD d undef) W) → (∀ t, (∀ j : Nat, ds[j]? ≠ some (some t)) → tm'[t]? = tm[t]?) → Q tm'
  | [], i, tm, h, hs, h1, h2 => by
    have e : tm' = tm := by
      apply Array.ext_getElem?
      intro t
      exact h2 t (fun j e => by simp at e)
    rw [e]; exact h
  | none :: ds, i, tm, h, hs, h1, h2 => by
    refine VQ.get ds (i + 1) tm h hs (fun j d hj => ?_) (fun t ht => h2 t (fun j hj => ?_))
    · have := h1 (j + 1) d (by simpa using hj)
      rwa [show i + 1 + j = i + (j + 1) by omega]
    · cases j with
      | zero => simp at hj
      | succ j => exact ht j (by simpa using hj)
  | some d :: ds, i, tm, h, hs, h1, h2 => by
    obtain ⟨hd, hv⟩ := h1 0 d rfl
    refine VQ.get ds (i + 1) _ (h _ hv) (by simpa using hs) (fun j d' hj => ?_) (fun t ht => ?_)
    · have := h1 (j + 1) d' (by simpa using hj)
      rwa [show i + 1 + j = i + (j + 1) by omega]
    · by_cases e : d = t
      · subst e
        rw [Array.getElem?_setIfInBounds_self_of_lt (by omega), Array.getElem?_eq_getElem hd, Array.getD_eq_getD_getElem?, Array.getElem?_eq_getElem hd]
        rfl
      · rw [Array.getElem?_setIfInBounds_ne e]
        refine h2 t (fun j hj => ?_)
        cases j with
        | zero => simp at hj; exact e hj
        | succ j => exact ht j (by simpa using hj)

theorem wp_region_vals {id : Nat} {l : List Oper} {a : Act} {w : World} (Val : Nat → Value → World → Prop) (hm : P.follows .mixedOrders = true) (hB : valsB a.tmps.size l = true)
    (hst : ∀ i v W W', Val i v W → Below W.heap.size W W' → Val i v W')
    (hstep : ∀ i o, l[i]? = some o → ∀ (a' : Act) W, Below w.heap.size w W → (∀ t, (l.map (·.dst)).contains (some t) = false → a'.eval (.tmp t) = a.eval (.tmp t)) →
      (∀ e ∈ o.after.toList, Region.binds .any e = true → ∀ d, dstOf l.toArray e.on = some d → Val e.on (a'.eval (.tmp d)) W) → StepsTo P (execOp a'.eval o) W (Val i))
    (hQ : ∀ W, Below w.heap.size w W → VQ Val W (fun tm => Q .normal { a with tmps := tm } W) 0 (l.map (·.dst)) a.tmps) :
    (Code.region id l.toArray true).wp P Q a w := by
  unfold valsB at hB
  simp only [Bool.and_eq_true, List.all_eq_true, List.mem_range, Bool.or_eq_true, beq_iff_eq, Bool.not_eq_true', Option.isNone_iff_eq_none] at hB
  obtain ⟨⟨hB1, hB2⟩, hB3⟩ := hB
  have hd : ∀ i o, l[i]? = some o → ∃ d, o.dst = some d ∧ d < a.tmps.size ∧ o.guard = none ∧ dstOf l.toArray i = some d := by
    intro i o ho
    obtain ⟨h1, h2⟩ := hB1 o (List.mem_of_getElem? ho)
    cases hdo : o.dst with
    | none => rw [hdo] at h2; cases h2
    | some d =>
      rw [hdo] at h2
      refine ⟨d, rfl, by simpa using h2, h1, ?_⟩
      unfold dstOf
      simp [ho, hdo]
  have hdi : ∀ i d, dstOf l.toArray i = some d → ∃ o, l[i]? = some o ∧ o.dst = some d := by
    intro i d h
    unfold dstOf at h
    cases ho : l[i]? with
    | none => simp [ho] at h
    | some o => exact ⟨o, rfl, by simpa [ho] using h⟩
  have hne : ∀ i j d, dstOf l.toArray i = some d → dstOf l.toArray j = some d → i = j := by
    intro i j d h1 h2
    obtain ⟨o1, g1, -⟩ := hdi i d h1
    obtain ⟨o2, g2, -⟩ := hdi j d h2
    rcases hB2 i (List.getElem?_eq_some_iff.1 g1).1 j (List.getElem?_eq_some_iff.1 g2).1 with e | e
    · exact e
    · rw [h1, h2] at e
      simp at e
  refine wp_region_any hm (wpAny_invV (fun L a' W => L.size = l.length ∧ VInv Val l a w L a' W) ?_ ?_ _ _ _ _ (by simp) ?_ ?_)
  · rintro listed a' W i hsz ⟨hls, hi⟩ hr
    obtain ⟨hun, o, ho, hdep⟩ := mem_ready.1 hr
    have ho' : l[i]? = some o := by simpa using ho
    obtain ⟨d, hdo, hds, hgu, hdst⟩ := hd i o ho'
    have hil : i < listed.size := by rw [hsz]; exact (Array.getElem?_eq_some_iff.1 ho).1
    have hfresh : isIn listed i = false := by
      unfold isIn
      rw [Array.getD_eq_getD_getElem?, Array.getElem?_eq_getElem hil] at hun ⊢
      simpa using hun
    have next : ∀ v W', Below W.heap.size W W' → Val i v W' → VInv Val l a w (listed.setIfInBounds i true) (a'.put o.dst v) W' := by
      intro v W' hW' hv
      rw [hdo]
      have hlen : d < a'.tmps.size := by rw [hi.len]; exact hds
      refine ⟨by simp [Act.put, hi.len], hi.defers, hi.below.trans (hW'.mono hi.below.size), fun j dj hj hdj => ?_, fun t ht => ?_⟩
      · show Val j ((a'.tmps.setIfInBounds d v).getD dj undef) W'
        by_cases hji : j = i
        · subst hji
          rw [hdst] at hdj
          cases hdj
          rw [Array.getD_eq_getD_getElem?, Array.getElem?_setIfInBounds_self_of_lt hlen]
          exact hv
        · have hjl : isIn listed j = true := by
            rw [isIn_set hil] at hj
            simpa [hji] using hj
          have hdd : d ≠ dj := fun e => by subst e; exact hji (hne j i d hdj hdst)
          rw [Array.getD_eq_getD_getElem?, Array.getElem?_setIfInBounds_ne hdd, ← Array.getD_eq_getD_getElem?]
          exact hst j _ _ _ (hi.vals j dj hjl hdj) hW'
      · show (a'.tmps.setIfInBounds d v)[t]? = _
        have htd : d ≠ t := fun e => by
          subst e
          exact ht i (by rw [isIn_set hil]; simp) hdst
        rw [Array.getElem?_setIfInBounds_ne htd]
        exact hi.rest t (fun j hj => ht j (by rw [isIn_set hil, hj]; rfl))
    have hS := hstep i o ho' a' W hi.below
      (fun t ht => by
        have := hi.rest t (fun j _ e => by
          obtain ⟨o2, g1, g2⟩ := hdi j t e
          have : some t ∈ l.map (·.dst) := List.mem_map.2 ⟨o2, List.mem_of_getElem? g1, g2⟩
          rw [← List.contains_iff_mem, ht] at this
          cases this)
        show a'.tmps.getD t undef = a.tmps.getD t undef
        simp only [Array.getD_eq_getD_getElem?, this])
      (fun e he hb de hde => hi.vals e.on de (hdep e (by simpa using he) hb) hde)
    refine wpOp_step (o := o) ho (fun K hK => ?_)
    rw [if_pos (show Region.wanted o _ = true by unfold Region.wanted; rw [hgu])]
    unfold Oper.wp
    rcases hS with ⟨v, W', h1, h2, h3⟩ | ⟨f, args, W', h1, h2, h3⟩
    · rw [h1]
      exact hK _ _ ⟨by simpa using hls, next v W' h2 h3⟩
    · rw [h1]
      refine h3.mono ?_
      rintro e W'' ⟨v, rfl, hb, hv⟩
      exact hK _ _ ⟨by simpa using hls, next v W'' (h2.trans (hb.mono h2.size)) hv⟩
  · intro listed a' W hi hr
    obtain ⟨hls, hi⟩ := hi
    have hall : ∀ i, i < l.length → isIn listed i = true := by
      intro i
      induction i using Nat.strongRecOn with
      | _ i ih =>
        intro hin
        cases hli : isIn listed i with
        | true => rfl
        | false =>
          exfalso
          have ho : l[i]? = some l[i] := List.getElem?_eq_getElem hin
          have : i ∈ Region.ready .any l.toArray listed := by
            rw [mem_ready]
            refine ⟨getD_in (by rw [hls]; exact hin) hli, l[i], by simp, fun e he hb => ?_⟩
            have h1 := hB3 i hin
            rw [ho] at h1
            simp only [List.all_eq_true] at h1
            have h2 := h1 e (by simpa using he)
            simp only [hb, Bool.not_true, Bool.false_or, decide_eq_true_eq] at h2
            exact ih e.on h2 (by omega)
          rw [hr] at this
          cases this
    have := VQ.get (tm' := a'.tmps) (l.map (·.dst)) 0 a.tmps (hQ W hi.below) hi.len.symm
      (fun j d hj => by
        rw [List.getElem?_map] at hj
        cases ho : l[j]? with
        | none => rw [ho] at hj; cases hj
        | some o =>
          rw [ho] at hj
          obtain ⟨d', h1, h2, -, h4⟩ := hd j o ho
          simp only [Option.map_some, Option.some.injEq] at hj
          rw [h1] at hj
          cases hj
          refine ⟨by rw [hi.len]; exact h2, ?_⟩
          rw [Nat.zero_add]
          exact hi.vals j d (hall j (List.getElem?_eq_some_iff.1 ho).1) h4)
      (fun t ht => hi.rest t (fun j _ e => ht j (by
        obtain ⟨o, h1, h2⟩ := hdi j t e
        simp [h1, h2])))
    have e : ({ a with tmps := a'.tmps } : Act) = a' := by
      obtain ⟨t1, d1⟩ := a'
      have := hi.defers
      simp only at this
      simp [this]
    rwa [e] at this
  · refine Nat.le_trans List.countP_le_length ?_
    simp
  · refine ⟨by simp, rfl, rfl, (Below.refl _ w).drew, fun i d h => ?_, fun t _ => rfl⟩
    unfold isIn at h
    rw [getD_replicate_false] at h
    cases h

end Go.Abs

/- Walks: the reference's Holds, fits. -/
namespace Go.Proofs.YtcfapbccegijnaaGreat
open Go Go.RowKit Go.Proofs Go.Abs

theorem ret_boolG {a b : Bool} (h : a = b) : Ending.returned (.bool a) = .returned (.bool b) := by rw [h]

set_option maxRecDepth 100000 in
set_option maxHeartbeats 4000000 in
theorem refHolds_any (g : G5) (a b c : Int) (w : World) :
    Calls Tryz.prog 96 #[gg g.a g.b g.c g.d g.e, ms a b c] w fun e w' => e = .returned (.bool (okM g a b c)) ∧ Below w.heap.size w w' := by
  obtain ⟨ga, gb, gc, gd, ge⟩ := g
  by_cases h0 : ge = 0
  · subst h0
    have C1 := fun w => refWithin_any a ga gb w
    have C2 := fun w => refWithin_any b gc gd w
    have b0 : Below w.heap.size w ((w.alloc (.cells #[.int .i64 ga, .int .i64 gb, .int .i64 gc, .int .i64 gd, .int .i64 0] 83)).alloc (.cells #[.int .i64 a, .int .i64 b, .int .i64 c] 130)) := ((Below.refl _ _).alloc (Nat.le_refl _) _).alloc (by simp) _
    unfold okM
    simp only
    generalize wi a ga gb = u at C1 ⊢
    generalize wi b gc gd = v at C2 ⊢
    go_enter Tryz.func96, Tryz.ntmps96
    go_wp2_with (first
      | (go_at_call 73; with_reducible refine (C1 _).mono ?_; rintro e w1 ⟨rfl, rfl⟩)
      | (go_at_call 73; with_reducible refine (C2 _).mono ?_; rintro e w1 ⟨rfl, rfl⟩))
    all_goals (go_ret; refine ⟨ret_boolG ?_, b0⟩; clear C1 C2 b0; rw [Bool.eq_iff_iff]; simp_all)
  · have h1 : (ge == 0) = false := by simpa using h0
    have C1 := fun w => refWithin_any a ga gb w
    have C2 := fun w => refWithin_any b gc gd w
    have b0 : Below w.heap.size w ((w.alloc (.cells #[.int .i64 ga, .int .i64 gb, .int .i64 gc, .int .i64 gd, .int .i64 ge] 83)).alloc (.cells #[.int .i64 a, .int .i64 b, .int .i64 c] 130)) := ((Below.refl _ _).alloc (Nat.le_refl _) _).alloc (by simp) _
    unfold okM
    simp only
    generalize wi a ga gb = u at C1 ⊢
    generalize wi b gc gd = v at C2 ⊢
    go_enter Tryz.func96, Tryz.ntmps96
    go_wp2_with (first
      | (go_at_call 73; with_reducible refine (C1 _).mono ?_; rintro e w1 ⟨rfl, rfl⟩)
      | (go_at_call 73; with_reducible refine (C2 _).mono ?_; rintro e w1 ⟨rfl, rfl⟩))
    all_goals (go_ret; refine ⟨ret_boolG ?_, b0⟩; clear C1 C2 b0; rw [Bool.eq_iff_iff]; simp_all)

def FitV (B bg og n gcap k bL off capl : Nat) (s : Int) (b : Bool) (ga gb gc gd ge a1 a2 a3 : Int) (u : Bool) : Nat → Value → World → Prop
  | 0, v, _ => v = .pointer (some ⟨B, 5, none⟩)
  | 1, v, _ => v = .slice (some ⟨bg, og, none⟩) n gcap
  | 2, v, _ => v = .int .i64 (k : Nat)
  | 3, v, _ => v = .pointer (some ⟨bg, og + k * 5, none⟩)
  | 4, v, _ => v = gg ga gb gc gd ge
  | 5, v, _ => v = .slice (some ⟨bL, off, none⟩) n capl
  | 6, v, _ => v = st s b
  | 7, v, _ => v = .int .i64 (k : Nat)
  | 8, v, _ => v = ms a1 a2 a3
  | 9, v, _ => v = .bool u
  | _, v, _ => v = .bool (!u)

theorem FitV.keep {B bg og n gcap k bL off capl : Nat} {s : Int} {b : Bool} {ga gb gc gd ge a1 a2 a3 : Int} {u : Bool} : ∀ i v W W', FitV B bg og n gcap k bL off capl s b ga gb gc gd ge a1 a2 a3 u i v W → Below W.heap.size W W' → FitV B bg og n gcap k bL off capl s b ga gb gc gd ge a1 a2 a3 u i v W'
  | 0, _, _, _, h, _ => h
  | 1, _, _, _, h, _ => h
  | 2, _, _, _, h, _ => h
  | 3, _, _, _, h, _ => h
  | 4, _, _, _, h, _ => h
  | 5, _, _, _, h, _ => h
  | 6, _, _, _, h, _ => h
  | 7, _, _, _, h, _ => h
  | 8, _, _, _, h, _ => h
  | 9, _, _, _, h, _ => h
  | _ + 10, _, _, _, h, _ => h


theorem fitR_false {G : List G5} {L : List (Int × Int)} {n s : Nat} {b : Bool} {k : Nat} (hk : k < n) (h : okM (gz G k) (meA L n s b k) (meB L n s b k) (meC L n s b k) = false) : fitR G L n s b = false := by
  unfold fitR
  rw [List.all_eq_false]
  exact ⟨k, List.mem_range.2 hk, by simp [h]⟩

theorem pcs_stX (w : World) (id c r m s : Int) (vg vm : Value) (sh : Int) (b : Bool) : ((w.alloc (pcsObj id c r m s vg vm)).alloc (stObj sh b)).heap[w.heap.size]? = some (pcsObj id c r m s vg vm) ∧ ((w.alloc (pcsObj id c r m s vg vm)).alloc (stObj sh b)).heap[w.heap.size + 1]? = some (stObj sh b) := by
  refine ⟨(alloc_heap_old _ _ (by simp)).trans (alloc_heap_new _ _), ?_⟩
  have := alloc_heap_new (w.alloc (pcsObj id c r m s vg vm)) (stObj sh b); rwa [World.size_alloc] at this

set_option maxRecDepth 100000 in
set_option maxHeartbeats 8000000 in
theorem refFits_same (id c r m z : Int) (vg vm : Value) (G : List G5) (bL off capl : Nat) (L : List (Int × Int)) (s : Nat) (b : Bool) (hv : vOut L = true) (hn : G.length = L.length) (hs : s < L.length) (w : World) (hG : SlG w vg G) (hp : PtsAt w bL off L) :
    Calls Tryz.prog 47 #[pcs id c r m z vg vm, .slice (some ⟨bL, off, none⟩) L.length capl, st s b] w fun e w' => e = .returned (.bool (fitR G L L.length s b)) ∧ Below w.heap.size w w' := by
  obtain ⟨h3, h24, hvp⟩ := vOut_n hv
  have hsm := vPts_small hvp
  obtain ⟨bg, og, gcap, hvg, hgc⟩ : ∃ bg og gcap, vg = .slice (some ⟨bg, og, none⟩) G.length gcap ∧ ∀ k, k < G.length → w.cell? ⟨bg, og + k * 5, none⟩ = some (.int .i64 (gz G k).a) ∧ w.cell? ⟨bg, og + k * 5 + 1, none⟩ = some (.int .i64 (gz G k).b) ∧ w.cell? ⟨bg, og + k * 5 + 2, none⟩ = some (.int .i64 (gz G k).c) ∧ w.cell? ⟨bg, og + k * 5 + 3, none⟩ = some (.int .i64 (gz G k).d) ∧ w.cell? ⟨bg, og + k * 5 + 4, none⟩ = some (.int .i64 (gz G k).e) := by
    obtain ⟨a, cap, rfl, hl, hc⟩ := hG
    obtain ⟨b', o', rfl, -⟩ := hc 0 (by omega)
    refine ⟨b', o', cap, rfl, fun k hk => ?_⟩
    obtain ⟨b2, o2, e, h0, h1, h2, h3, h4⟩ := hc k hk
    cases e
    exact ⟨h0, h1, h2, h3, h4⟩
  rw [hn] at hvg
  subst hvg
  have CM := fun W (hb : Below w.heap.size w W) k hk => measure_any bL off capl L h3 h24 hsm W (hp.keep hb) s k b hs hk
  have HF := Lib.hid (fun k hk h => fitR_false (G := G) (L := L) (n := L.length) (s := s) (b := b) (k := k) hk h)
  have HT : Hid ((∀ k, k < L.length → okM (gz G k) (meA L L.length s b k) (meB L L.length s b k) (meC L L.length s b k) = true) → fitR G L L.length s b = true) := Lib.hid (fun h => by
    unfold fitR
    rw [List.all_eq_true]
    exact fun k hk => h k (List.mem_range.1 hk))
  have HG := Lib.hid hgc
  have HCM := Lib.hid CM
  clear hG hp hv hvp hsm hgc CM
  obtain ⟨n, hnn⟩ : ∃ n, L.length = n := ⟨_, rfl⟩
  rw [hnn] at HF HT HCM hs h3 h24 hn ⊢
  rw [hn] at HG
  clear hnn hn
  have hb0 : Below w.heap.size w ((w.alloc (pcsObj id c r m z (.slice (some ⟨bg, og, none⟩) n gcap) vm)).alloc (stObj s b)) := ((Below.refl _ _).alloc (Nat.le_refl _) _).alloc (by simp) _
  have hpq := pcs_stX w id c r m z (.slice (some ⟨bg, og, none⟩) n gcap) vm s b
  obtain ⟨W0, hW0⟩ : ∃ W0, (w.alloc (pcsObj id c r m z (.slice (some ⟨bg, og, none⟩) n gcap) vm)).alloc (stObj s b) = W0 := ⟨_, rfl⟩
  rw [hW0] at hb0 hpq
  have c5 : W0.cell? ⟨w.heap.size, 5, none⟩ = some (.slice (some ⟨bg, og, none⟩) n gcap) := cell_of hpq.1 rfl
  have HPQ := Lib.hid hpq
  clear hpq
  go_enter Tryz.func47, Tryz.ntmps47
  go_wp2_with fail
  clear hW0 c5
  go_loopw [7] (fun i wr => ∃ k : Nat, k ≤ n ∧ i = .int .i64 k ∧ Below W0.heap.size W0 wr ∧ Hid (∀ j, j < k → okM (gz G j) (meA L n s b j) (meB L n s b j) (meC L n s b j) = true)) (fun i _ => n - (intOf i).toNat)
  case atStart => exact ⟨0, Nat.zero_le _, rfl, Below.refl _ _, Lib.hid (fun j h => by omega)⟩
  case round =>
    obtain ⟨k, hk, rfl, hbel, HOK⟩ := hrel
    by_cases hlt : k < n
    · have j1 : (k : Int) < (n : Int) := by omega
      go_wp2_with fail
      have hbw := keep_below hb0 hbel
      have hp := (hbel.block _ (Array.getElem?_eq_some_iff.1 HPQ.out.1).1).trans HPQ.out.1
      have hq := (hbel.block _ (Array.getElem?_eq_some_iff.1 HPQ.out.2).1).trans HPQ.out.2
      have hg0 := HG.out k hlt
      have hg := And.intro (keep_cell hbw hg0.1) (And.intro (keep_cell hbw hg0.2.1) (And.intro (keep_cell hbw hg0.2.2.1) (And.intro (keep_cell hbw hg0.2.2.2.1) (keep_cell hbw hg0.2.2.2.2))))
      have CM : Hid (∀ W, Below wr.heap.size wr W → _) := Lib.hid (fun W hb => HCM.out W (keep_below hbw hb) k hlt)
      have CH := Lib.hid (fun W => refHolds_any (gz G k) (meA L n s b k) (meB L n s b k) (meC L n s b k) W)
      have HK := Lib.hid j1
      obtain ⟨u, hu⟩ : ∃ u, okM (gz G k) (meA L n s b k) (meB L n s b k) (meC L n s b k) = u := ⟨_, rfl⟩
      have HU := Lib.hid hu
      rw [hu] at CH
      clear hg0 hu j1
      generalize (gz G k).a = ga, (gz G k).b = gb, (gz G k).c = gc, (gz G k).d = gd, (gz G k).e = ge at hg CH
      generalize meA L n s b k = a1, meB L n s b k = a2, meC L n s b k = a3 at CM CH
      refine wp_region_vals (FitV w.heap.size bg og n gcap k bL off capl s b ga gb gc gd ge a1 a2 a3 u) (by kernel_rfl) (by kernel_rfl) FitV.keep ?_ ?_
      · intro i o ho a' W hW hfr hdep
        have f1 : a'.tmps[1]?.getD undef = .slice (some ⟨bL, off, none⟩) n capl := Array.getD_eq_getD_getElem?.symm.trans (hfr 1 rfl)
        have f3 : a'.tmps[3]?.getD undef = .pointer (some ⟨w.heap.size, 0, none⟩) := Array.getD_eq_getD_getElem?.symm.trans (hfr 3 rfl)
        have f5 : a'.tmps[5]?.getD undef = .pointer (some ⟨w.heap.size + 1, 0, none⟩) := Array.getD_eq_getD_getElem?.symm.trans (hfr 5 rfl)
        have f7 : a'.tmps[7]?.getD undef = .int .i64 (k : Nat) := Array.getD_eq_getD_getElem?.symm.trans (hfr 7 rfl)
        replace hp := (hW.block _ (Array.getElem?_eq_some_iff.1 hp).1).trans hp
        replace hq := (hW.block _ (Array.getElem?_eq_some_iff.1 hq).1).trans hq
        replace hg := And.intro (keep_cell hW hg.1) (And.intro (keep_cell hW hg.2.1) (And.intro (keep_cell hW hg.2.2.1) (And.intro (keep_cell hW hg.2.2.2.1) (keep_cell hW hg.2.2.2.2))))
        clear hfr
        have hi : i < 11 := by have := (List.getElem?_eq_some_iff.1 ho).1; simpa using this
        obtain rfl | rfl | rfl | rfl | rfl | rfl | rfl | rfl | rfl | rfl | rfl : i = 0 ∨ i = 1 ∨ i = 2 ∨ i = 3 ∨ i = 4 ∨ i = 5 ∨ i = 6 ∨ i = 7 ∨ i = 8 ∨ i = 9 ∨ i = 10 := by omega
        all_goals simp only [List.getElem?_cons_zero, List.getElem?_cons_succ, Option.some.injEq] at ho
        all_goals subst ho
        · clear hdep hp hq hg
          refine .inl ⟨_, W, ?_, Below.refl _ _, rfl⟩
          go_simp
        · have d0 : a'.tmps[20]?.getD undef = .pointer (some ⟨w.heap.size, 5, none⟩) := Array.getD_eq_getD_getElem?.symm.trans (hdep ⟨0, .data⟩ (by simp) rfl 20 rfl)
          have c0 : W.cell? ⟨w.heap.size, 5, none⟩ = some (.slice (some ⟨bg, og, none⟩) n gcap) := cell_of hp rfl
          clear hdep hp hq hg
          refine .inl ⟨_, W, ?_, Below.refl _ _, rfl⟩
          go_simp
        · clear hdep hp hq hg
          refine .inl ⟨_, W, ?_, Below.refl _ _, rfl⟩
          go_simp
        · have d1 : a'.tmps[21]?.getD undef = .slice (some ⟨bg, og, none⟩) n gcap := Array.getD_eq_getD_getElem?.symm.trans (hdep ⟨1, .data⟩ (by simp) rfl 21 rfl)
          have d2 : a'.tmps[22]?.getD undef = .int .i64 (k : Nat) := Array.getD_eq_getD_getElem?.symm.trans (hdep ⟨2, .data⟩ (by simp) rfl 22 rfl)
          have i1 : (k : Int) < (n : Int) := HK.out
          clear hdep hp hq hg
          refine .inl ⟨_, W, ?_, Below.refl _ _, rfl⟩
          go_simp
        · have d3 : a'.tmps[23]?.getD undef = .pointer (some ⟨bg, og + k * 5, none⟩) := Array.getD_eq_getD_getElem?.symm.trans (hdep ⟨3, .data⟩ (by simp) rfl 23 rfl)
          have c0 : W.cell? ⟨bg, og + k * 5, none⟩ = some (.int .i64 ga) := hg.1
          have c1 : W.cell? ⟨bg, og + k * 5 + 1, none⟩ = some (.int .i64 gb) := hg.2.1
          have c2 : W.cell? ⟨bg, og + k * 5 + 2, none⟩ = some (.int .i64 gc) := hg.2.2.1
          have c3 : W.cell? ⟨bg, og + k * 5 + 3, none⟩ = some (.int .i64 gd) := hg.2.2.2.1
          have c4 : W.cell? ⟨bg, og + k * 5 + 4, none⟩ = some (.int .i64 ge) := hg.2.2.2.2
          clear hdep hp hq hg
          refine .inl ⟨_, W, ?_, Below.refl _ _, rfl⟩
          go_simp
        · clear hdep hp hq hg
          refine .inl ⟨_, W, ?_, Below.refl _ _, rfl⟩
          go_simp
        · have c0 : W.cell? ⟨w.heap.size + 1, 0, none⟩ = some (.int .i64 s) := cell_of hq rfl
          have c1 : W.cell? ⟨w.heap.size + 1, 1, none⟩ = some (.bool b) := cell_of hq rfl
          clear hdep hp hq hg
          refine .inl ⟨_, W, ?_, Below.refl _ _, rfl⟩
          go_simp
        · clear hdep hp hq hg
          refine .inl ⟨_, W, ?_, Below.refl _ _, rfl⟩
          go_simp
        · have d5 : a'.tmps[25]?.getD undef = .slice (some ⟨bL, off, none⟩) n capl := Array.getD_eq_getD_getElem?.symm.trans (hdep ⟨5, .data⟩ (by simp) rfl 25 rfl)
          have d6 : a'.tmps[26]?.getD undef = st s b := Array.getD_eq_getD_getElem?.symm.trans (hdep ⟨6, .data⟩ (by simp) rfl 26 rfl)
          have d7 : a'.tmps[27]?.getD undef = .int .i64 (k : Nat) := Array.getD_eq_getD_getElem?.symm.trans (hdep ⟨7, .data⟩ (by simp) rfl 27 rfl)
          clear hdep hp hq hg
          refine .inr ⟨97, #[.slice (some ⟨bL, off, none⟩) n capl, st s b, .int .i64 (k : Nat)], W, ?_, Below.refl _ _, (CM.out W hW).mono ?_⟩
          · go_simp
          · rintro e W' ⟨rfl, hb⟩
            exact ⟨_, rfl, hb, rfl⟩
        · have d4 : a'.tmps[24]?.getD undef = gg ga gb gc gd ge := Array.getD_eq_getD_getElem?.symm.trans (hdep ⟨4, .data⟩ (by simp) rfl 24 rfl)
          have d8 : a'.tmps[28]?.getD undef = ms a1 a2 a3 := Array.getD_eq_getD_getElem?.symm.trans (hdep ⟨8, .data⟩ (by simp) rfl 28 rfl)
          clear hdep hp hq hg
          refine .inr ⟨96, #[gg ga gb gc gd ge, ms a1 a2 a3], W, ?_, Below.refl _ _, (CH.out W).mono ?_⟩
          · go_simp
          · rintro e W' ⟨rfl, hb⟩
            exact ⟨_, rfl, hb, rfl⟩
        · have d9 : a'.tmps[29]?.getD undef = .bool u := Array.getD_eq_getD_getElem?.symm.trans (hdep ⟨9, .data⟩ (by simp) rfl 29 rfl)
          clear hdep hp hq hg
          refine .inl ⟨_, W, ?_, Below.refl _ _, rfl⟩
          go_simp
      · intro W hW
        have hbel2 := keep_below hbel hW
        clear CM CH hp hq hg hW
        simp only [List.map_cons, List.map_nil, VQ]
        rintro _ rfl _ rfl _ rfl _ rfl _ rfl _ rfl _ rfl _ rfl _ rfl _ rfl _ rfl
        simp only [List.setIfInBounds_toArray, List.set_cons_zero, List.set_cons_succ]
        cases u
        · go_wp2
          go_ret
          exact ⟨ret_boolG (HF.out k hlt HU.out).symm, keep_below hb0 hbel2⟩
        · go_wp2
          refine ⟨⟨k + 1, by omega, by simp, hbel2, Lib.hid (fun j hj => ?_)⟩, by simp [intOf]; omega⟩
          by_cases e : j = k
          · subst e; exact HU.out
          · exact HOK.out j (by omega)
    · obtain rfl : k = n := by omega
      go_wp2
      go_ret
      exact ⟨ret_boolG (HT.out HOK.out).symm, keep_below hb0 hbel⟩

end Go.Proofs.YtcfapbccegijnaaGreat
