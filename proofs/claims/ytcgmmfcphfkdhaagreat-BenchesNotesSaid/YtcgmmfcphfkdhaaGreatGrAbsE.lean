/- The abstract machine, part GrAbsE. -/
import Derived.Test.YtcgmmfcphfkdhaaGreatAbsV
/- The abstract machine, whole: what it answers, the program answers. -/
namespace Go.Abs
open Go Go.RowKit

/-- A call that is known: its function, its arguments, the heap before; its answer, the heap after. -/
structure Known where
  f : FuncId
  args : Array Value
  st : St
  v : Value
  st1 : St

def KnownOk (P : Program) (k : Known) : Prop :=
  k.st1.lo ≤ k.st.lo ∧ (∃ fn c, P.funcs[k.f]? = some fn ∧ fn.body = some c) ∧
    ∀ B ρ w args', WRel P B ρ k.st.H w → ARel ρ k.args args' → Calls P k.f args' w (PostF P B ρ k.st.H w k.v k.st1)

/-- A table that may be asked for calls. -/
abbrev Tab := FuncId → Array Value → St → Option (Value × St)

def evsT (P : Program) (T : Tab) : Nat → EC × EF
  | 0 => (fun _ _ _ => none, fun _ _ _ => none)
  | n + 1 =>
    let p := evsT P T n
    (fun c fr st => if isRegion c then strictC c (stepCodeF P p.1 p.2 (evDraw2 P p.1 p.2) c fr st) else stepCodeF P p.1 p.2 (evDraw2 P p.1 p.2) c fr st,
     fun f args st => fVals args.toList fun l => match T f ⟨l⟩ st with
       | some r => some r
       | none => strictF (stepCall P p.1 f ⟨l⟩ st))

theorem soundF_of_eq {P : Program} {e e' : EF} (h : ∀ f a st, e f a st = e' f a st) (hs : SoundF P e') : SoundF P e := by
  intro f args st v st1 he
  rw [h] at he
  exact hs f args st v st1 he

theorem soundC_of_eq {P : Program} {e e' : EC} (h : ∀ f a st, e f a st = e' f a st) (hs : SoundC P e') : SoundC P e := by
  intro f args st v fr1 st1 he
  rw [h] at he
  exact hs f args st v fr1 st1 he

theorem soundL_of_eq {P : Program} {m : Nat} {e e' : EC} (h : ∀ f a st, e f a st = e' f a st) (hs : SoundL P m e') : SoundL P m e := by
  intro body fr st x fr1 st1 he
  rw [h] at he
  exact hs body fr st x fr1 st1 he

theorem evsT_sound {P : Program} (hP : POk P) {T : Tab} (hT : SoundF P T) : ∀ n, SoundC P (evsT P T n).1 ∧ SoundL P n (evsT P T n).1 ∧ SoundF P (evsT P T n).2
  | 0 => by
    refine ⟨?_, ?_, ?_⟩
    · intro c fr st x fr1 st1 h
      cases h
    · intro c fr st x fr1 st1 h
      cases h
    · intro f args st v st1 h
      cases h
  | n + 1 => by
    obtain ⟨hC, hL, hF⟩ := evsT_sound hP hT n
    have hD := draw2_sound hP hC hF
    have e1 : ∀ c fr st, (evsT P T (n + 1)).1 c fr st = stepCode P (evsT P T n).1 (evsT P T n).2 (evDraw2 P (evsT P T n).1 (evsT P T n).2) c fr st := by
      intro c fr st
      simp only [evsT, strictC_eq, stepCodeF_eq, ite_self]
    refine ⟨soundC_of_eq e1 (code_sound hP hC hL hF hD), soundL_of_eq e1 (loop_sound hC hL), ?_⟩
    intro f args st v st1 h
    simp only [evsT, strictF_eq, fVals_eq] at h
    have ha : (⟨args.toList⟩ : Array Value) = args := rfl
    rw [ha] at h
    split at h
    · rename_i r hr
      cases h
      exact hT f args st v st1 hr
    · exact call_sound hC f args st v st1 h

/-- A closed call on an empty heap, in any world. -/
theorem evsT_closed {P : Program} (hP : POk P) {T : Tab} (hT : SoundF P T) {n : Nat} {f : FuncId} {args : Array Value} {v : Value}
    (h : (evsT P T n).2 f args ⟨[], 0⟩ = some (v, ⟨[], 0⟩)) (ha : closed (.tuple args) = true) (hv : closed v = true) (w : World) :
    Calls P f args w (fun e w' => e = .returned v ∧ Below w.heap.size w w') := by
  obtain ⟨_, _, hs⟩ := (evsT_sound hP hT n).2.2 f args ⟨[], 0⟩ v ⟨[], 0⟩ h
  have hw : WRel P w.heap.size [] [] w := ⟨rfl, fun b t o hb => by simp at hb, fun b b' t t' o o' _ hb => by simp at hb, Nat.le_refl _⟩
  have hargs : ARel [] args args := by
    have h4 : closedN 4 (.tuple args) = true := ha
    simp only [closedN, List.all_eq_true] at h4
    refine ⟨rfl, fun i => ?_⟩
    by_cases hi : i < args.size
    · have : args.getD i undef = args[i] := by simp [Array.getD, hi]
      rw [this]
      exact closed_rel [] 3 _ (h4 _ (by simp))
    · have : args.getD i undef = undef := by simp [Array.getD, hi]
      rw [this]
      exact VRel.undef _
  refine Calls.mono (hs _ _ w args hw hargs) ?_
  rintro e w1 ⟨v', ρ1, rfl, hm, hr⟩
  exact ⟨by rw [closed_eq 4 hv hr], hm.below⟩

end Go.Abs

/- The abstract machine: a table of calls that are known. -/
namespace Go.Abs
open Go Go.RowKit

/-- A call that is known: its function, its arguments, the heap before; its answer, the heap after and the least block that it wrote. -/
structure Entry where
  f : FuncId
  args : List Value
  H : List AObj
  v : Value
  H1 : List AObj
  lo1 : Nat

def Entry.Ok (P : Program) (k : Entry) : Prop :=
  (∃ fn c, P.funcs[k.f]? = some fn ∧ fn.body = some c) ∧
    ∀ B ρ w args', WRel P B ρ k.H w → ARel ρ ⟨k.args⟩ args' → Calls P k.f args' w (PostF P B ρ k.H w k.v ⟨k.H1, k.lo1⟩)

def ask (f : FuncId) (args : Array Value) (st : St) : List Entry → Option (Value × St)
  | [] => none
  | k :: ks => if Nat.beq f k.f && beqL (beqV 5) args.toList k.args && beqL beqO st.H k.H then some (k.v, ⟨k.H1, min st.lo k.lo1⟩) else ask f args st ks

def tab (ks : List Entry) : Tab := fun f args st => ask f args st ks

theorem Moved.low {P : Program} {B : Nat} {ρ ρ1 : Ren} {H H1 : List AObj} {w w1 : World} {lo lo' : Nat} (h : Moved P B ρ H w ρ1 H1 lo w1) (hl : lo' ≤ lo) : Moved P B ρ H w ρ1 H1 lo' w1 :=
  ⟨h.ext, h.rel, h.below, fun b hb => h.keepA b (Nat.lt_of_lt_of_le hb hl), fun b t o hb => h.keepR b t o (Nat.lt_of_lt_of_le hb hl), h.len, h.fr⟩

theorem tab_sound {P : Program} : ∀ {ks : List Entry}, (∀ k ∈ ks, k.Ok P) → SoundF P (tab ks)
  | [], _ => fun _ _ _ _ _ h => by cases h
  | k :: ks, hk => by
    intro f args st v st1 h
    simp only [tab, ask] at h
    split at h
    · rename_i hc
      simp only [Bool.and_eq_true, Nat.beq_eq] at hc
      obtain ⟨⟨hf, ha⟩, hH⟩ := hc
      cases h
      obtain ⟨h1, h2⟩ := hk k (by simp)
      have ha' : args = ⟨k.args⟩ := Array.toList_inj.1 (beqL_eq (beqV_eq 5) ha)
      have hH' := beqL_eq beqO_eq hH
      subst hf
      refine ⟨Nat.min_le_left _ _, h1, ?_⟩
      intro B ρ w args' hw hr
      rw [ha'] at hr
      rw [hH'] at hw ⊢
      refine Calls.mono (h2 B ρ w args' hw hr) ?_
      rintro e w1 ⟨v', ρ1, he, hm, hv⟩
      exact ⟨v', ρ1, he, hm.low (Nat.min_le_right _ _), hv⟩
    · exact tab_sound (fun k' hk' => hk k' (by simp [hk'])) f args st v st1 h

theorem tab_nil {P : Program} : SoundF P (tab []) := tab_sound (by simp)

theorem Entry.ok {P : Program} (hP : POk P) {T : Tab} (hT : SoundF P T) {n : Nat} {k : Entry} {v : Value} {st1 : St}
    (h : (evsT P T n).2 k.f ⟨k.args⟩ ⟨k.H, k.H.length⟩ = some (v, st1)) (hv : k.v = v) (h1 : k.H1 = st1.H) (hl : k.lo1 = st1.lo) : k.Ok P := by
  obtain ⟨_, hb, hs⟩ := (evsT_sound hP hT n).2.2 _ _ _ _ _ h
  refine ⟨hb, fun B ρ w args' hw ha => ?_⟩
  have := hs B ρ w args' hw ha
  subst hv
  rw [h1, hl]
  exact this

end Go.Abs

/- The abstract machine: types that are made while the program runs have flat zero values too. -/
namespace Go.Abs
open Go Go.RowKit

def Flat (i : TypeInfo) : Prop := ∀ v, i.zero = some v → (∀ x ∈ v.cells.toList, closedN 3 x = true) ∧ closedN 4 v = true ∧ v.cells.size = i.size

def cellsOk (cs : Array Value) : Prop := ∀ x ∈ cs.toList, closedN 3 x = true

theorem agg_flat {cs : Array Value} (h : cellsOk cs) : closedN 4 (.agg cs) = true := by
  simp only [closedN, List.all_eq_true]
  exact h

theorem word_flat {d : TypeDesc} {s : String} {z : Value} {c : Bool} {b : Nat} (hz : isAtom z = true) : Flat (Made.word d s z c b) := by
  intro v hv
  simp only [Made.word, Option.some.injEq] at hv
  subst hv
  cases z <;> simp_all [closedN, isAtom, Value.cells, Made.word]

theorem forIn_inv {α β : Type} {f : α → β → Option (ForInStep β)} (I : β → Prop) (hf : ∀ a b r, I b → f a b = some r → match r with | .yield b' => I b' | .done b' => I b') :
    ∀ (l : List α) (b b' : β), I b → forIn l b f = some b' → I b' := by
  intro l
  induction l with
  | nil =>
    intro b b' hb h
    simp only [List.forIn_nil, Option.pure_def, Option.some.injEq] at h
    exact h ▸ hb
  | cons a l ih =>
    intro b b' hb h
    rw [List.forIn_cons] at h
    simp only [Option.bind_eq_bind, Option.bind_eq_some_iff] at h
    obtain ⟨r, hr, h⟩ := h
    have := hf a b r hb hr
    cases r with
    | done c =>
      simp only [Option.pure_def, Option.some.injEq] at h
      exact h ▸ this
    | yield c => exact ih c b' this h

abbrev MS := Array Field × Nat × Nat × Nat × Nat × Bool × Bool × Option (Array Value) × String

def MI (s : MS) : Prop := ∀ z, s.2.2.2.2.2.2.2.1 = some z → cellsOk z ∧ z.size = s.2.1

theorem struct_flat {info : TypeId → Option TypeInfo} (hi : ∀ t i, info t = some i → Flat i) {fs : Array Field} {i : TypeInfo} (h : Made.reckonStruct info fs = some i) : Flat i := by
  unfold Made.reckonStruct at h
  simp only [Option.bind_eq_bind, Option.pure_def, Option.bind_eq_some_iff] at h
  obtain ⟨st, hst, h⟩ := h
  rw [← Array.forIn_toList] at hst
  have hI : MI st := by
    refine forIn_inv MI ?_ _ _ _ ?_ hst
    · intro f s r hs hr
      simp only [Option.bind_eq_some_iff] at hr
      obtain ⟨i, h1, hr⟩ := hr
      have step : ∀ (a : Array Field) (b c d : Nat) (e g : Bool) (t : String), MI (a, s.2.1 + i.size, b, c, d, e, g, (if s.2.1 + i.size > Made.mostCells then none else s.2.2.2.2.2.2.2.1.bind fun z => i.zero.bind fun z1 => some (z ++ z1.cells)), t) := by
        intro a b c d e g t z hz
        simp only at hz ⊢
        split at hz
        · cases hz
        · simp only [Option.bind_eq_some_iff, Option.some.injEq] at hz
          obtain ⟨z0, hz0, z1, hz1, rfl⟩ := hz
          obtain ⟨g1, g2⟩ := hs z0 hz0
          obtain ⟨k1, _, k3⟩ := hi _ _ h1 z1 hz1
          refine ⟨?_, by simp [g2, k3]⟩
          intro x hx
          simp only [Array.toList_append, List.mem_append] at hx
          exact hx.elim (g1 x) (k1 x)
      split at hr
      · cases hr
      · split at hr
        · cases hr
        · split at hr
          all_goals simp only [Option.bind_eq_some_iff] at hr
          all_goals obtain ⟨tag, _, hr⟩ := hr
          all_goals split at hr
          all_goals simp only [Option.some.injEq] at hr
          all_goals subst hr
          all_goals exact step _ _ _ _ _ _ _
    · intro z hz
      simp only [Option.some.injEq] at hz
      subst hz
      exact ⟨fun x hx => by simp at hx, rfl⟩
  intro v hv
  split at h
  all_goals simp only [Option.some.injEq] at h
  all_goals subst h
  all_goals simp only [Option.map_eq_some_iff] at hv
  all_goals obtain ⟨z, hz, rfl⟩ := hv
  all_goals exact ⟨(hI z hz).1, agg_flat (hI z hz).1, (hI z hz).2⟩

theorem reckon_flat {info : TypeId → Option TypeInfo} (hi : ∀ t i, info t = some i → Flat i) {d : TypeDesc} {i : TypeInfo} (h : Made.reckon info d = some i) : Flat i := by
  unfold Made.reckon at h
  split at h
  · simp only [Option.bind_eq_bind, Option.pure_def, Option.bind_eq_some_iff] at h
    obtain ⟨j, _, h⟩ := h
    split at h
    · cases h
    · split at h
      · cases h
      · simp only [Option.bind_eq_some_iff, Option.some.injEq] at h
        obtain ⟨_, _, rfl⟩ := h
        exact word_flat rfl
    · simp only [Option.bind_eq_some_iff, Option.some.injEq] at h
      obtain ⟨_, _, rfl⟩ := h
      exact word_flat rfl
  · simp only [Option.bind_eq_bind, Option.pure_def, Option.bind_eq_some_iff, Option.some.injEq] at h
    obtain ⟨_, _, _, _, rfl⟩ := h
    exact word_flat rfl
  · simp only [Option.bind_eq_bind, Option.pure_def, Option.bind_eq_some_iff, Option.some.injEq] at h
    obtain ⟨_, _, _, _, _, _, _, _, rfl⟩ := h
    exact word_flat rfl
  · simp only [Option.bind_eq_bind, Option.pure_def, Option.bind_eq_some_iff, Option.some.injEq] at h
    obtain ⟨_, _, _, _, rfl⟩ := h
    exact word_flat rfl
  · simp only [Option.bind_eq_bind, Option.pure_def, Option.bind_eq_some_iff, Option.some.injEq] at h
    obtain ⟨_, _, rfl⟩ := h
    exact word_flat rfl
  · simp only [Option.bind_eq_bind, Option.pure_def, Option.bind_eq_some_iff, Option.some.injEq] at h
    obtain ⟨j, hj, _, _, rfl⟩ := h
    intro v hv
    simp only at hv
    split at hv
    · cases hv
    · split at hv
      · rename_i h0
        simp only [Option.some.injEq] at hv
        subst hv
        exact ⟨fun x hx => by simp [Value.cells] at hx, agg_flat (fun x hx => by simp at hx), by simpa [Value.cells] using h0.symm⟩
      · simp only [Option.map_eq_some_iff] at hv
        obtain ⟨z, hz, rfl⟩ := hv
        obtain ⟨k1, _, k3⟩ := hi _ _ hj z hz
        have hc : ∀ n : Nat, cellsOk (Array.replicate n z.cells).flatten := by
          intro n x hx
          simp only [Array.toList_flatten, Array.toList_replicate, List.map_replicate, List.mem_flatten, List.mem_replicate] at hx
          obtain ⟨l, ⟨_, rfl⟩, hx⟩ := hx
          exact k1 x hx
        refine ⟨hc _, agg_flat (hc _), ?_⟩
        rw [← k3]
        simp [Value.cells]
  · exact struct_flat hi h
  · cases h

theorem infoAt_flat {T : Tables} (h : ∀ (t : Nat) (i : TypeInfo), T.types[t]? = some i → Flat i) : ∀ (n : Nat) (t : TypeId) (i : TypeInfo), Made.infoAt T n t = some i → Flat i
  | 0, _, _, hi => by cases hi
  | n + 1, t, i, hi => by
    unfold Made.infoAt at hi
    split at hi
    · exact h t i hi
    · simp only [Option.bind_eq_some_iff] at hi
      obtain ⟨d, _, hr⟩ := hi
      exact reckon_flat (infoAt_flat h n) hr

theorem info_flat {T : Tables} (h : ∀ (t : Nat) (i : TypeInfo), T.types[t]? = some i → Flat i) (t : TypeId) (i : TypeInfo) (hi : T.info? t = some i) : Flat i := by
  unfold Tables.info? at hi
  split at hi
  · exact h t i hi
  · exact infoAt_flat h _ t i hi

def typesOk (ts : List TypeInfo) : Bool := ts.all fun i => match i.zero with
  | none => true
  | some v => v.cells.toList.all (closedN 3) && closedN 4 v && Nat.beq v.cells.size i.size

def namesOk (fs : List Func) : Bool := fs.all fun f => !(f.name == "runtime.NumGoroutine")

theorem pok_of {P : Program} (ht : typesOk P.types.toList = true) (hn : namesOk P.funcs.toList = true) (hm : P.follows .mixedOrders = true) : POk P := by
  have hfl : ∀ (t : Nat) (i : TypeInfo), P.types[t]? = some i → Flat i := by
    intro t i h1 v hz
    have h2 := List.all_eq_true.1 ht i (by rw [← Array.getElem?_toList] at h1; exact List.mem_of_getElem? h1)
    rw [hz] at h2
    simp only [Bool.and_eq_true, Nat.beq_eq, List.all_eq_true] at h2
    exact ⟨h2.1.1, h2.1.2, h2.2⟩
  exact {
    zero := fun t i v hi hz => (info_flat hfl t i hi v hz).2.1
    zsize := fun t i v hi hz => (info_flat hfl t i hi v hz).2.2
    name := fun f fn hf => by
      have h2 := List.all_eq_true.1 hn fn (by rw [← Array.getElem?_toList] at hf; exact List.mem_of_getElem? hf)
      simpa using h2
    mixed := hm }

end Go.Abs

/- The abstract machine: a table made of contracts. -/
namespace Go.Abs
open Go Go.RowKit

/-- The calls of one function whose arguments and answer hold no address, by its contract. -/
def pureT (g : FuncId) (F : List Value → Option Value) : Tab := fun f args st => if Nat.beq f g then (F args.toList).map fun v => (v, st) else none

def orT (S T : Tab) : Tab := fun f args st => match S f args st with
  | some r => some r
  | none => T f args st

theorem orT_sound {P : Program} {S T : Tab} (hS : SoundF P S) (hT : SoundF P T) : SoundF P (orT S T) := by
  intro f args st v st1 h
  unfold orT at h
  split at h
  · rename_i r hr
    cases h
    exact hS f args st v st1 hr
  · exact hT f args st v st1 h

theorem post_pure {P : Program} {B : Nat} {ρ : Ren} {H : List AObj} {w w1 : World} {v : Value} {lo : Nat} (hw : WRel P B ρ H w) (hv : closed v = true) (hb : Below w.heap.size w w1) : PostF P B ρ H w v ⟨H, lo⟩ (.returned v) w1 :=
  ⟨v, ρ, rfl, ⟨List.prefix_refl _, hw.grow hb.size hb.block, hb.mono hw.base, fun _ _ _ => rfl,
    fun b t o _ ht ho hl => hb.block _ ((hw.blk b t o ht ho).lt hl), Nat.le_refl _, ⟨fun _ h => .inr h, fun k hk _ => hb.block k hk⟩⟩, closed_rel ρ 4 v hv⟩

theorem pureT_sound {P : Program} {g : FuncId} {F : List Value → Option Value} (hb : ∃ fn c, P.funcs[g]? = some fn ∧ fn.body = some c)
    (h : ∀ l v, F l = some v → closed (.tuple ⟨l⟩) = true ∧ closed v = true ∧ ∀ w, Calls P g ⟨l⟩ w (fun e w' => e = .returned v ∧ Below w.heap.size w w')) : SoundF P (pureT g F) := by
  intro f args st v st1 hf
  unfold pureT at hf
  split at hf
  · rename_i hg
    have hg := Nat.eq_of_beq_eq_true hg
    subst hg
    simp only [Option.map_eq_some_iff, Prod.mk.injEq] at hf
    obtain ⟨u, hu, rfl, rfl⟩ := hf
    obtain ⟨h1, h2, h3⟩ := h _ _ hu
    refine ⟨Nat.le_refl _, hb, fun B ρ w args' hw ha => ?_⟩
    have hargs : args' = args := by
      have h4 : closedN 4 (.tuple args) = true := h1
      simp only [closedN, List.all_eq_true] at h4
      refine Array.ext ha.1.symm fun i hi hi' => ?_
      have hr := ha.2 i
      have e1 : args.getD i undef = args[i] := by simp [Array.getD, hi']
      have e2 : args'.getD i undef = args'[i] := by simp [Array.getD, hi]
      rw [e1, e2] at hr
      exact closed_eq 3 (h4 _ (by simp)) hr
    subst hargs
    refine Calls.mono (h3 w) ?_
    rintro e w1 ⟨rfl, hbel⟩
    exact post_pure hw h2 hbel
  · cases hf

end Go.Abs

/- The abstract machine: known calls that only read what was there: whatever else the heap holds. -/
namespace Go.Abs
open Go Go.RowKit

/-- A mask's block: cells that are only read, or anything. -/
def maskOk : AObj → Bool
  | .dead => true
  | .cells _ _ b => !b
  | _ => false

def newOk : AObj → Bool
  | .dead => true
  | o => o.rw

/-- Does a block look as the mask says? -/
def fits : AObj → AObj → Bool
  | .dead, _ => true
  | .cells c e _, .cells c' e' _ => Nat.beq e e' && beqL (beqV 5) c c'
  | _, _ => false

def fitsL : List AObj → List AObj → Bool
  | [], [] => true
  | m :: ms, o :: os => fits m o && fitsL ms os
  | _, _ => false

theorem fitsL_length : ∀ {M H : List AObj}, fitsL M H = true → M.length = H.length
  | [], [], _ => rfl
  | m :: ms, o :: os, h => by
    simp only [fitsL, Bool.and_eq_true] at h
    simp [fitsL_length h.2]
  | [], _ :: _, h => by cases h
  | _ :: _, [], h => by cases h

theorem fitsL_get : ∀ {M H : List AObj}, fitsL M H = true → ∀ (b : Nat) (m : AObj), M[b]? = some m → ∃ o, H[b]? = some o ∧ fits m o = true
  | [], [], _, b, m, hm => by simp at hm
  | m :: ms, o :: os, h, b, x, hx => by
    simp only [fitsL, Bool.and_eq_true] at h
    cases b with
    | zero => simp at hx; subst hx; exact ⟨o, by simp, h.1⟩
    | succ b =>
      simp at hx
      obtain ⟨o', h1, h2⟩ := fitsL_get h.2 b x hx
      exact ⟨o', by simpa using h1, h2⟩
  | [], _ :: _, h, _, _, _ => by cases h
  | _ :: _, [], h, _, _, _ => by cases h

theorem fits_rel {P : Program} {B B' : Nat} {ρ : Ren} {t : Ent} {m o : AObj} {w : World} (hm : maskOk m = true) (h : fits m o = true) (hr : ORel P B ρ t o w) : ORel P B' ρ t m w := by
  cases m with
  | dead => trivial
  | cells c e b =>
    cases o with
    | cells c' e' b' =>
      simp only [fits, Bool.and_eq_true, Nat.beq_eq] at h
      obtain ⟨rfl, hc⟩ := h
      have := beqL_eq (beqV_eq 5) hc
      subst this
      have hb : b = false := by simpa [maskOk] using hm
      subst hb
      obtain ⟨C, fz, h1, h2, h3, h4, h5⟩ := hr
      exact ⟨C, fz, h1, (fun h => by cases h), h3, h4, h5⟩
    | _ => cases h
  | _ => cases hm

theorem mask_rw {m : AObj} (h : maskOk m = true) : m.rw = false := by
  cases m <;> simp_all [maskOk, AObj.rw]

theorem fits_world {P : Program} {B : Nat} {ρ : Ren} {M H : List AObj} {w : World} (hM : M.all maskOk = true) (h : fitsL M H = true) (hw : WRel P B ρ H w) : WRel P w.heap.size ρ M w := by
  rw [List.all_eq_true] at hM
  have ok : ∀ (b : Nat) (m : AObj), M[b]? = some m → maskOk m = true := fun b m hb => hM m (List.mem_of_getElem? hb)
  refine ⟨by rw [hw.len, fitsL_length h], ?_, ?_, Nat.le_refl _⟩
  · intro b t m ht hm
    obtain ⟨o, ho, hf⟩ := fitsL_get h b m hm
    exact fits_rel (ok b m hm) hf (hw.blk b t o ht ho)
  · intro b b' t t' o o' _ _ _ ho _ hrw
    rw [mask_rw (ok b o ho)] at hrw
    cases hrw

theorem ORel.lower {P : Program} {B B' : Nat} {ρ : Ren} {t : Ent} {o : AObj} {w : World} (h : ORel P B ρ t o w) (hb : B' ≤ B) : ORel P B' ρ t o w := by
  cases o with
  | dead => trivial
  | cells c e rw =>
    obtain ⟨C, fz, h1, h2, h3, h4, h5⟩ := h
    exact ⟨C, fz, h1, fun hh => ⟨(h2 hh).1, Nat.le_trans hb (h2 hh).2⟩, h3, h4, h5⟩
  | map es clock =>
    obtain ⟨es', h1, h2, h3⟩ := h
    exact ⟨es', h1, Nat.le_trans hb h2, h3⟩
  | loop l =>
    obtain ⟨l', h1, h2, h3⟩ := h
    exact ⟨l', h1, h2, Nat.le_trans hb h3⟩
  | deferred => exact ⟨h.1, Nat.le_trans hb h.2⟩
  | iter m since seen last =>
    obtain ⟨m', h1, h2, h3, h4⟩ := h
    exact ⟨m', h1, h2, h3, Nat.le_trans hb h4⟩

/-- A call that is known wherever what it reads is such: its answer, the blocks that it makes. -/
structure Reader where
  f : FuncId
  args : List Value
  M : List AObj
  v : Value
  new : List AObj

def Reader.Ok (P : Program) (k : Reader) : Prop :=
  (∃ fn c, P.funcs[k.f]? = some fn ∧ fn.body = some c) ∧ k.M.all maskOk = true ∧ k.new.all newOk = true ∧
    ∀ ρ w args', WRel P w.heap.size ρ k.M w → ARel ρ ⟨k.args⟩ args' → Calls P k.f args' w fun e w1 =>
      ∃ v' ρ1, e = .returned v' ∧ ρ <+: ρ1 ∧ WRel P w.heap.size ρ1 (k.M ++ k.new) w1 ∧ Below w.heap.size w w1 ∧ VRel ρ1 k.v v'

def askR (f : FuncId) (args : List Value) (st : St) : List Reader → Option (Value × St)
  | [] => none
  | k :: ks => if Nat.beq f k.f && beqL (beqV 5) args k.args && fitsL k.M st.H then some (k.v, ⟨st.H ++ k.new, st.lo⟩) else askR f args st ks

def tabR (ks : List Reader) : Tab := fun f args st => askR f args.toList st ks

theorem tabR_sound {P : Program} : ∀ {ks : List Reader}, (∀ k ∈ ks, k.Ok P) → SoundF P (tabR ks)
  | [], _ => fun _ _ _ _ _ h => by cases h
  | k :: ks, hk => by
    intro f args st v st1 h
    simp only [tabR, askR] at h
    split at h
    · rename_i hc
      simp only [Bool.and_eq_true, Nat.beq_eq] at hc
      obtain ⟨⟨hf, ha⟩, hH⟩ := hc
      simp only [Option.some.injEq, Prod.mk.injEq] at h
      obtain ⟨rfl, rfl⟩ := h
      obtain ⟨h1, hM, hN, h2⟩ := hk k (by simp)
      have ha' : args = ⟨k.args⟩ := Array.toList_inj.1 (beqL_eq (beqV_eq 5) ha)
      subst hf
      refine ⟨Nat.le_refl _, h1, ?_⟩
      intro B ρ w args' hw hr
      rw [ha'] at hr
      have hlen := fitsL_length hH
      have hlr := hw.len
      refine Calls.mono (h2 ρ w args' (fits_world hM hH hw) hr) ?_
      rintro e w1 ⟨v', ρ1, he, hext, hrel, hb, hv⟩
      have old : ∀ b t, b < st.H.length → ρ1[b]? = some t → ρ[b]? = some t := by
        intro b t hb1 ht
        have hlt : b < ρ.length := by omega
        have h3 : ρ[b]? = some ρ[b] := List.getElem?_eq_getElem hlt
        have := prefix_get hext h3
        rw [ht] at this
        rw [h3]; exact this.symm
      have live_of_rw : ∀ o : AObj, o.rw = true → o.live = true := fun o ho => by cases o <;> first | rfl | cases ho
      have rw_of_live : ∀ (b : Nat) (o : AObj), ¬ b < st.H.length → (st.H ++ k.new)[b]? = some o → o.live = true → o.rw = true := by
        intro b o hb1 ho hl
        rw [List.getElem?_append_right (by omega)] at ho
        rw [List.all_eq_true] at hN
        have := hN o (List.mem_of_getElem? ho)
        cases o <;> simp_all [newOk, AObj.rw, AObj.live]
      have getN : ∀ (b : Nat) (o : AObj), ¬ b < st.H.length → (st.H ++ k.new)[b]? = some o → (k.M ++ k.new)[b]? = some o := by
        intro b o hb1 ho
        rw [List.getElem?_append_right (by omega)] at ho
        rw [List.getElem?_append_right (by omega), hlen]
        exact ho
      have getO : ∀ (b : Nat) (o : AObj), b < st.H.length → (st.H ++ k.new)[b]? = some o → st.H[b]? = some o := by
        intro b o hb1 ho
        rw [List.getElem?_append_left hb1] at ho
        exact ho
      have hbB : B ≤ w.heap.size := hw.base
      refine ⟨v', ρ1, he, ⟨hext, ⟨?_, ?_, ?_, Nat.le_trans hbB hb.size⟩, hb.mono hbB, ?_, ?_, by simp, ⟨?_, fun j hj _ => hb.block j hj⟩⟩, hv⟩
      · have := hrel.len
        simp only [List.length_append] at this ⊢
        omega
      · intro b t o ht ho
        by_cases hlt : b < st.H.length
        · have h3 := hw.blk b t o (old b t hlt ht) (getO b o hlt ho)
          exact h3.keep hext fun hl => hb.block _ (h3.lt hl)
        · exact (hrel.blk b t o ht (getN b o hlt ho)).lower hbB
      · intro b b' t t' o o' hne ht ht' ho ho' hrw hl
        by_cases hlt : b < st.H.length <;> by_cases hlt' : b' < st.H.length
        · exact hw.inj b b' t t' o o' hne (old b t hlt ht) (old b' t' hlt' ht') (getO b o hlt ho) (getO b' o' hlt' ho') hrw hl
        · have h3 := (hw.blk b t o (old b t hlt ht) (getO b o hlt ho)).lt (live_of_rw o hrw)
          have h4 := (hrel.blk b' t' o' ht' (getN b' o' hlt' ho')).base (rw_of_live b' o' hlt' ho' hl)
          omega
        · have h3 := (hw.blk b' t' o' (old b' t' hlt' ht') (getO b' o' hlt' ho')).lt hl
          have h4 := (hrel.blk b t o ht (getN b o hlt ho)).base hrw
          omega
        · exact hrel.inj b b' t t' o o' hne ht ht' (getN b o hlt ho) (getN b' o' hlt' ho') hrw hl
      · intro b _ hlt
        rw [List.getElem?_append_left hlt]
      · intro b t o _ ht ho hl
        exact hb.block _ ((hw.blk b t o ht ho).lt hl)
      · rintro j ⟨b, t, o, ht, ho, hl, rfl⟩
        by_cases hlt : b < st.H.length
        · exact .inr ⟨b, t, o, old b t hlt ht, getO b o hlt ho, hl, rfl⟩
        · exact .inl ((hrel.blk b t o ht (getN b o hlt ho)).base (rw_of_live b o hlt ho hl))
    · exact tabR_sound (fun k' hk' => hk k' (by simp [hk'])) f args st v st1 h

/-- Does a block serve for what is kept of it? -/
def keepsO : AObj → AObj → Bool
  | .dead, _ => true
  | .cells c e b, .cells c' e' b' => Nat.beq e e' && b == b' && beqL (beqV 5) c c'
  | .map es k, .map es' k' => Nat.beq k k' && beqL (fun x y => beqV 5 x.key y.key && beqV 5 x.val y.val && Nat.beq x.born y.born) es es'
  | _, _ => false

def keepsL : List AObj → List AObj → Bool
  | [], [] => true
  | m :: ms, o :: os => keepsO m o && keepsL ms os
  | _, _ => false

theorem keepsO_eq {m o : AObj} (h : keepsO m o = true) : m = .dead ∨ m = o := by
  cases m with
  | dead => exact .inl rfl
  | cells c e b =>
    cases o with
    | cells c' e' b' => exact .inr (beqO_eq _ _ h)
    | _ => cases h
  | map es k =>
    cases o with
    | map es' k' => exact .inr (beqO_eq _ _ h)
    | _ => cases h
  | _ => cases h

theorem keepsL_length : ∀ {M H : List AObj}, keepsL M H = true → M.length = H.length
  | [], [], _ => rfl
  | m :: ms, o :: os, h => by
    simp only [keepsL, Bool.and_eq_true] at h
    simp [keepsL_length h.2]
  | [], _ :: _, h => by cases h
  | _ :: _, [], h => by cases h

theorem keepsL_get : ∀ {M H : List AObj}, keepsL M H = true → ∀ (b : Nat) (m : AObj), M[b]? = some m → ∃ o, H[b]? = some o ∧ keepsO m o = true
  | [], [], _, b, m, hm => by simp at hm
  | m :: ms, o :: os, h, b, x, hx => by
    simp only [keepsL, Bool.and_eq_true] at h
    cases b with
    | zero => simp at hx; subst hx; exact ⟨o, by simp, h.1⟩
    | succ b =>
      simp at hx
      obtain ⟨o', h1, h2⟩ := keepsL_get h.2 b x hx
      exact ⟨o', by simpa using h1, h2⟩
  | [], _ :: _, h, _, _, _ => by cases h
  | _ :: _, [], h, _, _, _ => by cases h

theorem keeps_world {P : Program} {B : Nat} {ρ : Ren} {M H : List AObj} {w : World} (h : keepsL M H = true) (hw : WRel P B ρ H w) : WRel P B ρ M w := by
  refine ⟨by rw [hw.len, keepsL_length h], ?_, ?_, hw.base⟩
  · intro b t m ht hm
    obtain ⟨o, ho, hf⟩ := keepsL_get h b m hm
    rcases keepsO_eq hf with rfl | rfl
    · trivial
    · exact hw.blk b t _ ht ho
  · intro b b' t t' m m' hne ht ht' hm hm' hrw hl
    obtain ⟨o, ho, hf⟩ := keepsL_get h b m hm
    obtain ⟨o', ho', hf'⟩ := keepsL_get h b' m' hm'
    rcases keepsO_eq hf with rfl | rfl
    · cases hrw
    · rcases keepsO_eq hf' with rfl | rfl
      · cases hl
      · exact hw.inj b b' t t' _ _ hne ht ht' ho ho' hrw hl

/-- A run against what is said of it. -/
def met (k : Reader) : Option (Value × St) → Bool
  | some (v, st1) => beqV 5 k.v v && keepsL (k.M ++ k.new) st1.H
  | none => false

theorem Reader.ok {P : Program} (hP : POk P) {T : Tab} (hT : SoundF P T) {n : Nat} {k : Reader} (hM : k.M.all maskOk = true) (hN : k.new.all newOk = true)
    (h : met k ((evsT P T n).2 k.f ⟨k.args⟩ ⟨k.M, k.M.length⟩) = true) : k.Ok P := by
  unfold met at h
  split at h
  · rename_i v st1 he
    simp only [Bool.and_eq_true] at h
    obtain ⟨hv, hH⟩ := h
    have hv := beqV_eq 5 _ _ hv
    obtain ⟨_, hb, hs⟩ := (evsT_sound hP hT n).2.2 _ _ _ _ _ he
    refine ⟨hb, hM, hN, fun ρ w args' hw ha => ?_⟩
    refine Calls.mono (hs w.heap.size ρ w args' hw ha) ?_
    rintro e w1 ⟨v', ρ1, he, hm, hvr⟩
    rw [hv]
    exact ⟨v', ρ1, he, hm.ext, keeps_world hH hm.rel, hm.below, hvr⟩
  · cases h

theorem ok_nil {P : Program} : ∀ k ∈ ([] : List Reader), k.Ok P := fun _ h => by cases h

theorem ok_cons {P : Program} {k : Reader} {ks : List Reader} (h : k.Ok P) (hs : ∀ k ∈ ks, k.Ok P) : ∀ x ∈ k :: ks, x.Ok P := by
  intro x hx
  cases hx with
  | head => exact h
  | tail _ hx => exact hs x hx

/-- A known call without arguments, its answer closed, on an empty heap: in any world. -/
theorem Reader.closed {P : Program} {k : Reader} (h : k.Ok P) (ha : k.args = []) (hM : k.M = []) (hv : Go.Abs.closed k.v = true) (w : World) :
    Calls P k.f #[] w fun e w' => e = .returned k.v ∧ Below w.heap.size w w' := by
  obtain ⟨_, _, _, h2⟩ := h
  rw [ha, hM] at h2
  have hw : WRel P w.heap.size [] [] w := ⟨rfl, fun b t o hb => by simp at hb, fun b b' t t' o o' _ hb => by simp at hb, Nat.le_refl _⟩
  refine Calls.mono (h2 [] w #[] hw ⟨rfl, fun i => by simp; exact VRel.undef _⟩) ?_
  rintro e w1 ⟨v', ρ1, rfl, _, _, hb, hr⟩
  exact ⟨by rw [closed_eq 4 hv hr], hb⟩

end Go.Abs
