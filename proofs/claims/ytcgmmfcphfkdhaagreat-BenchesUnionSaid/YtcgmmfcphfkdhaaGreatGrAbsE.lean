/- The abstract machine, part GrAbsE. -/
import Derived.Test.YtcgmmfcphfkdhaaGreatAbsV
/- The abstract machine, whole: what it answers, the program answers. -/
namespace Go.Abs
open Go Go.RowKit

structure Known where
 f : FuncId
 args : Array Value
 st : St
 v : Value
 st1 : St

abbrev Tab := FuncId → Array Value → St → Option (Value × St)

end Go.Abs

/- The abstract machine: a table of calls that are known. -/
namespace Go.Abs
open Go Go.RowKit

structure Entry where
 f : FuncId
 args : List Value
 H : List AObj
 v : Value
 H1 : List AObj
 lo1 : Nat

end Go.Abs

/- The abstract machine: types that are made while the program runs have flat zero values too. -/
namespace Go.Abs
open Go Go.RowKit

def Flat (i : TypeInfo) : Prop := ∀ v, i.zero = some v → (∀ x ∈ v.cells.toList, closedN 3 x = true) ∧ closedN 4 v = true ∧ v.cells.size = i.size

def cellsOk (cs : Array Value) : Prop := ∀ x ∈ cs.toList, closedN 3 x = true

theorem agg_flat {cs : Array Value} (h : cellsOk cs) : closedN 4 (.agg cs) = true := by
 simp only [closedN, List.all_eq_true]
 exact h

theorem word_flat {d : TypeDesc} {s : String} {z : Value} {c : Bool} {b : Nat} (hz : isAtom z = true) : Flat (Made.word d s z c b) := by
 intro v hv
 simp only [Made.word, Option.some.injEq] at hv
 subst hv
 cases z <;> simp_all [closedN, isAtom, Value.cells, Made.word]

theorem forIn_inv {α β : Type} {f : α → β → Option (ForInStep β)} (I : β → Prop) (hf : ∀ a b r, I b → f a b = some r → match r with | .yield b' => I b' | .done b' => I b') :
  ∀ (l : List α) (b b' : β), I b → forIn l b f = some b' → I b' := by
 intro l
 induction l with
 | nil =>
  intro b b' hb h
  simp only [List.forIn_nil, Option.pure_def, Option.some.injEq] at h
  exact h ▸ hb
 | cons a l ih =>
  intro b b' hb h
  rw [List.forIn_cons] at h
  simp only [Option.bind_eq_bind, Option.bind_eq_some_iff] at h
  obtain ⟨r, hr, h⟩ := h
  have := hf a b r hb hr
  cases r with
  | done c =>
   simp only [Option.pure_def, Option.some.injEq] at h
   exact h ▸ this
  | yield c => exact ih c b' this h

abbrev MS := Array Field × Nat × Nat × Nat × Nat × Bool × Bool × Option (Array Value) × String

def MI (s : MS) : Prop := ∀ z, s.2.2.2.2.2.2.2.1 = some z → cellsOk z ∧ z.size = s.2.1

theorem struct_flat {info : TypeId → Option TypeInfo} (hi : ∀ t i, info t = some i → Flat i) {fs : Array Field} {i : TypeInfo} (h : Made.reckonStruct info fs = some i) : Flat i := by
 unfold Made.reckonStruct at h
 simp only [Option.bind_eq_bind, Option.pure_def, Option.bind_eq_some_iff] at h
 obtain ⟨st, hst, h⟩ := h
 rw [← Array.forIn_toList] at hst
 have hI : MI st := by
  refine forIn_inv MI ?_ _ _ _ ?_ hst
  ·intro f s r hs hr
   simp only [Option.bind_eq_some_iff] at hr
   obtain ⟨i, h1, hr⟩ := hr
   have step : ∀ (a : Array Field) (b c d : Nat) (e g : Bool) (t : String), MI (a, s.2.1 + i.size, b, c, d, e, g, (if s.2.1 + i.size > Made.mostCells then none else s.2.2.2.2.2.2.2.1.bind fun z => i.zero.bind fun z1 => some (z ++ z1.cells)), t) := by
    intro a b c d e g t z hz
    simp only at hz ⊢
    split at hz
    ·cases hz
    ·simp only [Option.bind_eq_some_iff, Option.some.injEq] at hz
     obtain ⟨z0, hz0, z1, hz1, rfl⟩ := hz
     obtain ⟨g1, g2⟩ := hs z0 hz0
     obtain ⟨k1, _, k3⟩ := hi _ _ h1 z1 hz1
     refine ⟨?_, by simp [g2, k3]⟩
     intro x hx
     simp only [Array.toList_append, List.mem_append] at hx
     exact hx.elim (g1 x) (k1 x)
   split at hr
   ·cases hr
   ·split at hr
    ·cases hr
    ·split at hr
     all_goals simp only [Option.bind_eq_some_iff] at hr
     all_goals obtain ⟨tag, _, hr⟩ := hr
     all_goals split at hr
     all_goals simp only [Option.some.injEq] at hr
     all_goals subst hr
     all_goals exact step _ _ _ _ _ _ _
  ·intro z hz
   simp only [Option.some.injEq] at hz
   subst hz
   exact ⟨fun x hx => by simp at hx, rfl⟩
 intro v hv
 split at h
 all_goals simp only [Option.some.injEq] at h
 all_goals subst h
 all_goals simp only [Option.map_eq_some_iff] at hv
 all_goals obtain ⟨z, hz, rfl⟩ := hv
 all_goals exact ⟨(hI z hz).1, agg_flat (hI z hz).1, (hI z hz).2⟩

theorem reckon_flat {info : TypeId → Option TypeInfo} (hi : ∀ t i, info t = some i → Flat i) {d : TypeDesc} {i : TypeInfo} (h : Made.reckon info d = some i) : Flat i := by
 unfold Made.reckon at h
 split at h
 ·simp only [Option.bind_eq_bind, Option.pure_def, Option.bind_eq_some_iff] at h
  obtain ⟨j, _, h⟩ := h
  split at h
  ·cases h
  ·split at h
   ·cases h
   ·simp only [Option.bind_eq_some_iff, Option.some.injEq] at h
    obtain ⟨_, _, rfl⟩ := h
    exact word_flat rfl
  ·simp only [Option.bind_eq_some_iff, Option.some.injEq] at h
   obtain ⟨_, _, rfl⟩ := h
   exact word_flat rfl
 ·simp only [Option.bind_eq_bind, Option.pure_def, Option.bind_eq_some_iff, Option.some.injEq] at h
  obtain ⟨_, _, _, _, rfl⟩ := h
  exact word_flat rfl
 ·simp only [Option.bind_eq_bind, Option.pure_def, Option.bind_eq_some_iff, Option.some.injEq] at h
  obtain ⟨_, _, _, _, _, _, _, _, rfl⟩ := h
  exact word_flat rfl
 ·simp only [Option.bind_eq_bind, Option.pure_def, Option.bind_eq_some_iff, Option.some.injEq] at h
  obtain ⟨_, _, _, _, rfl⟩ := h
  exact word_flat rfl
 ·simp only [Option.bind_eq_bind, Option.pure_def, Option.bind_eq_some_iff, Option.some.injEq] at h
  obtain ⟨_, _, rfl⟩ := h
  exact word_flat rfl
 ·simp only [Option.bind_eq_bind, Option.pure_def, Option.bind_eq_some_iff, Option.some.injEq] at h
  obtain ⟨j, hj, _, _, rfl⟩ := h
  intro v hv
  simp only at hv
  split at hv
  ·cases hv
  ·split at hv
   ·rename_i h0
    simp only [Option.some.injEq] at hv
    subst hv
    exact ⟨fun x hx => by simp [Value.cells] at hx, agg_flat (fun x hx => by simp at hx), by simpa [Value.cells] using h0.symm⟩
   ·simp only [Option.map_eq_some_iff] at hv
    obtain ⟨z, hz, rfl⟩ := hv
    obtain ⟨k1, _, k3⟩ := hi _ _ hj z hz
    have hc : ∀ n : Nat, cellsOk (Array.replicate n z.cells).flatten := by
     intro n x hx
     simp only [Array.toList_flatten, Array.toList_replicate, List.map_replicate, List.mem_flatten, List.mem_replicate] at hx
     obtain ⟨l, ⟨_, rfl⟩, hx⟩ := hx
     exact k1 x hx
    refine ⟨hc _, agg_flat (hc _), ?_⟩
    rw [← k3]
    simp [Value.cells]
 ·exact struct_flat hi h
 ·cases h

theorem infoAt_flat {T : Tables} (h : ∀ (t : Nat) (i : TypeInfo), T.types[t]? = some i → Flat i) : ∀ (n : Nat) (t : TypeId) (i : TypeInfo), Made.infoAt T n t = some i → Flat i
 | 0, _, _, hi => by cases hi
 | n + 1, t, i, hi => by
  unfold Made.infoAt at hi
  split at hi
  ·exact h t i hi
  ·simp only [Option.bind_eq_some_iff] at hi
   obtain ⟨d, _, hr⟩ := hi
   exact reckon_flat (infoAt_flat h n) hr

theorem info_flat {T : Tables} (h : ∀ (t : Nat) (i : TypeInfo), T.types[t]? = some i → Flat i) (t : TypeId) (i : TypeInfo) (hi : T.info? t = some i) : Flat i := by
 unfold Tables.info? at hi
 split at hi
 ·exact h t i hi
 ·exact infoAt_flat h _ t i hi

def typesOk (ts : List TypeInfo) : Bool := ts.all fun i => match i.zero with
 | none => true
 | some v => v.cells.toList.all (closedN 3) && closedN 4 v && Nat.beq v.cells.size i.size

def namesOk (fs : List Func) : Bool := fs.all fun f => !(f.name == "runtime.NumGoroutine")

theorem pok_of {P : Program} (ht : typesOk P.types.toList = true) (hn : namesOk P.funcs.toList = true) (hm : P.follows .mixedOrders = true) : POk P := by
 have hfl : ∀ (t : Nat) (i : TypeInfo), P.types[t]? = some i → Flat i := by
  intro t i h1 v hz
  have h2 := List.all_eq_true.1 ht i (by rw [← Array.getElem?_toList] at h1; exact List.mem_of_getElem? h1)
  rw [hz] at h2
  simp only [Bool.and_eq_true, Nat.beq_eq, List.all_eq_true] at h2
  exact ⟨h2.1.1, h2.1.2, h2.2⟩
 exact {
  zero := fun t i v hi hz => (info_flat hfl t i hi v hz).2.1
  zsize := fun t i v hi hz => (info_flat hfl t i hi v hz).2.2
  name := fun f fn hf => by
   have h2 := List.all_eq_true.1 hn fn (by rw [← Array.getElem?_toList] at hf; exact List.mem_of_getElem? hf)
   simpa using h2
  mixed := hm }

end Go.Abs

/- The abstract machine: a table made of contracts. -/
namespace Go.Abs
open Go Go.RowKit

end Go.Abs

/- The abstract machine: known calls that only read what was there: whatever else the heap holds. -/
namespace Go.Abs
open Go Go.RowKit

def maskOk : AObj → Bool
 | .dead => true
 | .cells _ _ b => !b
 | _ => false

def newOk : AObj → Bool
 | .dead => true
 | o => o.rw

theorem mask_rw {m : AObj} (h : maskOk m = true) : m.rw = false := by
 cases m <;> simp_all [maskOk, AObj.rw]

theorem ORel.lower {P : Program} {B B' : Nat} {ρ : Ren} {t : Ent} {o : AObj} {w : World} (h : ORel P B ρ t o w) (hb : B' ≤ B) : ORel P B' ρ t o w := by
 cases o with
 | dead => trivial
 | cells c e rw =>
  obtain ⟨C, fz, h1, h2, h3, h4, h5⟩ := h
  exact ⟨C, fz, h1, fun hh => ⟨(h2 hh).1, Nat.le_trans hb (h2 hh).2⟩, h3, h4, h5⟩
 | map es clock =>
  obtain ⟨es', h1, h2, h3⟩ := h
  exact ⟨es', h1, Nat.le_trans hb h2, h3⟩
 | loop l =>
  obtain ⟨l', h1, h2, h3⟩ := h
  exact ⟨l', h1, h2, Nat.le_trans hb h3⟩
 | deferred => exact ⟨h.1, Nat.le_trans hb h.2⟩
 | iter m since seen last =>
  obtain ⟨m', h1, h2, h3, h4⟩ := h
  exact ⟨m', h1, h2, h3, Nat.le_trans hb h4⟩

structure Reader where
 f : FuncId
 args : List Value
 M : List AObj
 v : Value
 new : List AObj

def Reader.Ok (P : Program) (k : Reader) : Prop :=
 (∃ fn c, P.funcs[k.f]? = some fn ∧ fn.body = some c) ∧ k.M.all maskOk = true ∧ k.new.all newOk = true ∧
  ∀ ρ w args', WRel P w.heap.size ρ k.M w → ARel ρ ⟨k.args⟩ args' → Calls P k.f args' w fun e w1 =>
   ∃ v' ρ1, e = .returned v' ∧ ρ <+: ρ1 ∧ WRel P w.heap.size ρ1 (k.M ++ k.new) w1 ∧ Below w.heap.size w w1 ∧ VRel ρ1 k.v v'

theorem ok_nil {P : Program} : ∀ k ∈ ([] : List Reader), k.Ok P := fun _ h => by cases h

theorem ok_cons {P : Program} {k : Reader} {ks : List Reader} (h : k.Ok P) (hs : ∀ k ∈ ks, k.Ok P) : ∀ x ∈ k :: ks, x.Ok P := by
 intro x hx
 cases hx with
 | head => exact h
 | tail _ hx => exact hs x hx

theorem Reader.closed {P : Program} {k : Reader} (h : k.Ok P) (ha : k.args = []) (hM : k.M = []) (hv : Go.Abs.closed k.v = true) (w : World) :
  Calls P k.f #[] w fun e w' => e = .returned k.v ∧ Below w.heap.size w w' := by
 obtain ⟨_, _, _, h2⟩ := h
 rw [ha, hM] at h2
 have hw : WRel P w.heap.size [] [] w := ⟨rfl, fun b t o hb => by simp at hb, fun b b' t t' o o' _ hb => by simp at hb, Nat.le_refl _⟩
 refine Calls.mono (h2 [] w #[] hw ⟨rfl, fun i => by simp; exact VRel.undef _⟩) ?_
 rintro e w1 ⟨v', ρ1, rfl, _, _, hb, hr⟩
 exact ⟨by rw [closed_eq 4 hv hr], hb⟩

end Go.Abs
