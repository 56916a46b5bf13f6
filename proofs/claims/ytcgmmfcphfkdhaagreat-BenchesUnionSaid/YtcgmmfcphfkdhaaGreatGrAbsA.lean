/- The abstract machine, part GrAbsA. -/
import Derived.CallsIn
import Derived.OrdersIn
import Derived.RangeFuncIn
import Derived.RangeFuncLeaves
import Derived.LoopNIn
import Derived.StillTail
import Derived.Below
import Derived.Wp
import Derived.Laws.Sem
/- The abstract machine: its values, its heap, and what it says of a real world. -/
namespace Go.Abs
open Go Go.RowKit

structure Ent where
 rb : Nat
 ro : Nat
 rn : Nat
 sz : Nat

abbrev Ren := List Ent

def BIG : Nat := 4611686018427387904

def isAtom : Value → Bool
 | .bool _ | .int _ _ | .float _ _ | .complex _ _ _ | .string _ | .pointer none | .map none | .chan none | .nilFunc | .nilIface => true
 | .slice none l c => l == 0 && c == 0
 | _ => false

def closedN : Nat → Value → Bool
 | 0, v => isAtom v
 | n + 1, .agg cs => cs.toList.all (closedN n)
 | n + 1, .tuple cs => cs.toList.all (closedN n)
 | _ + 1, .func (.func _) fi ca => fi.toList.isEmpty && ca.toList.isEmpty
 | _ + 1, v => isAtom v

abbrev closed (v : Value) : Bool := closedN 4 v

inductive VRel (ρ : Ren) : Value → Value → Prop
 | atom {v : Value} (h : isAtom v = true) : VRel ρ v v
 | ptr {b o : Nat} {t : Ent} (h : ρ[b]? = some t) : VRel ρ (.pointer (some ⟨b, o, none⟩)) (.pointer (some ⟨t.rb, t.ro + o, none⟩))
 | slice {b o len cap : Nat} {t : Ent} (h : ρ[b]? = some t) (hc : cap < BIG) :
   VRel ρ (.slice (some ⟨b, o, none⟩) len cap) (.slice (some ⟨t.rb, t.ro + o, none⟩) len cap)
 | grown {b o len c o' cap' : Nat} {t : Ent} (h : ρ[b]? = some t) (hl : len ≤ c) (hc : c ≤ cap') (ho : 0 < c → o' = t.ro + o) (hn : o' + cap' * t.sz ≤ t.rn) :
   VRel ρ (.slice (some ⟨b, o, none⟩) len (BIG + c)) (.slice (some ⟨t.rb, o', none⟩) len cap')
 | map {b : Nat} {t : Ent} (h : ρ[b]? = some t) : VRel ρ (.map (some b)) (.map (some t.rb))
 | func {f : FuncId} {fi ca fi' ca' : Array Value} (h1 : fi.size = fi'.size) (h2 : ∀ i, VRel ρ (fi.getD i undef) (fi'.getD i undef))
   (h3 : ca.size = ca'.size) (h4 : ∀ i, VRel ρ (ca.getD i undef) (ca'.getD i undef)) : VRel ρ (.func (.func f) fi ca) (.func (.func f) fi' ca')
 | yield {b : Nat} {t : Ent} (h : ρ[b]? = some t) : VRel ρ (.func (.yield b) #[] #[]) (.func (.yield t.rb) #[] #[])
 | agg {cs cs' : Array Value} (h1 : cs.size = cs'.size) (h2 : ∀ i, VRel ρ (cs.getD i undef) (cs'.getD i undef)) : VRel ρ (.agg cs) (.agg cs')
 | nil : VRel ρ (.tuple #[]) (.tuple #[])
 | tuple {cs cs' : Array Value} (h1 : cs.size = cs'.size) (h2 : ∀ i, VRel ρ (cs.getD i undef) (cs'.getD i undef)) : VRel ρ (.tuple cs) (.tuple cs')

def ARel (ρ : Ren) (xs ys : Array Value) : Prop := xs.size = ys.size ∧ ∀ i, VRel ρ (xs.getD i undef) (ys.getD i undef)

theorem VRel.undef (ρ : Ren) : VRel ρ undef undef := .nil

theorem prefix_get {ρ ρ' : Ren} (h : ρ <+: ρ') {b : Nat} {t : Ent} (hb : ρ[b]? = some t) : ρ'[b]? = some t := by
 obtain ⟨s, rfl⟩ := h
 rw [List.getElem?_append_left]
 ·exact hb
 ·exact (List.getElem?_eq_some_iff.1 hb).1

theorem VRel.mono {ρ ρ' : Ren} (hρ : ρ <+: ρ') {v v' : Value} (h : VRel ρ v v') : VRel ρ' v v' := by
 induction h with
 | atom h => exact .atom h
 | ptr h => exact .ptr (prefix_get hρ h)
 | slice h hc => exact .slice (prefix_get hρ h) hc
 | grown h hl hc ho hn => exact .grown (prefix_get hρ h) hl hc ho hn
 | map h => exact .map (prefix_get hρ h)
 | func h1 _ h3 _ i2 i4 => exact .func h1 i2 h3 i4
 | yield h => exact .yield (prefix_get hρ h)
 | agg h1 _ i2 => exact .agg h1 i2
 | nil => exact .nil
 | tuple h1 _ i2 => exact .tuple h1 i2

theorem ARel.mono {ρ ρ' : Ren} (hρ : ρ <+: ρ') {xs ys : Array Value} (h : ARel ρ xs ys) : ARel ρ' xs ys := ⟨h.1, fun i => (h.2 i).mono hρ⟩

theorem all_getD {cs : Array Value} {p : Value → Bool} (h : cs.toList.all p = true) (i : Nat) (hi : i < cs.size) : p (cs.getD i undef) = true := by
 have h1 := List.all_eq_true.1 h (cs[i]) (by simp)
 simpa [hi] using h1

theorem closed_rel (ρ : Ren) : ∀ (n : Nat) (v : Value), closedN n v = true → VRel ρ v v := by
 intro n
 induction n with
 | zero => intro v h; exact .atom h
 | succ n ih =>
  intro v h
  have arr : ∀ cs : Array Value, cs.toList.all (closedN n) = true → ∀ i, VRel ρ (cs.getD i undef) (cs.getD i undef) := by
   intro cs hc i
   by_cases hi : i < cs.size
   ·exact ih _ (all_getD hc i hi)
   ·simp [hi]; exact .nil
  cases v with
  | agg cs => exact .agg rfl (arr cs h)
  | tuple cs => exact .tuple rfl (arr cs h)
  | func fn fi ca =>
   cases fn with
   | func f =>
    simp only [closedN, Bool.and_eq_true, List.isEmpty_iff] at h
    obtain ⟨h1, h2⟩ := h
    have e1 : fi = #[] := by simpa using h1
    have e2 : ca = #[] := by simpa using h2
    subst e1; subst e2
    exact .func rfl (fun i => by simp; exact .nil) rfl (fun i => by simp; exact .nil)
   | _ => simp [closedN, isAtom] at h
  | _ => exact .atom (by simpa [closedN] using h)

theorem arr_eq {xs ys : Array Value} (h : xs.size = ys.size) (h2 : ∀ i, i < xs.size → ys.getD i undef = xs.getD i undef) : ys = xs := by
 apply Array.ext h.symm
 intro i hi hi'
 have := h2 i hi'
 simpa [hi, hi'] using this

theorem isAtom_rel {ρ : Ren} {v v' : Value} (h : VRel ρ v v') (ha : isAtom v = true) : v' = v := by
 cases h <;> first | rfl | (simp [isAtom] at ha)

theorem closed_eq {ρ : Ren} : ∀ (n : Nat) {v v' : Value}, closedN n v = true → VRel ρ v v' → v' = v := by
 intro n
 induction n with
 | zero => intro v v' h hr; exact isAtom_rel hr h
 | succ n ih =>
  intro v v' h hr
  have arr : ∀ cs cs' : Array Value, cs.toList.all (closedN n) = true → cs.size = cs'.size → (∀ i, VRel ρ (cs.getD i undef) (cs'.getD i undef)) → cs' = cs := by
   intro cs cs' hc hs hv
   exact arr_eq hs fun i hi => ih (all_getD hc i hi) (hv i)
  cases hr with
  | atom ha => rfl
  | agg h1 h2 => rw [arr _ _ h h1 h2]
  | nil => rfl
  | tuple h1 h2 => rw [arr _ _ h h1 h2]
  | func h1 h2 h3 h4 =>
   rename_i f fi ca fi' ca'
   simp only [closedN, Bool.and_eq_true, List.isEmpty_iff] at h
   obtain ⟨e1, e2⟩ := h
   have e1 : fi = #[] := by simpa using e1
   have e2 : ca = #[] := by simpa using e2
   subst e1; subst e2
   have : fi' = #[] := by simpa using h1.symm
   have : ca' = #[] := by simpa using h3.symm
   simp_all
  | _ => simp [closedN, isAtom] at h

/-! ### The heap -/

inductive AObj where
 | dead
 | cells (c : List Value) (e : TypeId) (rw : Bool)
 | map (es : List MapEntry) (clock : Nat)
 | loop (l : Loop)
 | deferred
 | iter (m : Option Nat) (since : Nat) (seen : List Nat) (last : Nat)

def AObj.rw : AObj → Bool
 | .dead => false
 | .cells _ _ b => b
 | _ => true

def AObj.live : AObj → Bool
 | .dead => false
 | _ => true

def entOk (e : MapEntry) : Bool := closed e.key && closed e.val

def keyOk (e : MapEntry) : Bool := closed e.key

def EsRel (ρ : Ren) : List MapEntry → List MapEntry → Prop
 | [], [] => True
 | e :: es, e' :: es' => (closed e.key = true ∧ e'.key = e.key ∧ e'.born = e.born ∧ VRel ρ e.val e'.val) ∧ EsRel ρ es es'
 | _, _ => False

theorem EsRel.mono {ρ ρ' : Ren} (h : ρ <+: ρ') : ∀ {es es' : List MapEntry}, EsRel ρ es es' → EsRel ρ' es es'
 | [], [], _ => trivial
 | _ :: _, _ :: _, ⟨⟨h1, h2, h3, h4⟩, h5⟩ => ⟨⟨h1, h2, h3, h4.mono h⟩, h5.mono h⟩
 | [], _ :: _, h => h.elim
 | _ :: _, [], h => h.elim

theorem EsRel.len {ρ : Ren} : ∀ {es es' : List MapEntry}, EsRel ρ es es' → es'.length = es.length
 | [], [], _ => rfl
 | _ :: _, _ :: _, ⟨_, h⟩ => by simp [h.len]
 | [], _ :: _, h => h.elim
 | _ :: _, [], h => h.elim

def szOf (P : Program) (e : TypeId) : Nat := ((P.info? e).map (·.size)).getD 0

structure LoopRel (ρ : Ren) (l l' : Loop) : Prop where
 state : l'.state = l.state
 pending : l'.pending = l.pending
 tmps : ARel ρ l.tmps l'.tmps
 params : l'.params = l.params
 assign : l'.assign = l.assign
 body : l'.body = l.body
 defers : ∃ t, ρ[l.defers]? = some t ∧ l'.defers = t.rb

def ORel (P : Program) (B : Nat) (ρ : Ren) (t : Ent) : AObj → World → Prop
 | .dead, _ => True
 | .cells c e rw, w => ∃ C fz, w.heap[t.rb]? = some (.cells C e fz) ∧ (rw = true → fz = (0, 0) ∧ B ≤ t.rb) ∧ C.size = t.rn ∧ szOf P e = t.sz ∧
   ∀ i v, c[i]? = some v → ∃ v', C[t.ro + i]? = some v' ∧ VRel ρ v v'
 | .map es clock, w => ∃ es', w.heap[t.rb]? = some (.map es' clock) ∧ B ≤ t.rb ∧ EsRel ρ es es'.toList
 | .loop l, w => ∃ l', w.heap[t.rb]? = some (.loop l') ∧ LoopRel ρ l l' ∧ B ≤ t.rb
 | .deferred, w => w.heap[t.rb]? = some (.deferred (some [])) ∧ B ≤ t.rb
 | .iter m since seen last, w => ∃ m', w.heap[t.rb]? = some (.mapIter m' since seen.toArray last) ∧ (match m with
   | none => m' = none
   | some b => ∃ u, ρ[b]? = some u ∧ m' = some u.rb) ∧ t.ro = 0 ∧ B ≤ t.rb

structure WRel (P : Program) (B : Nat) (ρ : Ren) (H : List AObj) (w : World) : Prop where
 len : ρ.length = H.length
 blk : ∀ (b : Nat) (t : Ent) (o : AObj), ρ[b]? = some t → H[b]? = some o → ORel P B ρ t o w
 inj : ∀ (b b' : Nat) (t t' : Ent) (o o' : AObj), b ≠ b' → ρ[b]? = some t → ρ[b']? = some t' → H[b]? = some o → H[b']? = some o' → o.rw = true → o'.live = true → t.rb ≠ t'.rb
 base : B ≤ w.heap.size

/-! ### Running a Sem tree on the abstract heap -/

def toA : Obj → Option AObj
 | .cells c e (0, 0) => some (.cells c.toList e true)
 | .map es clock => if es.isEmpty then some (.map es.toList clock) else none
 | _ => none

def arun (P : Program) {α : Type} : Sem α → List AObj → Nat → Option (α × List AObj × Nat)
 | .pure a, H, lo => some (a, H, lo)
 | .load _ a k, H, lo =>
  match a.spot, H[a.block]? with
  | none, some (.cells c _ _) => match c[a.off]? with
   | some v => arun P (k v) H lo
   | none => none
  | _, _ => none
 | .store _ a v k, H, lo =>
  match a.spot, H[a.block]? with
  | none, some (.cells c e true) =>
   if v.oneCell && decide (a.off < c.length) then arun P k (H.set a.block (.cells (c.set a.off v) e true)) (min lo a.block) else none
  | _, _ => none
 | .new o k, H, lo =>
  match toA o with
  | some ao => arun P (k H.length) (H ++ [ao]) lo
  | none => none
 | .getObj r k, H, lo =>
  match H[r]? with
  | some (.map es clock) => arun P (k (.map es.toArray clock)) H lo
  | _ => none
 | .setObj r o k, H, lo =>
  match H[r]?, o with
  | some (.map _ _), .map es clock => if es.toList.all entOk then arun P k (H.set r (.map es.toList clock)) (min lo r) else none
  | _, _ => none
 | .program k, H, lo => arun P (k P) H lo
 | .mark _ k, H, lo => arun P k H lo
 | _, _, _ => none

end Go.Abs

/- The abstract machine: what a Sem tree does on the abstract heap it does in the real world. -/
namespace Go.Abs
open Go Go.RowKit

variable {P : Program} {B : Nat}

theorem LoopRel.mono {ρ ρ' : Ren} (hρ : ρ <+: ρ') {l l' : Loop} (h : LoopRel ρ l l') : LoopRel ρ' l l' :=
 ⟨h.state, h.pending, h.tmps.mono hρ, h.params, h.assign, h.body, let ⟨t, h1, h2⟩ := h.defers; ⟨t, prefix_get hρ h1, h2⟩⟩

theorem ORel.keep {ρ ρ' : Ren} (hρ : ρ <+: ρ') {t : Ent} {o : AObj} {w w' : World} (h : ORel P B ρ t o w) (hb : o.live = true → w'.heap[t.rb]? = w.heap[t.rb]?) : ORel P B ρ' t o w' := by
 cases o with
 | dead => trivial
 | cells c e rw =>
  obtain ⟨C, fz, h1, h2, h3, h4, h5⟩ := h
  refine ⟨C, fz, (hb rfl).trans h1, h2, h3, h4, fun i v hv => ?_⟩
  obtain ⟨v', g1, g2⟩ := h5 i v hv
  exact ⟨v', g1, g2.mono hρ⟩
 | map es clock =>
  obtain ⟨es', h1, h2, h3⟩ := h
  exact ⟨es', (hb rfl).trans h1, h2, h3.mono hρ⟩
 | loop l =>
  obtain ⟨l', h1, h2, h3⟩ := h
  exact ⟨l', (hb rfl).trans h1, h2.mono hρ, h3⟩
 | deferred => exact ⟨(hb rfl).trans h.1, h.2⟩
 | iter m since seen last =>
  obtain ⟨m', h1, h2, h3, h4⟩ := h
  refine ⟨m', (hb rfl).trans h1, ?_, h3, h4⟩
  cases m with
  | none => exact h2
  | some b =>
   obtain ⟨u, g1, g2⟩ := h2
   exact ⟨u, prefix_get hρ g1, g2⟩

theorem ORel.lt {ρ : Ren} {t : Ent} {o : AObj} {w : World} (h : ORel P B ρ t o w) (hl : o.live = true) : t.rb < w.heap.size := by
 have key : ∀ x, w.heap[t.rb]? = some x → t.rb < w.heap.size := fun x hx => (Array.getElem?_eq_some_iff.1 hx).1
 cases o with
 | dead => cases hl
 | cells c e rw => obtain ⟨C, fz, h1, _⟩ := h; exact key _ h1
 | map es clock => obtain ⟨es', h1, _⟩ := h; exact key _ h1
 | loop l => obtain ⟨l', h1, _⟩ := h; exact key _ h1
 | deferred => exact key _ h.1
 | iter m since seen last => obtain ⟨m', h1, _⟩ := h; exact key _ h1

theorem ORel.base {ρ : Ren} {t : Ent} {o : AObj} {w : World} (h : ORel P B ρ t o w) (hl : o.rw = true) : B ≤ t.rb := by
 cases o with
 | dead => cases hl
 | cells c e rw => obtain ⟨C, fz, h1, h2, _⟩ := h; exact (h2 hl).2
 | map es clock => obtain ⟨es', h1, h2, _⟩ := h; exact h2
 | loop l => obtain ⟨l', h1, _, h3⟩ := h; exact h3
 | deferred => exact h.2
 | iter m since seen last => obtain ⟨m', _, _, _, h4⟩ := h; exact h4

theorem WRel.lt {ρ : Ren} {H : List AObj} {w : World} (h : WRel P B ρ H w) {b : Nat} {t : Ent} (ht : ρ[b]? = some t) : b < H.length := by
 rw [← h.len]; exact (List.getElem?_eq_some_iff.1 ht).1

theorem WRel.drawn {ρ : Ren} {H : List AObj} {w w' : World} (h : WRel P B ρ H w) (hw : w'.heap = w.heap) : WRel P B ρ H w' :=
 ⟨h.len, fun b t o h1 h2 => (h.blk b t o h1 h2).keep (List.prefix_refl _) (fun _ => by rw [hw]), h.inj, by rw [hw]; exact h.base⟩

theorem WRel.push {ρ : Ren} {H : List AObj} {w : World} (h : WRel P B ρ H w) {o : Obj} {ao : AObj} {t : Ent} (ht : t.rb = w.heap.size)
  (ho : ORel P B (ρ ++ [t]) t ao { w with heap := w.heap.push o }) : WRel P B (ρ ++ [t]) (H ++ [ao]) { w with heap := w.heap.push o } := by
 have hbase := h.base
 refine ⟨by simp [h.len], ?_, ?_, by simp; omega⟩
 ·intro b u o' hu ho'
  rcases Nat.lt_trichotomy b H.length with hb | hb | hb
  ·rw [List.getElem?_append_left (by rw [h.len]; exact hb)] at hu
   rw [List.getElem?_append_left hb] at ho'
   have h1 := h.blk b u o' hu ho'
   refine h1.keep (List.prefix_append _ _) (fun hl => ?_)
   have := h1.lt hl
   show (w.heap.push o)[u.rb]? = _
   rw [Array.getElem?_push, if_neg (by omega)]
  ·subst hb
   rw [List.getElem?_append_right (by rw [h.len]; exact Nat.le_refl _), h.len, Nat.sub_self] at hu
   rw [List.getElem?_append_right (Nat.le_refl _), Nat.sub_self] at ho'
   simp at hu ho'
   subst hu; subst ho'
   exact ho
  ·rw [List.getElem?_eq_none (by simp; omega)] at ho'
   cases ho'
 ·intro b b' u u' x x' hne hu hu' hx hx' hrw hl
  have old : ∀ c (v : Ent) y, (ρ ++ [t])[c]? = some v → (H ++ [ao])[c]? = some y → c < H.length ∧ ρ[c]? = some v ∧ H[c]? = some y ∨ c = H.length ∧ v = t ∧ y = ao := by
   intro c v y hv hy
   rcases Nat.lt_trichotomy c H.length with hb | hb | hb
   ·left
    rw [List.getElem?_append_left (by rw [h.len]; exact hb)] at hv
    rw [List.getElem?_append_left hb] at hy
    exact ⟨hb, hv, hy⟩
   ·right
    subst hb
    rw [List.getElem?_append_right (by rw [h.len]; exact Nat.le_refl _), h.len, Nat.sub_self] at hv
    rw [List.getElem?_append_right (Nat.le_refl _), Nat.sub_self] at hy
    simp at hv hy
    exact ⟨rfl, hv.symm, hy.symm⟩
   ·rw [List.getElem?_eq_none (by simp; omega)] at hy
    cases hy
  have live_of_rw : ∀ o : AObj, o.rw = true → o.live = true := fun o ho => by cases o <;> first | rfl | cases ho
  rcases old b u x hu hx with ⟨h1, h2, h3⟩ | ⟨h1, h2, h3⟩ <;> rcases old b' u' x' hu' hx' with ⟨g1, g2, g3⟩ | ⟨g1, g2, g3⟩
  ·exact h.inj b b' u u' x x' hne h2 g2 h3 g3 hrw hl
  ·have := (h.blk b u x h2 h3).lt (live_of_rw _ hrw)
   rw [g2, ht]; omega
  ·have := (h.blk b' u' x' g2 g3).lt hl
   rw [h2, ht]; omega
  ·omega

theorem WRel.setBlock {ρ : Ren} {H : List AObj} {w : World} (h : WRel P B ρ H w) {b : Nat} {t : Ent} {o o' : AObj} {w' : World} (ht : ρ[b]? = some t) (ho : H[b]? = some o) (hrw : o.rw = true)
  (hs : w'.heap.size = w.heap.size) (hw : ∀ k, k ≠ t.rb → w'.heap[k]? = w.heap[k]?) (hn : ORel P B ρ t o' w') : WRel P B ρ (H.set b o') w' := by
 have hbl : b < H.length := h.lt ht
 have live_of_rw : ∀ o : AObj, o.rw = true → o.live = true := fun o ho => by cases o <;> first | rfl | cases ho
 refine ⟨by simp [h.len], ?_, ?_, by rw [hs]; exact h.base⟩
 ·intro c u x hu hx
  by_cases hcb : c = b
  ·subst hcb
   rw [List.getElem?_set_self (by omega)] at hx
   rw [ht] at hu; cases hu; cases hx
   exact hn
  ·rw [List.getElem?_set_ne (by omega)] at hx
   refine (h.blk c u x hu hx).keep (List.prefix_refl _) (fun hl => hw _ ?_)
   exact fun e => h.inj b c t u o x (by omega) ht hu ho hx hrw hl e.symm
 ·intro c c' u u' x x' hne hu hu' hx hx' hr hl
  by_cases hcb : c = b
  ·subst hcb
   rw [List.getElem?_set_self (by omega)] at hx
   rw [List.getElem?_set_ne (by omega)] at hx'
   rw [ht] at hu; cases hu
   exact h.inj c c' t u' o x' hne ht hu' ho hx' hrw hl
  ·rw [List.getElem?_set_ne (by omega)] at hx
   by_cases hcb' : c' = b
   ·subst hcb'
    rw [ht] at hu'; cases hu'
    exact h.inj c c' u t x o hne hu ht hx ho hr (live_of_rw _ hrw)
   ·rw [List.getElem?_set_ne (by omega)] at hx'
    exact h.inj c c' u u' x x' hne hu hu' hx hx' hr hl

end Go.Abs

/- The abstract machine: Sem trees side by side. -/
namespace Go.Abs
open Go Go.RowKit

variable {P : Program} {B : Nat}

def Imgs (ρ : Ren) (H : List AObj) (k : Nat) : Prop := ∃ (b : Nat) (t : Ent) (o : AObj), ρ[b]? = some t ∧ H[b]? = some o ∧ o.live = true ∧ t.rb = k

theorem live_of_rw : ∀ o : AObj, o.rw = true → o.live = true := fun o ho => by cases o <;> first | rfl | cases ho

structure Frames (ρ : Ren) (H : List AObj) (w : World) (ρ1 : Ren) (H1 : List AObj) (w1 : World) : Prop where
 img : ∀ k, Imgs ρ1 H1 k → w.heap.size ≤ k ∨ Imgs ρ H k
 same : ∀ k, k < w.heap.size → ¬ Imgs ρ H k → w1.heap[k]? = w.heap[k]?

theorem Frames.refl (ρ : Ren) (H : List AObj) (w : World) : Frames ρ H w ρ H w := ⟨fun _ h => .inr h, fun _ _ _ => rfl⟩

theorem Frames.trans {ρ ρ1 ρ2 : Ren} {H H1 H2 : List AObj} {w w1 w2 : World} (h : Frames ρ H w ρ1 H1 w1) (k : Frames ρ1 H1 w1 ρ2 H2 w2) (hs : w.heap.size ≤ w1.heap.size) : Frames ρ H w ρ2 H2 w2 := by
 refine ⟨fun x hx => ?_, fun x hx hn => ?_⟩
 ·rcases k.img x hx with h1 | h1
  ·exact .inl (Nat.le_trans hs h1)
  ·exact h.img x h1
 ·rw [k.same x (Nat.lt_of_lt_of_le hx hs) (fun hi => ?_), h.same x hx hn]
  rcases h.img x hi with h1 | h1
  ·omega
  ·exact hn h1

theorem Frames.set {ρ : Ren} {H : List AObj} {w w1 : World} {b : Nat} {t : Ent} {o : AObj} (ht : ρ[b]? = some t) (hH : H[b]? = some o) (hrw : o.rw = true) (hw : ∀ k, k ≠ t.rb → w1.heap[k]? = w.heap[k]?) (o' : AObj) :
  Frames ρ H w ρ (H.set b o') w1 := by
 refine ⟨fun k hk => .inr ?_, fun k _ hn => hw k (fun e => hn ⟨b, t, o, ht, hH, live_of_rw o hrw, e.symm⟩)⟩
 obtain ⟨b2, t2, o2, h1, h2, h3, h4⟩ := hk
 by_cases hb : b = b2
 ·subst hb
  rw [ht] at h1
  cases h1
  exact ⟨b, t, o, ht, hH, live_of_rw o hrw, h4⟩
 ·rw [List.getElem?_set_ne hb] at h2
  exact ⟨b2, t2, o2, h1, h2, h3, h4⟩

theorem Frames.push {ρ : Ren} {H : List AObj} {w w1 : World} (hl : ρ.length = H.length) {t : Ent} (ao : AObj) (ht : w.heap.size ≤ t.rb) (hw : ∀ k, k < w.heap.size → w1.heap[k]? = w.heap[k]?) : Frames ρ H w (ρ ++ [t]) (H ++ [ao]) w1 := by
 refine ⟨fun k hk => ?_, fun k hk _ => hw k hk⟩
 obtain ⟨b2, t2, o2, h1, h2, h3, h4⟩ := hk
 by_cases hb : b2 < H.length
 ·rw [List.getElem?_append_left (by omega)] at h1
  rw [List.getElem?_append_left hb] at h2
  exact .inr ⟨b2, t2, o2, h1, h2, h3, h4⟩
 ·have hlt := (List.getElem?_eq_some_iff.1 h1).1
  simp at hlt
  obtain rfl : b2 = ρ.length := by omega
  rw [List.getElem?_append_right (Nat.le_refl _), Nat.sub_self] at h1
  cases h1
  exact .inl (by omega)

theorem heap_push_old (w : World) (o : Obj) : ∀ k, k < w.heap.size → ({ w with heap := w.heap.push o } : World).heap[k]? = w.heap[k]? := by
 intro k hk
 show (w.heap.push o)[k]? = _
 rw [Array.getElem?_push, if_neg (by omega)]

theorem Frames.adopt {ρ : Ren} {H : List AObj} {w w1 : World} (hl : ρ.length = H.length) {b : Nat} {t t1 : Ent} {o : AObj} (ht : ρ[b]? = some t) (hH : H[b]? = some o) (hrw : o.rw = true) (h1 : t1.rb = t.rb) (ao : AObj)
  (hw : ∀ k, k ≠ t.rb → w1.heap[k]? = w.heap[k]?) : Frames ρ H w (ρ ++ [t1]) (H.set b .dead ++ [ao]) w1 := by
 refine ⟨fun k hk => .inr ?_, fun k _ hn => hw k (fun e => hn ⟨b, t, o, ht, hH, live_of_rw o hrw, e.symm⟩)⟩
 obtain ⟨b2, t2, o2, g1, g2, g3, g4⟩ := hk
 by_cases hb : b2 < H.length
 ·rw [List.getElem?_append_left (by omega)] at g1
  rw [List.getElem?_append_left (by simpa using hb)] at g2
  by_cases hbb : b = b2
  ·subst hbb
   rw [List.getElem?_set_self hb] at g2
   cases g2
   cases g3
  ·rw [List.getElem?_set_ne hbb] at g2
   exact ⟨b2, t2, o2, g1, g2, g3, g4⟩
 ·have hlt := (List.getElem?_eq_some_iff.1 g1).1
  simp at hlt
  obtain rfl : b2 = ρ.length := by omega
  rw [List.getElem?_append_right (Nat.le_refl _), Nat.sub_self] at g1
  cases g1
  exact ⟨b, t, o, ht, hH, live_of_rw o hrw, by omega⟩

structure Moved (P : Program) (B : Nat) (ρ : Ren) (H : List AObj) (w : World) (ρ1 : Ren) (H1 : List AObj) (lo1 : Nat) (w1 : World) : Prop where
 ext : ρ <+: ρ1
 rel : WRel P B ρ1 H1 w1
 below : Below B w w1
 keepA : ∀ b, b < lo1 → b < H.length → H1[b]? = H[b]?
 keepR : ∀ (b : Nat) (t : Ent) (o : AObj), b < lo1 → ρ[b]? = some t → H[b]? = some o → o.live = true → w1.heap[t.rb]? = w.heap[t.rb]?
 len : H.length ≤ H1.length
 fr : Frames ρ H w ρ1 H1 w1

theorem Moved.refl {ρ : Ren} {H : List AObj} {w : World} (h : WRel P B ρ H w) (lo : Nat) : Moved P B ρ H w ρ H lo w :=
 ⟨List.prefix_refl _, h, Below.refl _ _, fun _ _ _ => rfl, fun _ _ _ _ _ _ _ => rfl, Nat.le_refl _, Frames.refl _ _ _⟩

theorem Moved.trans {ρ ρ1 ρ2 : Ren} {H H1 H2 : List AObj} {w w1 w2 : World} {lo1 lo2 : Nat} (h : Moved P B ρ H w ρ1 H1 lo1 w1) (k : Moved P B ρ1 H1 w1 ρ2 H2 lo2 w2) (hl : lo2 ≤ lo1) :
  Moved P B ρ H w ρ2 H2 lo2 w2 :=
 ⟨h.ext.trans k.ext, k.rel, h.below.trans k.below,
  fun b hb hH => (k.keepA b hb (Nat.lt_of_lt_of_le hH h.len)).trans (h.keepA b (Nat.lt_of_lt_of_le hb hl) hH),
  fun b t o hb ht ho hv => (k.keepR b t o hb (prefix_get h.ext ht) (by rw [h.keepA b (Nat.lt_of_lt_of_le hb hl) (List.getElem?_eq_some_iff.1 ho).1]; exact ho) hv).trans (h.keepR b t o (Nat.lt_of_lt_of_le hb hl) ht ho hv),
  Nat.le_trans h.len k.len, h.fr.trans k.fr h.below.size⟩

theorem Moved.lower {ρ ρ1 : Ren} {H H1 : List AObj} {w w1 : World} {lo1 lo2 : Nat} (h : Moved P B ρ H w ρ1 H1 lo1 w1) (hl : lo2 ≤ lo1) : Moved P B ρ H w ρ1 H1 lo2 w1 :=
 ⟨h.ext, h.rel, h.below, fun b hb => h.keepA b (Nat.lt_of_lt_of_le hb hl), fun b t o hb => h.keepR b t o (Nat.lt_of_lt_of_le hb hl), h.len, h.fr⟩

theorem Moved.forget {ρ ρ1 : Ren} {H H1 : List AObj} {w w1 : World} {lo lo1 : Nat} (hw : WRel P B ρ H w) (h : Moved P B ρ H w ρ1 H1 lo1 w1) (hl : H.length ≤ lo1) : Moved P B ρ H w ρ H lo w1 := by
 have hr : ∀ (b : Nat) (t : Ent) (o : AObj), ρ[b]? = some t → H[b]? = some o → o.live = true → w1.heap[t.rb]? = w.heap[t.rb]? :=
  fun b t o ht ho hv => h.keepR b t o (Nat.lt_of_lt_of_le (List.getElem?_eq_some_iff.1 ho).1 hl) ht ho hv
 refine ⟨List.prefix_refl _, ⟨hw.len, fun b t o ht ho => (hw.blk b t o ht ho).keep (List.prefix_refl _) (fun hv => hr b t o ht ho hv), hw.inj, Nat.le_trans hw.base h.below.size⟩, h.below, fun _ _ _ => rfl, fun b t o _ ht ho hv => hr b t o ht ho hv, Nat.le_refl _, ⟨fun _ h => .inr h, h.fr.same⟩⟩

def Sim {α α' : Type} (P : Program) (B : Nat) (ρ : Ren) (H : List AObj) (R : Ren → α → α' → Prop) (e : Sem α) (e' : Sem α') : Prop :=
 ∀ w, WRel P B ρ H w → ∀ lo v H1 lo1, arun P e H lo = some (v, H1, lo1) →
  lo1 ≤ lo ∧ ∃ ρ1 v' w1, e'.run P w = .ok v' w1 ∧ Moved P B ρ H w ρ1 H1 lo1 w1 ∧ R ρ1 v v'

theorem arun_bind {α β : Type} (e : Sem α) (f : α → Sem β) (H : List AObj) (lo : Nat) :
  arun P (e.bind f) H lo = (arun P e H lo).bind fun r => arun P (f r.1) r.2.1 r.2.2 := by
 induction e generalizing H lo with
 | pure a => rfl
 | load m a k ih =>
  simp only [Sem.bind, arun]
  split
  ·split
   ·exact ih _ _ _
   ·rfl
  ·rfl
 | store m a v k ih =>
  simp only [Sem.bind, arun]
  split
  ·split
   ·exact ih _ _
   ·rfl
  ·rfl
 | new o k ih =>
  simp only [Sem.bind, arun]
  split
  ·exact ih _ _ _
  ·rfl
 | getObj r k ih =>
  simp only [Sem.bind, arun]
  split
  ·exact ih _ _ _
  ·rfl
 | setObj r o k ih =>
  simp only [Sem.bind, arun]
  split
  ·split
   ·exact ih _ _
   ·rfl
  ·rfl
 | program k ih => exact ih _ _ _
 | mark m k ih => exact ih _ _
 | _ => rfl

variable {ρ : Ren} {H : List AObj}

theorem Sim.pure {α α' : Type} {R : Ren → α → α' → Prop} {v : α} {v' : α'} (h : R ρ v v') : Sim P B ρ H R (.pure v) (.pure v') := by
 intro w hw lo u H1 lo1 hr
 simp only [arun, Option.some.injEq, Prod.mk.injEq] at hr
 obtain ⟨rfl, rfl, rfl⟩ := hr
 exact ⟨Nat.le_refl _, ρ, v', w, rfl, Moved.refl hw _, h⟩

theorem Sim.fail {α α' : Type} {R : Ren → α → α' → Prop} {e : Sem α} {e' : Sem α'} (h : ∀ H lo, arun P e H lo = none) : Sim P B ρ H R e e' := by
 intro w hw lo u H1 lo1 hr
 rw [h] at hr; cases hr

theorem Sim.halt {α α' : Type} {R : Ren → α → α' → Prop} {x : Halt} {e' : Sem α'} : Sim P B ρ H R (.halt x : Sem α) e' := Sim.fail fun _ _ => rfl

theorem run_bind' {α β : Type} (e : Sem α) (f : α → Sem β) (w : World) :
  (e.bind f).run P w = match e.run P w with
   | .ok a w => (f a).run P w
   | .halt h w => .halt h w := by
 rw [Sem.run_bind']; cases e.run P w <;> rfl

theorem Sim.bind {α α' β β' : Type} {R : Ren → α → α' → Prop} {R' : Ren → β → β' → Prop} {e : Sem α} {e' : Sem α'} {f : α → Sem β} {f' : α' → Sem β'}
  (h : Sim P B ρ H R e e') (k : ∀ ρ1 H1 v v', ρ <+: ρ1 → R ρ1 v v' → Sim P B ρ1 H1 R' (f v) (f' v')) : Sim P B ρ H R' (e >>= f) (e' >>= f') := by
 intro w hw lo u H2 lo2 hr
 change arun P (e.bind f) H lo = _ at hr
 rw [arun_bind] at hr
 cases he : arun P e H lo with
 | none => rw [he] at hr; cases hr
 | some r =>
  obtain ⟨v, H1, lo1⟩ := r
  rw [he] at hr
  simp only [Option.bind_some] at hr
  obtain ⟨hl, ρ1, v', w1, h1, h2, h3⟩ := h w hw lo v H1 lo1 he
  obtain ⟨hl2, ρ2, v2', w2, g1, g2, g3⟩ := k ρ1 H1 v v' h2.ext h3 w1 h2.rel lo1 u H2 lo2 hr
  refine ⟨Nat.le_trans hl2 hl, ρ2, v2', w2, ?_, h2.trans g2 hl2, g3⟩
  change (e'.bind f').run P w = _
  rw [run_bind', h1]
  exact g1

theorem Sim.askRoom (n m : Nat) : Sim P B ρ H (fun _ _ _ => True) (Go.askRoom n) (Go.askRoom m) := by
 intro w hw lo v H1 lo1 hr
 have h1 : H1 = H ∧ lo1 = lo := by
  unfold Go.askRoom at hr
  split at hr
  ·simp only [Go.mark, arun, Option.some.injEq, Prod.mk.injEq] at hr; exact ⟨hr.2.1.symm, hr.2.2.symm⟩
  ·simp only [Pure.pure, arun, Option.some.injEq, Prod.mk.injEq] at hr; exact ⟨hr.2.1.symm, hr.2.2.symm⟩
 obtain ⟨rfl, rfl⟩ := h1
 refine ⟨Nat.le_refl _, ρ, (), w, ?_, Moved.refl hw _, trivial⟩
 unfold Go.askRoom
 split <;> rfl

theorem World.cell_of {w : World} {b i : Nat} {C : Array Value} {e : TypeId} {fz : Nat × Nat} {v : Value} (h : w.heap[b]? = some (.cells C e fz)) (hv : C[i]? = some v) : w.cell? ⟨b, i, none⟩ = some v := by
 unfold World.cell?
 simp only [h]
 simpa using hv

theorem Sim.load {b o : Nat} {t : Ent} (ht : ρ[b]? = some t) (m : Mode) : Sim P B ρ H VRel (Go.load ⟨b, o, none⟩ m) (Go.load ⟨t.rb, t.ro + o, none⟩ m) := by
 intro w hw lo v H1 lo1 hr
 simp only [Go.load, arun] at hr
 split at hr
 ·rename_i c e rw hH
  split at hr
  ·rename_i u hu
   simp only [Option.some.injEq, Prod.mk.injEq] at hr
   obtain ⟨rfl, rfl, rfl⟩ := hr
   obtain ⟨C, fz, h1, _, _, _, h5⟩ := hw.blk _ _ _ ht hH
   obtain ⟨v', g1, g2⟩ := h5 _ _ hu
   refine ⟨Nat.le_refl _, ρ, v', w, ?_, Moved.refl hw _, g2⟩
   simp only [Go.load, Sem.run, World.cell_of h1 g1]
  ·cases hr
 ·cases hr

theorem oneCell_rel {v v' : Value} (h : VRel ρ v v') : v'.oneCell = v.oneCell := by
 cases h <;> rfl

theorem run_store_one {a : Addr} {v c : Value} {w : World} (m : Mode) (h1 : v.oneCell = true) (h2 : w.cell? a = some c) (h3 : w.frozen? a = false) :
  (Go.store a v m).run P w = .ok () (w.setCell a v) := by
 cases v <;> first | (simp [Value.oneCell] at h1; done) | (simp [Go.store, Sem.run, h2, h3])

theorem Sim.store {b o : Nat} {t : Ent} {v v' : Value} (ht : ρ[b]? = some t) (hv : VRel ρ v v') (m : Mode) : Sim P B ρ H (fun _ _ _ => True) (Go.store ⟨b, o, none⟩ v m) (Go.store ⟨t.rb, t.ro + o, none⟩ v' m) := by
 intro w hw lo u H1 lo1 hr
 simp only [Go.store, arun] at hr
 split at hr
 ·rename_i c e _ hH
  split at hr
  ·rename_i hc
   simp only [Bool.and_eq_true, decide_eq_true_eq] at hc
   obtain ⟨hone, hlt⟩ := hc
   simp only [Option.some.injEq, Prod.mk.injEq] at hr
   obtain ⟨-, rfl, rfl⟩ := hr
   have hrel := hw.blk _ _ _ ht hH
   obtain ⟨C, fz, h1, h2, h3, h4, h5⟩ := hrel
   obtain ⟨hfz, hB⟩ := h2 rfl
   subst hfz
   obtain ⟨x, hx⟩ : ∃ x, c[o]? = some x := ⟨c[o], List.getElem?_eq_getElem hlt⟩
   obtain ⟨x', g1, _⟩ := h5 _ _ hx
   have hcell := World.cell_of h1 g1
   have hfro : w.frozen? ⟨t.rb, t.ro + o, none⟩ = false := by
    unfold World.frozen?; simp only [h1]; simp
   have hrb : t.rb < w.heap.size := (Array.getElem?_eq_some_iff.1 h1).1
   have hheap : ∀ k, k ≠ t.rb → (w.setCell ⟨t.rb, t.ro + o, none⟩ v').heap[k]? = w.heap[k]? := fun k hk => Below.heap_setCell _ _ _ _ hk
   have hself : (w.setCell ⟨t.rb, t.ro + o, none⟩ v').heap[t.rb]? = some (.cells (C.setIfInBounds (t.ro + o) v') e (0, 0)) := by
    simp [World.setCell, Array.getElem?_modify, h1]
   refine ⟨Nat.min_le_left _ _, ρ, (), w.setCell ⟨t.rb, t.ro + o, none⟩ v', run_store_one m (by rw [oneCell_rel hv]; exact hone) hcell hfro, ⟨List.prefix_refl _, ?_, ?_, ?_, ?_, by simp, Frames.set ht hH rfl hheap _⟩, trivial⟩
   ·refine hw.setBlock ht hH rfl (by simp [World.setCell]) hheap ?_
    refine ⟨_, _, hself, fun _ => ⟨rfl, hB⟩, by simpa using h3, h4, fun i y hy => ?_⟩
    by_cases hio : i = o
    ·subst hio
     rw [List.getElem?_set_self hlt] at hy
     cases hy
     refine ⟨v', ?_, hv⟩
     rw [Array.getElem?_setIfInBounds_self_of_lt (Array.getElem?_eq_some_iff.1 g1).1]
    ·rw [List.getElem?_set_ne (by omega)] at hy
     obtain ⟨y', k1, k2⟩ := h5 _ _ hy
     exact ⟨y', by rw [Array.getElem?_setIfInBounds_ne (by omega)]; exact k1, k2⟩
   ·exact (Below.refl B w).setCell (p := ⟨t.rb, t.ro + o, none⟩) hB _
   ·intro b' hb' _
    rw [List.getElem?_set_ne (by omega)]
   ·intro b' t' o' hb' ht' ho' hv'
    refine hheap _ ?_
    exact fun e' => hw.inj b b' t t' _ o' (by omega) ht ht' hH ho' rfl hv' e'.symm
  ·cases hr
 ·cases hr

theorem Sim.newRow {e : TypeId} {c c' : Array Value} (hc : ARel ρ c c') : Sim P B ρ H (fun ρ1 a a' => ∃ b t, a = ⟨b, 0, none⟩ ∧ a' = ⟨t.rb, 0, none⟩ ∧ ρ1[b]? = some t ∧ t.ro = 0 ∧ t.rn = c'.size ∧ t.sz = szOf P e) (Go.newRow e c) (Go.newRow e c') := by
 intro w hw lo u H1 lo1 hr
 simp only [Go.newRow, newObj] at hr
 change arun P (Sem.bind (.new (.cells c e) .pure) _) H lo = _ at hr
 simp only [Sem.bind, arun, toA, Pure.pure, Option.some.injEq, Prod.mk.injEq] at hr
 obtain ⟨rfl, rfl, rfl⟩ := hr
 refine ⟨Nat.le_refl _, ρ ++ [⟨w.heap.size, 0, c'.size, szOf P e⟩], ⟨w.heap.size, 0, none⟩, { w with heap := w.heap.push (.cells c' e) }, rfl, ⟨List.prefix_append _ _, ?_, ?_, ?_, ?_, by simp, Frames.push hw.len _ (Nat.le_refl _) (heap_push_old _ _)⟩, H.length, ⟨w.heap.size, 0, c'.size, szOf P e⟩, rfl, rfl, ?_, rfl, rfl, rfl⟩
 ·refine hw.push rfl ?_
  refine ⟨c', (0, 0), by simp, fun _ => ⟨rfl, hw.base⟩, rfl, rfl, fun i v hv => ?_⟩
  have hi : i < c.size := by simpa using (List.getElem?_eq_some_iff.1 hv).1
  have := (hc.2 i).mono (List.prefix_append ρ [⟨w.heap.size, 0, c'.size, szOf P e⟩])
  have hi' : i < c'.size := by rw [← hc.1]; exact hi
  simp [hi, hi'] at this hv
  subst hv
  exact ⟨c'[i], by simp [hi'], this⟩
 ·exact (Below.refl B w).alloc hw.base _
 ·intro b hb hbl
  rw [List.getElem?_append_left hbl]
 ·intro b t o hb ht ho hl
  have := (hw.blk b t o ht ho).lt hl
  show (w.heap.push _)[t.rb]? = _
  rw [Array.getElem?_push, if_neg (by omega)]
 ·rw [List.getElem?_append_right (by rw [hw.len]; exact Nat.le_refl _), hw.len, Nat.sub_self]; rfl

theorem Sim.newMap : Sim P B ρ H (fun ρ1 b b' => ∃ t, b' = t.rb ∧ ρ1[b]? = some t) (newObj (.map #[] 0)) (newObj (.map #[] 0)) := by
 intro w hw lo u H1 lo1 hr
 simp only [newObj, arun, toA] at hr
 simp only [Array.isEmpty_empty, if_true, Option.some.injEq, Prod.mk.injEq] at hr
 obtain ⟨rfl, rfl, rfl⟩ := hr
 refine ⟨Nat.le_refl _, ρ ++ [⟨w.heap.size, 0, 0, 0⟩], w.heap.size, { w with heap := w.heap.push (.map #[] 0) }, rfl, ⟨List.prefix_append _ _, ?_, ?_, ?_, ?_, by simp, Frames.push hw.len _ (Nat.le_refl _) (heap_push_old _ _)⟩, ⟨w.heap.size, 0, 0, 0⟩, rfl, ?_⟩
 ·refine hw.push rfl ⟨#[], by simp, hw.base, trivial⟩
 ·exact (Below.refl B w).alloc hw.base _
 ·intro b hb hbl
  rw [List.getElem?_append_left hbl]
 ·intro b t o hb ht ho hl
  have := (hw.blk b t o ht ho).lt hl
  show (w.heap.push _)[t.rb]? = _
  rw [Array.getElem?_push, if_neg (by omega)]
 ·rw [List.getElem?_append_right (by rw [hw.len]; exact Nat.le_refl _), hw.len, Nat.sub_self]; rfl

end Go.Abs

/- The abstract machine: its steps. -/
namespace Go.Abs
open Go Go.RowKit

def aeval (tm : List Value) : Operand → Value
 | .tmp t => (tm[t]?).getD undef
 | .const v => v
 | .global g => .pointer (some ⟨g, 0, none⟩)
 | .func f => .func (.func f) #[] #[]

def opdOk : Operand → Bool
 | .const v => closed v
 | .global _ => false
 | _ => true

def opsOk (o : Oper) : Bool := o.op.operands.toList.all opdOk

def closedArgs (tm : List Value) (o : Oper) : Bool := o.op.operands.toList.all fun x => closed (aeval tm x)

structure St where
 H : List AObj
 lo : Nat

def intOf? : Value → Option Nat
 | .int _ n => if 0 ≤ n then some n.toNat else none
 | _ => none

def aload (P : Program) (H : List AObj) (b o n : Nat) : Option (Array Value) := (arun P (loadCells ⟨b, o, none⟩ n) H H.length).map (·.1)

def astore (P : Program) (st : St) (b o : Nat) (vs : Array Value) : Option St := (arun P (storeCells ⟨b, o, none⟩ vs.toList) st.H st.lo).map fun r => ⟨r.2.1, r.2.2⟩

def prun (P : Program) {α : Type} : Sem α → Option α
 | .pure a => some a
 | .program k => prun P (k P)
 | .mark _ k => prun P k
 | _ => none

def ob (v : Option Value) (y d : Nat) : Option Nat :=
 match v with
 | some v => match intOf? v with
  | some i => if i ≤ y then some i else none
  | none => none
 | none => some d

def bounds? (len cap : Nat) (low high max : Option Value) : Option (Nat × Nat × Nat) :=
 match ob max cap cap with
 | none => none
 | some m =>
  if max.isSome && high.isNone then none else
  match ob high m len with
  | none => none
  | some h =>
   match ob low h 0 with
   | none => none
   | some l => some (l, h, m)

def elemOfSlice (P : Program) (t : TypeId) : Option TypeId :=
 match P.underlying t with
 | some (.slice e) => some e
 | _ => none

def blockSz (P : Program) (H : List AObj) (b : Nat) : Option Nat :=
 match H[b]? with
 | some (.cells _ e _) => (P.info? e).map (·.size)
 | _ => none

def aSlice (P : Program) (H : List AObj) (t : TypeId) (x : Value) (low high max : Option Value) : Option Value :=
 match elemOfSlice P t, x with
 | some e, .slice (some ⟨b, o, none⟩) len cap =>
  match P.info? e with
  | none => none
  | some i =>
   if cap < BIG then
    (bounds? len cap low high max).map fun (l, h, m) => .slice (some (if m = l then ⟨b, o, none⟩ else ⟨b, o + l * i.size, none⟩)) (h - l) (m - l)
   else
    if blockSz P H b == some i.size then
     (bounds? len (cap - BIG) low high max).bind fun (l, h, m) =>
      if max.isSome && m != 0 && decide (m < BIG) then some (.slice (some (if m = l then ⟨b, o, none⟩ else ⟨b, o + l * i.size, none⟩)) (h - l) (m - l))
      else if max.isSome && m != 0 then none
      else some (.slice (some ⟨b, o + l * i.size, none⟩) (h - l) (BIG + (m - l)))
    else none
 | some e, .slice none 0 0 =>
  match P.info? e with
  | none => none
  | some _ => (bounds? 0 0 low high max).map fun _ => .slice none 0 0
 | _, _ => none

def appended? (P : Program) (H : List AObj) (i : TypeInfo) (xType : TypeId) (x : Value) : Option (Nat × Array Value) :=
 match P.underlying xType, x with
 | some (.int _), .int k n =>
  match i.zero with
  | some z => if IntKind.i64.wrap n = n ∧ 0 ≤ n ∧ n < 1000000 ∧ closed z = true ∧ n * i.bytes ≤ 2 ^ 48 then some (n.toNat, if n.toNat * i.size = 0 then #[] else Builtin.zeroCells z.cells n.toNat) else (if k = .i64 then none else none)
  | none => none
 | some (.slice _), .slice none 0 0 => some (0, #[])
 | some (.slice _), .slice (some ⟨b, o, none⟩) n _ => (aload P H b o (n * i.size)).map fun cs => (n, cs)
 | _, _ => none

def aAppend (P : Program) (st : St) (argTypes : Array TypeId) (args : Array Value) : Option (Value × St) :=
 match argTypes[0]?, argTypes[1]?, (args[0]? : Option Value), (args[1]? : Option Value) with
 | some sT, some xT, some s, some x =>
  match elemOfSlice P sT with
  | none => none
  | some e =>
   match P.info? e with
   | none => none
   | some i =>
    match i.zero, appended? P st.H i xT x with
    | some _, some (n, new) =>
     match s with
     | .slice none 0 0 =>
      if n = 0 then some (.slice none 0 0, st)
      else if 8 * n * i.bytes ≤ 2 ^ 48 ∧ n < 1000000 ∧ i.bytes ≠ 0 then some (.slice (some ⟨st.H.length, 0, none⟩) n (BIG + n), ⟨st.H ++ [.cells new.toList e true], st.lo⟩)
      else none
     | .slice (some ⟨b, o, none⟩) len cap =>
      if blockSz P st.H b != some i.size then none else
      let c := if cap < BIG then cap else cap - BIG
      if len + n ≤ c then
       (astore P st b (o + len * i.size) new).map fun st1 => (.slice (some ⟨b, o, none⟩) (len + n) cap, st1)
      else if 8 * (len + n) * i.bytes ≤ 2 ^ 48 ∧ len + n < 1000000 ∧ len ≤ c ∧ i.bytes ≠ 0 then
       (aload P st.H b o (len * i.size)).bind fun old =>
        if cap < BIG then some (.slice (some ⟨st.H.length, 0, none⟩) (len + n) (BIG + (len + n)), ⟨st.H ++ [.cells (old ++ new).toList e true], st.lo⟩)
        else match st.H[b]? with
         | some (.cells _ e' true) => if e' != e || !new.toList.all (·.oneCell) then none else some (.slice (some ⟨st.H.length, 0, none⟩) (len + n) (BIG + (len + n)), ⟨st.H.set b .dead ++ [.cells (old ++ new).toList e true], min st.lo b⟩)
         | _ => none
      else none
     | _ => none
    | _, _ => none
 | _, _, _, _ => none

def aCopy (P : Program) (st : St) (argTypes : Array TypeId) (args : Array Value) : Option (Value × St) :=
 match argTypes[0]?, (args[0]? : Option Value), (args[1]? : Option Value) with
 | some dT, some (.slice db dLen _), some (.slice sb sLen _) =>
  match elemOfSlice P dT with
  | none => none
  | some e =>
   match P.info? e with
   | none => none
   | some i =>
    let n := Nat.min sLen dLen
    match db, sb with
    | some ⟨d, df, none⟩, some ⟨s, o, none⟩ =>
     if n = 0 then some (goInt 0, st) else
     (aload P st.H s o (n * i.size)).bind fun cs => (astore P st d df cs).map fun st1 => (goInt n, st1)
    | _, _ => if n = 0 then some (goInt 0, st) else none
 | _, _, _ => none

def aClear (P : Program) (st : St) (argTypes : Array TypeId) (args : Array Value) : Option (Value × St) :=
 match argTypes[0]?, (args[0]? : Option Value) with
 | some t, some (.slice b n _) =>
  match elemOfSlice P t with
  | none => none
  | some e =>
   if n = 0 then some (.tuple #[], st) else
   match P.info? e, b with
   | some i, some ⟨d, o, none⟩ =>
    match i.zero with
    | some z => if closed z then (astore P st d o (Builtin.zeroCells z.cells n)).map fun st1 => (.tuple #[], st1) else none
    | none => none
   | _, _ => none
 | _, _ => none

def aLen (P : Program) (H : List AObj) (argTypes : Array TypeId) (args : Array Value) : Option Value :=
 match argTypes[0]?, (args[0]? : Option Value) with
 | some t, some x =>
  match P.underlying t, x with
  | some (.slice _), .slice _ n _ => some (goInt n)
  | some (.string), .string s => some (goInt s.size)
  | some (.array n _), _ => some (goInt n)
  | some (.map _ _), .map none => some (goInt 0)
  | some (.map _ _), .map (some b) => match H[b]? with
   | some (.map es _) => some (goInt es.length)
   | _ => none
  | _, _ => none
 | _, _ => none

def aCap (P : Program) (argTypes : Array TypeId) (args : Array Value) : Option Value :=
 match argTypes[0]?, (args[0]? : Option Value) with
 | some t, some (.slice a _ c) =>
  match P.underlying t with
  | some (.slice _) => if c < BIG then (if a.isNone && c != 0 then none else some (goInt c)) else none
  | _ => none
 | _, _ => none

def lookupRest (key elem : TypeId) (es : Array MapEntry) (index : Value) (commaOk : Bool) : Sem Value := do
 Instr.checkKey es.isEmpty 10000 key index
 let (v, ok) ← match ← Instr.findKey key index es.toList with
  | some (_, v) => pure (v, true)
  | none => pure (← zeroValue elem, false)
 pure (if commaOk then .tuple #[v, .bool ok] else v)

def found (P : Program) (key : TypeId) (es : List MapEntry) (k : Value) : Bool := match prun P (Instr.findKey key k es) with
 | some (some _) => true
 | _ => false

def aLookup (P : Program) (H : List AObj) (t : TypeId) (x k : Value) (ok : Bool) : Option Value :=
 match P.underlying t, x with
 | some (.map key elem), .map (some b) =>
  match H[b]? with
  | some (.map es _) => (prun P (lookupRest key elem es.toArray k ok)).bind fun v => if closed v || found P key es k then some v else none
  | _ => none
 | some (.map key elem), .map none => (prun P (lookupRest key elem #[] k ok)).bind fun v => if closed v then some v else none
 | _, _ => none

def updateRest (keyType : TypeId) (es : Array MapEntry) (clock : Nat) (key value : Value) : Sem (Array MapEntry × Nat) := do
 Instr.checkKey false 10000 keyType key
 match ← Instr.findKey keyType key es.toList with
 | some (i, _) => do
  let key ← Instr.keyThatStays (((es[i]?).map (·.key)).getD key) key
  pure (es.modify i fun e => { e with key, val := value }, clock)
 | none => pure (es.push { key, val := value, born := clock }, clock + 1)

def aUpdate (P : Program) (st : St) (t : TypeId) (x k v : Value) : Option St :=
 match P.underlying t, x with
 | some (.map key _), .map (some b) =>
  match st.H[b]? with
  | some (.map es clock) => (prun P (updateRest key es.toArray clock k v)).bind fun r => if r.1.toList.all keyOk then some ⟨st.H.set b (.map r.1.toList r.2), min st.lo b⟩ else none
  | _ => none
 | _, _ => none

/-! Ranging over a map that holds one entry at most; delete; bytes to a string. -/

def aRange (P : Program) (H : List AObj) (t : TypeId) (x : Value) : Option AObj :=
 match P.underlying t, x with
 | some (.map _ _), .map none => some (.iter none 0 [] 0)
 | some (.map _ _), .map (some b) => match H[b]? with
  | some (.map _ clock) => some (.iter (some b) clock [] clock)
  | _ => none
 | _, _ => none

def leftOf (es : List MapEntry) (seen : List Nat) : List MapEntry := es.filter fun e => !seen.contains e.born

def aNext (st : St) (it : Value) : Option (Value × St) :=
 match it with
 | .pointer (some ⟨r, 0, none⟩) => match st.H[r]? with
  | some (.iter none _ _ _) => some (.tuple #[.bool false], st)
  | some (.iter (some b) since seen last) => match st.H[b]? with
   | some (.map es clock) =>
    if !seen.isEmpty && !es.isEmpty && es.all (fun e => decide (e.born ≥ last)) then none else
    match leftOf es seen with
    | [] => some (.tuple #[.bool false], st)
    | [e] => if e.born < since then some (.tuple #[.bool true, e.key, e.val], ⟨st.H.set r (.iter (some b) since (seen ++ [e.born]) clock), min st.lo r⟩) else none
    | _ => none
   | _ => none
  | _ => none
 | _ => none

def aEntry (H : List AObj) (it : Value) : Option Value :=
 match it with
 | .pointer (some ⟨r, 0, none⟩) => match H[r]? with
  | some (.iter (some b) _ seen stepped) => match seen.getLast?, (H[b]? : Option AObj) with
   | some stamp, some (.map es clock) => if clock = stepped then (es.find? fun e => e.born == stamp).map fun e => .tuple #[e.key, e.val] else none
   | _, _ => none
  | _ => none
 | _ => none

def deleteRest (keyType : TypeId) (es : Array MapEntry) (k : Value) : Sem (Array MapEntry) := do
 Instr.checkKey es.isEmpty 10000 keyType k
 match ← Instr.findKey keyType k es.toList with
 | some (i, _) => pure (es.eraseIdxIfInBounds i)
 | none => pure es

def aDelete (P : Program) (st : St) (argTypes : Array TypeId) (args : Array Value) : Option St :=
 match (argTypes[0]? : Option TypeId), (args[0]? : Option Value), (args[1]? : Option Value) with
 | some mt, some (.map (some b)), some k => match P.underlying mt with
  | some (.map keyType _) => match st.H[b]? with
   | some (.map es clock) => if closed k then (prun P (deleteRest keyType es.toArray k)).bind fun r => if r.toList.all keyOk then some ⟨st.H.set b (.map r.toList clock), min st.lo b⟩ else none else none
   | _ => none
  | _ => none
 | _, _, _ => none

def isByte : Value → Bool
 | .int .u8 _ => true
 | _ => false

def bytesRest (cs : Array Value) : Sem Value := do
 let mut s := ByteArray.empty
 for c in cs do
  let .int .u8 n := c | stuck "bytesToString: byte expected"
  s := s.push (UInt8.ofNat n.toNat)
 pure (.string s)

def aBytes (P : Program) (H : List AObj) (src dst : TypeId) (x : Value) : Option Value :=
 match P.underlying src, P.underlying dst, x with
 | some (.slice e), some .string, .slice (some ⟨b, o, none⟩) len _ => match P.underlying e with
  | some (.int .u8) => (aload P H b o len).bind fun cs => if cs.toList.all isByte then (prun P (bytesRest cs)).bind fun v => if closed v then some v else none else none
  | _ => none
 | _, _, _ => none

inductive ANext where
 | val (v : Value) (st : St)
 | enter (f : FuncId) (args : Array Value)
 | yield (l : Nat) (args : Array Value)

def ofRun (r : Option (Next × List AObj × Nat)) : Option ANext :=
 match r with
 | some (.value v, H, lo) => some (.val v ⟨H, lo⟩)
 | some (.skip, H, lo) => some (.val undef ⟨H, lo⟩)
 | _ => none

def ofPure (r : Option Next) (st : St) : Option ANext :=
 match r with
 | some (.value v) => if closed v then some (.val v st) else none
 | _ => none

def nilCmp (P : Program) (t : TypeId) (x y : Value) : Option Bool :=
 match P.underlying t, x, y with
 | some (.slice _), .slice none _ _, .slice b _ _ => some b.isNone
 | some (.slice _), .slice (some _) _ _, .slice none _ _ => some false
 | some (.pointer _), .pointer none, .pointer b => some b.isNone
 | some (.pointer _), .pointer (some _), .pointer none => some false
 | some (.map _ _), .map none, .map b => some b.isNone
 | some (.map _ _), .map (some _), .map none => some false
 | some (.func _ _ _), .nilFunc, .nilFunc => some true
 | some (.func _ _ _), .nilFunc, .func _ _ _ => some false
 | some (.func _ _ _), .func _ _ _, .nilFunc => some false
 | _, _, _ => none

def capOk : ANext → Bool
 | .val (.slice _ _ c) _ => decide (c < BIG)
 | _ => false

def stepOp (P : Program) (tm : List Value) (o : Oper) (st : St) : Option ANext :=
 if opsOk o then
  match o.op with
  | .move _ | .assign _ | .pick .. | .alloc _ | .box .. | .load .. | .store .. | .nilCheck _ | .fieldAddr .. | .indexAddr .. | .makeFunc (.func _) _ _ | .makeMap _ none | .extract ..
  | .build .. => ofRun (arun P (execOp (aeval tm) o) st.H st.lo)
  | .buildSlice .. => (ofRun (arun P (execOp (aeval tm) o) st.H st.lo)).bind fun r => if capOk r then some r else none
  | .makeSlice .. => if closedArgs tm o then (ofRun (arun P (execOp (aeval tm) o) st.H st.lo)).bind fun r => if capOk r then some r else none else none
  | .binOp op t x y _ =>
   if closedArgs tm o then ofPure (prun P (execOp (aeval tm) o)) st else
   match op with
   | .eql => (nilCmp P t (aeval tm x) (aeval tm y)).map fun b => .val (.bool b) st
   | .neq => (nilCmp P t (aeval tm x) (aeval tm y)).map fun b => .val (.bool !b) st
   | _ => none
  | .unOp .. | .field .. | .index .. => if closedArgs tm o then ofPure (prun P (execOp (aeval tm) o)) st else none
  | .convert a b x => if closedArgs tm o then ofPure (prun P (execOp (aeval tm) o)) st else (aBytes P st.H a b (aeval tm x)).map fun v => .val v st
  | .range t x => (aRange P st.H t (aeval tm x)).map fun ob => .val (.pointer (some ⟨st.H.length, 0, none⟩)) ⟨st.H ++ [ob], st.lo⟩
  | .next it false => (aNext st (aeval tm it)).map fun r => .val r.1 r.2
  | .entry it => (aEntry st.H (aeval tm it)).map fun v => .val v st
  | .lookup t m k ok => if closed (aeval tm k) then (aLookup P st.H t (aeval tm m) (aeval tm k) ok).map fun v => .val v st else none
  | .mapUpdate t m k v => if closed (aeval tm k) then (aUpdate P st t (aeval tm m) (aeval tm k) (aeval tm v)).map fun st1 => .val undef st1 else none
  | .slice t x l h m => (aSlice P st.H t (aeval tm x) (l.map (aeval tm)) (h.map (aeval tm)) (m.map (aeval tm))).map fun v => .val v st
  | .call c =>
   match c.callee with
   | .builtin b =>
    match b with
    | .append => (aAppend P st c.argTypes (c.args.map (aeval tm))).map fun r => .val r.1 r.2
    | .copy => (aCopy P st c.argTypes (c.args.map (aeval tm))).map fun r => .val r.1 r.2
    | .clear => (aClear P st c.argTypes (c.args.map (aeval tm))).map fun r => .val r.1 r.2
    | .len => (aLen P st.H c.argTypes (c.args.map (aeval tm))).map fun v => .val v st
    | .cap => (aCap P c.argTypes (c.args.map (aeval tm))).map fun v => .val v st
    | .delete => (aDelete P st c.argTypes (c.args.map (aeval tm))).map fun st1 => .val (.tuple #[]) st1
    | .min | .max => if closedArgs tm o then ofPure (prun P (execOp (aeval tm) o)) st else none
    | _ => none
   | .value f =>
    match aeval tm f with
    | .func (.func g) first captured => some (.enter g (first ++ c.args.map (aeval tm) ++ captured))
    | .func (.yield l) first _ => if first.isEmpty then some (.yield l (c.args.map (aeval tm))) else none
    | _ => none
   | _ => none
  | _ => none
 else none

inductive AX where
 | normal
 | exit (id : Nat)
 | ret

structure Fr where
 tm : List Value
 ds : List Nat
 rd : Option Nat

def put (tm : List Value) (dst : Option Tmp) (v : Value) : List Value :=
 match dst with
 | some d => tm.set d v
 | none => tm

def yieldedA (ops : Array Oper) (tm : List Value) (j : Nat) : Option Bool :=
 match ((ops[j]?).bind (·.dst)).bind (tm[·]?) with
 | some (.bool b) => some b
 | _ => none

def setLoop (H : List AObj) (l : Nat) (f : Loop → Loop) : Option (List AObj) :=
 match H[l]? with
 | some (.loop r) => some (H.set l (.loop (f r)))
 | _ => none

def getLoop (H : List AObj) (l : Nat) : Option Loop :=
 match H[l]? with
 | some (.loop r) => some r
 | _ => none

def jumpOf : AX → Option Code
 | .normal => none
 | .exit id => some (.exit id)
 | .ret => some .ret

abbrev EC := Code → Fr → St → Option (AX × Fr × St)
abbrev EF := FuncId → Array Value → St → Option (Value × St)

def evRound (ec : EC) (l : Nat) (args : Array Value) (st : St) : Option (Value × St) :=
 match getLoop st.H l with
 | none => none
 | some r =>
  if args.size ≠ r.params.size then none else
  match ec r.assign ⟨((r.params.zip args).foldl (fun tmps (t, a) => tmps.setIfInBounds t a) r.tmps).toList, [], some l⟩ st with
  | some (.normal, fr1, st1) =>
   match getLoop st1.H l with
   | some r1 =>
    if r1.state != .ready then none else
    match ec r.body fr1 ⟨st1.H.set l (.loop { r1 with state := .busy }), min st1.lo l⟩ with
    | some (x, _, st2) =>
     match getLoop st2.H l with
     | some r2 => some (.bool (jumpOf x).isNone, ⟨st2.H.set l (.loop { r2 with state := if (jumpOf x).isNone then .ready else .done, pending := jumpOf x }), min st2.lo l⟩)
     | none => none
    | none => none
   | none => none
  | _ => none

def evOp (P : Program) (ec : EC) (ef : EF) (tm : List Value) (o : Oper) (st : St) : Option (Value × St) :=
 match stepOp P tm o st with
 | some (.val v st1) => some (v, st1)
 | some (.enter f args) => ef f args st
 | some (.yield l args) => evRound ec l args st
 | none => none

def evOps (P : Program) (ec : EC) (ef : EF) (ops : Array Oper) : List Oper → List Value → St → Option (List Value × St)
 | [], tm, st => some (tm, st)
 | o :: rest, tm, st =>
  if Region.wanted o (yieldedA ops tm) then
   match evOp P ec ef tm o st with
   | some (v, st1) => evOps P ec ef ops rest (put tm o.dst v) st1
   | none => none
  else evOps P ec ef ops rest (put tm o.dst undef) st

def evRange (ec : EC) (ef : EF) (f : Operand) (params : Array Tmp) (assign body : Code) (fr : Fr) (st : St) : Option (AX × Fr × St) :=
 match f with
 | .tmp t =>
  match (fr.tm[t]?).getD undef with
  | .func (.func g) first captured =>
   let pre : Option (Nat × List Nat × List AObj) := match fr.rd with
    | some l => (getLoop st.H l).map fun r => (r.defers, [], st.H)
    | none => some (st.H.length, [st.H.length], st.H ++ [.deferred])
   match pre with
   | none => none
   | some (d, mark, H) =>
    let l := H.length
    match ef g (first ++ #[.func (.yield l) #[] #[]] ++ captured) ⟨H ++ [.loop { state := .ready, pending := none, fn := 0, tmps := fr.tm.toArray, params, assign, body, defers := d }], st.lo⟩ with
    | some (_, st1) =>
     match getLoop st1.H l with
     | some r1 =>
      if r1.state == .busy then none else
      let fr1 : Fr := { fr with ds := mark ++ fr.ds }
      let st2 : St := ⟨st1.H.set l (.loop { r1 with state := .exhausted }), min st1.lo l⟩
      match r1.pending with
      | none => some (.normal, fr1, st2)
      | some c => ec c fr1 st2
     | none => none
    | none => none
  | _ => none
 | _ => none

def stepCode (P : Program) (ec : EC) (ef : EF) (draw : Array Oper → List Value → St → Option (List Value × St)) (c : Code) (fr : Fr) (st : St) : Option (AX × Fr × St) :=
 match c with
 | .skip => some (.normal, fr, st)
 | .label _ => some (.normal, fr, st)
 | .seq a b =>
  match ec a fr st with
  | some (.normal, fr1, st1) => ec b fr1 st1
  | r => r
 | .cond c a b =>
  match aeval fr.tm c with
  | .bool t => ec (if t then a else b) fr st
  | _ => none
 | .block id body =>
  match ec body fr st with
  | some (.exit id', fr1, st1) => some (if id' = id then .normal else .exit id', fr1, st1)
  | r => r
 | .loop body =>
  match ec body fr st with
  | some (.normal, fr1, st1) => ec (.loop body) fr1 st1
  | r => r
 | .exit id => some (.exit id, fr, st)
 | .ret => some (.ret, fr, st)
 | .region _ ops dr =>
  match (if dr then draw ops fr.tm st else evOps P ec ef ops ops.toList fr.tm st) with
  | some (tm, st1) => some (.normal, { fr with tm }, st1)
  | none => none
 | .rangeFunc f params assign body => evRange ec ef f params assign body fr st
 | _ => none

def killMarks : List Nat → List AObj → Option (List AObj)
 | [], H => some H
 | d :: ds, H => match H[d]? with
  | some .deferred => killMarks ds (H.set d .dead)
  | _ => none

def lowest (lo : Nat) (ds : List Nat) : Nat := ds.foldl min lo

def stepCall (P : Program) (ec : EC) (f : FuncId) (args : Array Value) (st : St) : Option (Value × St) :=
 match P.funcs[f]? with
 | none => none
 | some fn =>
  match fn.body with
  | none => none
  | some body =>
   let n0 := st.H.length
   match ec body ⟨args.toList ++ List.replicate (fn.ntmps - args.size) undef, [], none⟩ ⟨st.H, n0⟩ with
   | some (x, fr, st1) =>
    match x with
    | .exit _ => none
    | _ =>
     match killMarks fr.ds st1.H with
     | none => none
     | some H2 =>
      match arun P (results fn fr.tm.toArray) H2 (lowest st1.lo fr.ds) with
      | some (v, H3, lo3) => if closed v && decide (n0 ≤ lo3) then some (v, st) else some (v, ⟨H3, min st.lo lo3⟩)
      | none => none
   | none => none

end Go.Abs

/- The abstract machine: its operations against the model's, one by one. -/
namespace Go.Abs
open Go Go.RowKit

variable {P : Program} {B : Nat} {ρ : Ren} {H : List AObj}

structure POk (P : Program) : Prop where
 zero : ∀ (t : TypeId) (i : TypeInfo) (v : Value), P.info? t = some i → i.zero = some v → closed v = true
 zsize : ∀ (t : TypeId) (i : TypeInfo) (v : Value), P.info? t = some i → i.zero = some v → v.cells.size = i.size
 name : ∀ (f : FuncId) (fn : Func), P.funcs[f]? = some fn → (fn.name == "runtime.NumGoroutine") = false
 mixed : P.follows .mixedOrders = true

/-! ### Trees that touch no memory -/

def hf {α : Type} : Sem α → Program → Prop
 | .load .., _ => False
 | .store .., _ => False
 | .new .., _ => False
 | .getObj .., _ => False
 | .setObj .., _ => False
 | .program k, P => hf (k P) P
 | .mark _ k, P => hf k P
 | _, _ => True

theorem hf_bind {α β : Type} {e : Sem α} {f : α → Sem β} (h : hf e P) (k : ∀ a, hf (f a) P) : hf (e >>= f) P := by
 change hf (e.bind f) P
 induction e with
 | pure a => exact k a
 | program k' ih => exact ih P h
 | mark m k' ih => exact ih h
 | load => exact h.elim
 | store => exact h.elim
 | new => exact h.elim
 | getObj => exact h.elim
 | setObj => exact h.elim
 | _ => trivial

theorem Sim.same {α : Type} {e : Sem α} (h : hf e P) : Sim P B ρ H (fun _ a a' => a' = a) e e := by
 intro w hw lo v H1 lo1 hr
 suffices hs : H1 = H ∧ lo1 = lo ∧ e.run P w = .ok v w by
  obtain ⟨rfl, rfl, h3⟩ := hs
  exact ⟨Nat.le_refl _, ρ, v, w, h3, Moved.refl hw _, rfl⟩
 induction e with
 | pure a =>
  simp only [arun, Option.some.injEq, Prod.mk.injEq] at hr
  obtain ⟨rfl, rfl, rfl⟩ := hr
  exact ⟨rfl, rfl, rfl⟩
 | program k ih => exact ih P h hr
 | mark m k ih => exact ih h hr
 | load => exact h.elim
 | store => exact h.elim
 | new => exact h.elim
 | getObj => exact h.elim
 | setObj => exact h.elim
 | _ => cases hr

theorem hf_typeInfo (t : TypeId) : hf (typeInfo t) P := by
 unfold typeInfo
 refine hf_bind trivial fun p => ?_
 split <;> trivial

theorem hf_underlying (t : TypeId) : hf (underlying t) P := by
 unfold underlying
 refine hf_bind trivial fun p => ?_
 split <;> trivial

theorem hf_sizeOf (t : TypeId) : hf (sizeOf t) P := hf_bind (hf_typeInfo t) fun _ => trivial

theorem hf_isAgg (t : TypeId) : hf (isAgg t) P := by
 refine hf_bind (hf_underlying t) fun d => ?_
 split <;> trivial

theorem arun_typeInfo {t : TypeId} {lo : Nat} {v : TypeInfo} {H1 : List AObj} {lo1 : Nat} (h : arun P (typeInfo t) H lo = some (v, H1, lo1)) : P.info? t = some v ∧ H1 = H ∧ lo1 = lo := by
 unfold typeInfo at h
 change arun P (Sem.bind program _) H lo = _ at h
 rw [arun_bind] at h
 simp only [program, arun, Option.bind_some] at h
 cases hi : P.info? t with
 | none => rw [hi] at h; cases h
 | some i =>
  rw [hi] at h
  simp only [Pure.pure, arun, Option.some.injEq, Prod.mk.injEq] at h
  exact ⟨congrArg some h.1, h.2.1.symm, h.2.2.symm⟩

theorem sim_typeInfo (t : TypeId) : Sim P B ρ H (fun _ i i' => i' = i ∧ P.info? t = some i) (typeInfo t) (typeInfo t) := by
 intro w hw lo v H1 lo1 hr
 obtain ⟨a, ρ1, v', w1, b, c, d⟩ := Sim.same (hf_typeInfo t) w hw lo v H1 lo1 hr
 exact ⟨a, ρ1, v', w1, b, c, d, (arun_typeInfo hr).1⟩

theorem sim_underlying (t : TypeId) : Sim P B ρ H (fun _ i i' => i' = i ∧ P.underlying t = some i) (underlying t) (underlying t) := by
 intro w hw lo v H1 lo1 hr
 obtain ⟨a, ρ1, v', w1, b, c, d⟩ := Sim.same (hf_underlying t) w hw lo v H1 lo1 hr
 refine ⟨a, ρ1, v', w1, b, c, d, ?_⟩
 unfold Go.underlying at hr
 change arun P (Sem.bind program _) H lo = _ at hr
 rw [arun_bind] at hr
 simp only [program, arun, Option.bind_some] at hr
 cases hi : P.underlying t with
 | none => rw [hi] at hr; cases hr
 | some i =>
  rw [hi] at hr
  simp only [Pure.pure, arun, Option.some.injEq, Prod.mk.injEq] at hr
  exact congrArg some hr.1

theorem sim_sizeOf (t : TypeId) : Sim P B ρ H (fun _ i i' => i' = i ∧ ∃ x, P.info? t = some x ∧ x.size = i) (sizeOf t) (sizeOf t) :=
 Sim.bind (sim_typeInfo t) fun _ _ v v' _ h => by
  obtain ⟨rfl, h⟩ := h
  exact Sim.pure ⟨rfl, _, h, rfl⟩

theorem sim_zeroValue (hP : POk P) (t : TypeId) : Sim P B ρ H (fun _ i i' => i' = i ∧ closed i = true) (zeroValue t) (zeroValue t) :=
 Sim.bind (sim_typeInfo t) fun _ _ v v' _ h => by
  obtain ⟨rfl, h⟩ := h
  split
  ·rename_i z hz
   exact Sim.pure ⟨rfl, hP.zero _ _ _ h hz⟩
  ·exact Sim.halt

theorem sim_isAgg (t : TypeId) : Sim P B ρ H (fun _ i i' => i' = i) (isAgg t) (isAgg t) := Sim.same (hf_isAgg t)

/-! ### Loads and stores of whole variables -/

theorem addr_add (b o i : Nat) : (Addr.mk b o none).add i = ⟨b, o + i, none⟩ := by
 unfold Addr.add
 split
 ·rename_i h; subst h; rfl
 ·rfl

theorem ARel.push {xs ys : Array Value} {v v' : Value} (h : ARel ρ xs ys) (hv : VRel ρ v v') : ARel ρ (xs.push v) (ys.push v') := by
 refine ⟨by simp [h.1], fun i => ?_⟩
 have := h.2 i
 by_cases h1 : i < xs.size
 ·have h2 : i < ys.size := by rw [← h.1]; exact h1
  simpa [Array.getD, h1, h2, Nat.lt_succ_of_lt h1, Nat.lt_succ_of_lt h2, Array.getElem_push] using this
 ·by_cases h3 : i = xs.size
  ·subst h3
   have e : xs.size = ys.size := h.1
   simp [Array.getD, e]
   rw [Array.getElem_push]
   simp [e]
   exact hv
  ·have h4 : ¬ i < xs.size + 1 := by omega
   have h5 : ¬ i < ys.size + 1 := by rw [← h.1]; exact h4
   simp [Array.getD, h4, h5]
   exact .nil

theorem ARel.empty (ρ : Ren) : ARel ρ #[] #[] := ⟨rfl, fun _ => by simp; exact .nil⟩

theorem sim_loadCellsFrom {b o : Nat} {t : Ent} (n : Nat) : ∀ {ρ : Ren} {H : List AObj} (i : Nat) {acc acc' : Array Value}, ρ[b]? = some t → ARel ρ acc acc' →
  Sim P B ρ H ARel (loadCellsFrom ⟨b, o, none⟩ i n acc) (loadCellsFrom ⟨t.rb, t.ro + o, none⟩ i n acc') := by
 induction n with
 | zero => intro ρ H i acc acc' _ ha; exact Sim.pure ha
 | succ n ih =>
  intro ρ H i acc acc' ht ha
  unfold Go.loadCellsFrom
  rw [addr_add, addr_add, Nat.add_assoc]
  exact Sim.bind (Sim.load ht _) fun ρ1 H1 v v' hρ hv => ih (i + 1) (prefix_get hρ ht) ((ha.mono hρ).push hv)

theorem sim_loadCells {b o : Nat} {t : Ent} (ht : ρ[b]? = some t) (n : Nat) : Sim P B ρ H ARel (loadCells ⟨b, o, none⟩ n) (loadCells ⟨t.rb, t.ro + o, none⟩ n) :=
 sim_loadCellsFrom n 0 ht (ARel.empty _)

theorem sim_loadVar {b o : Nat} {t : Ent} (ht : ρ[b]? = some t) (T : TypeId) : Sim P B ρ H VRel (loadVar T ⟨b, o, none⟩) (loadVar T ⟨t.rb, t.ro + o, none⟩) := by
 unfold Go.loadVar
 refine Sim.bind (sim_isAgg T) fun ρ1 H1 v v' hρ hv => ?_
 subst hv
 split
 ·refine Sim.bind (sim_sizeOf T) fun ρ2 H2 n n' hρ2 hn => ?_
  obtain ⟨rfl, -⟩ := hn
  refine Sim.bind (sim_loadCells (prefix_get (hρ.trans hρ2) ht) n') fun ρ3 H3 cs cs' hρ3 hcs => ?_
  exact Sim.pure (.agg hcs.1 hcs.2)
 ·exact Sim.load (prefix_get hρ ht) _

def LRel (ρ : Ren) (xs ys : List Value) : Prop := ARel ρ xs.toArray ys.toArray

theorem LRel.nil_iff {ys : List Value} (h : LRel ρ [] ys) : ys = [] := by
 have := h.1; simp at this; exact List.eq_nil_of_length_eq_zero this.symm

theorem LRel.cons {x : Value} {xs ys : List Value} (h : LRel ρ (x :: xs) ys) : ∃ y ys', ys = y :: ys' ∧ VRel ρ x y ∧ LRel ρ xs ys' := by
 obtain ⟨h1, h2⟩ := h
 cases ys with
 | nil => simp at h1
 | cons y ys' =>
  refine ⟨y, ys', rfl, by simpa using h2 0, by simpa using h1, fun i => ?_⟩
  simpa using h2 (i + 1)

theorem sim_storeCells {b o : Nat} {t : Ent} : ∀ (vs vs' : List Value) {ρ : Ren} {H : List AObj} (i : Nat), ρ[b]? = some t → LRel ρ vs vs' →
  Sim P B ρ H (fun _ _ _ => True) (storeCells ⟨b, o, none⟩ vs i) (storeCells ⟨t.rb, t.ro + o, none⟩ vs' i) := by
 intro vs
 induction vs with
 | nil =>
  intro vs' ρ H i _ h
  rw [h.nil_iff]
  exact Sim.pure trivial
 | cons v vs ih =>
  intro vs' ρ H i ht h
  obtain ⟨y, ys, rfl, hv, hr⟩ := h.cons
  unfold Go.storeCells
  rw [addr_add, addr_add, Nat.add_assoc]
  exact Sim.bind (Sim.store ht hv _) fun ρ1 H1 _ _ hρ _ => ih ys (i + 1) (prefix_get hρ ht) ⟨hr.1, fun i => (hr.2 i).mono hρ⟩

theorem cells_rel {v v' : Value} (h : VRel ρ v v') : ARel ρ v.cells v'.cells := by
 have one : ∀ u u' : Value, VRel ρ u u' → u.cells = #[u] → u'.cells = #[u'] → ARel ρ u.cells u'.cells := by
  intro u u' hu h1 h2
  rw [h1, h2]
  exact (ARel.empty ρ).push hu
 cases h with
 | agg h1 h2 => exact ⟨h1, h2⟩
 | atom ha =>
  cases v <;> first | exact one _ _ (.atom ha) rfl rfl | (simp [isAtom] at ha)
 | ptr h => exact one _ _ (.ptr h) rfl rfl
 | slice h hc => exact one _ _ (.slice h hc) rfl rfl
 | grown h hl hc ho hn => exact one _ _ (.grown h hl hc ho hn) rfl rfl
 | map h => exact one _ _ (.map h) rfl rfl
 | func h1 h2 h3 h4 => exact one _ _ (.func h1 h2 h3 h4) rfl rfl
 | yield h => exact one _ _ (.yield h) rfl rfl
 | nil => exact one _ _ .nil rfl rfl
 | tuple h1 h2 => exact one _ _ (.tuple h1 h2) rfl rfl

theorem sim_storeVar {b o : Nat} {t : Ent} {v v' : Value} (ht : ρ[b]? = some t) (hv : VRel ρ v v') (T : TypeId) : Sim P B ρ H (fun _ _ _ => True) (storeVar T ⟨b, o, none⟩ v) (storeVar T ⟨t.rb, t.ro + o, none⟩ v') := by
 unfold Go.storeVar
 refine Sim.bind (sim_sizeOf T) fun ρ1 H1 n n' hρ hn => ?_
 obtain ⟨rfl, -⟩ := hn
 have hc := (cells_rel hv).mono hρ
 rw [← hc.1]
 split
 ·exact Sim.halt
 ·exact sim_storeCells _ _ 0 (prefix_get hρ ht) ⟨by simpa using hc.1, fun i => by simpa using hc.2 i⟩

/-! ### What an operation yields -/

def NRel (ρ : Ren) : Next → Next → Prop
 | .value v, .value v' => VRel ρ v v'
 | .skip, .skip => True
 | _, _ => False

theorem sim_value {e e' : Sem Value} (h : Sim P B ρ H VRel e e') : Sim P B ρ H NRel (do pure (.value (← e))) (do pure (.value (← e'))) :=
 Sim.bind h fun _ _ _ _ _ hv => Sim.pure hv

theorem sim_skip {e e' : Sem Unit} (h : Sim P B ρ H (fun _ _ _ => True) e e') : Sim P B ρ H NRel (do e; pure .skip) (do e'; pure .skip) :=
 Sim.bind h fun _ _ _ _ _ _ => Sim.pure trivial

theorem sim_sureAddr {v v' : Value} (h : VRel ρ v v') : Sim P B ρ H (fun ρ a a' => ∃ b o t, a = ⟨b, o, none⟩ ∧ a' = ⟨t.rb, t.ro + o, none⟩ ∧ ρ[b]? = some t) (Instr.sureAddr v) (Instr.sureAddr v') := by
 cases h with
 | ptr h => exact Sim.pure ⟨_, _, _, rfl, rfl, h⟩
 | atom ha =>
  cases v <;> first | exact Sim.halt | (rename_i a; cases a <;> first | exact Sim.halt | (simp [isAtom] at ha))
 | _ => exact Sim.halt

theorem op_load {T : TypeId} {a a' : Value} (h : VRel ρ a a') : Sim P B ρ H VRel (Instr.loadAt T a) (Instr.loadAt T a') := by
 refine Sim.bind (sim_sureAddr h) fun ρ1 H1 x x' hρ hx => ?_
 obtain ⟨b, o, t, rfl, rfl, ht⟩ := hx
 exact sim_loadVar ht T

theorem op_store {T : TypeId} {a a' v v' : Value} (h : VRel ρ a a') (hv : VRel ρ v v') : Sim P B ρ H (fun _ _ _ => True) (Instr.storeAt T a v) (Instr.storeAt T a' v') := by
 refine Sim.bind (sim_sureAddr h) fun ρ1 H1 x x' hρ hx => ?_
 obtain ⟨b, o, t, rfl, rfl, ht⟩ := hx
 exact sim_storeVar ht (hv.mono hρ) T

theorem op_alloc (hP : POk P) {T : TypeId} {u : Value} : Sim P B ρ H VRel (Instr.alloc T true u) (Instr.alloc T true u) := by
 unfold Instr.alloc
 refine Sim.bind (sim_zeroValue hP T) fun ρ1 H1 z z' hρ hz => ?_
 obtain ⟨rfl, hz⟩ := hz
 have hr := cells_rel (closed_rel ρ1 4 _ hz)
 have key : Sim P B ρ1 H1 VRel (do pure (.pointer (some (← newVar T z')))) (do pure (.pointer (some (← newVar T z')))) :=
  Sim.bind (Sim.newRow hr) fun ρ2 H2 x x' _ hx => by
   obtain ⟨b, t, rfl, rfl, ht, ho, -, -⟩ := hx
   refine Sim.pure ?_
   have := VRel.ptr (o := 0) ht
   rw [ho] at this
   exact this
 split
 ·rename_i h; cases h
 ·exact key

theorem op_box {T : TypeId} {v v' : Value} (h : VRel ρ v v') : Sim P B ρ H VRel (Instr.box T v) (Instr.box T v') := by
 unfold Instr.box
 refine Sim.bind (Sim.newRow (cells_rel h)) fun ρ2 H2 x x' _ hx => ?_
 obtain ⟨b, t, rfl, rfl, ht, ho, -, -⟩ := hx
 refine Sim.pure ?_
 have := VRel.ptr (o := 0) ht
 rw [ho] at this
 exact this

theorem op_fieldAddr {S f : Nat} {v v' : Value} (h : VRel ρ v v') : Sim P B ρ H VRel (Instr.fieldAt S v f) (Instr.fieldAt S v' f) := by
 unfold Instr.fieldAt
 refine Sim.bind (sim_underlying S) fun ρ1 H1 d d' hρ hd => ?_
 obtain ⟨rfl, -⟩ := hd
 split
 ·split
  ·rename_i fld _
   refine Sim.bind (sim_sureAddr (h.mono hρ)) fun ρ2 H2 x x' hρ2 hx => ?_
   obtain ⟨b, o, t, rfl, rfl, ht⟩ := hx
   unfold fieldPlace
   refine Sim.bind (R := fun ρ3 a a' => ∃ b o t, a = ⟨b, o, none⟩ ∧ a' = ⟨t.rb, t.ro + o, none⟩ ∧ ρ3[b]? = some t) ?_ fun ρ3 H3 y y' hρ3 hy => ?_
   ·refine Sim.bind (sim_sizeOf fld.type) fun ρ3 H3 n n' hρ3 hn => ?_
    obtain ⟨rfl, -⟩ := hn
    split
    ·refine Sim.fail fun H lo => ?_
     unfold partAt byteOf noView viewAt
     rfl
    ·rw [addr_add, addr_add, Nat.add_assoc]
     exact Sim.pure ⟨_, _, _, rfl, rfl, prefix_get hρ3 ht⟩
   ·obtain ⟨b, o, t, rfl, rfl, ht⟩ := hy
    exact Sim.pure (.ptr ht)
  ·exact Sim.halt
 ·exact Sim.halt

end Go.Abs

/- The abstract machine: its operations against the model's, the rest of those that run on the heap alike. -/
namespace Go.Abs
open Go Go.RowKit

variable {P : Program} {B : Nat} {ρ : Ren} {H : List AObj}

theorem arun_bounds {α : Type} (k : IntKind) (x y : Int) (c : BoundsCode) (H : List AObj) (lo : Nat) : arun P (boundsPanic k x y c : Sem α) H lo = none := by
 unfold boundsPanic
 dsimp only
 split
 ·change arun P (Sem.bind (Sem.bind (choose _) _) _) H lo = none
  rw [arun_bind, arun_bind]
  rfl
 ·rfl

theorem rel_int {v : Value} {k : IntKind} {n : Int} (h : VRel ρ (.int k n) v) : v = .int k n := isAtom_rel h rfl

theorem sim_asIntOf {v v' : Value} (h : VRel ρ v v') : Sim P B ρ H (fun _ a a' => a' = a) (asIntOf v) (asIntOf v') := by
 cases h with
 | atom ha =>
  cases v <;> first | exact Sim.halt | exact Sim.pure rfl | (rename_i a; cases a <;> first | exact Sim.halt | (simp [isAtom] at ha))
 | _ => exact Sim.halt

def BRel (ρ : Ren) (a a' : Option Addr × Nat × TypeId) : Prop :=
 a'.2 = a.2 ∧ ((a.1 = none ∧ a'.1 = none) ∨ ∃ b o t o', a.1 = some ⟨b, o, none⟩ ∧ a'.1 = some ⟨t.rb, o', none⟩ ∧ ρ[b]? = some t ∧ (0 < a.2.1 → o' = t.ro + o))

theorem Sim.ite {α α' : Type} {R : Ren → α → α' → Prop} {c : Prop} [Decidable c] {x y : Sem α} {x' y' : Sem α'} (h1 : c → Sim P B ρ H R x x') (h2 : ¬ c → Sim P B ρ H R y y') :
  Sim P B ρ H R (if c then x else y) (if c then x' else y') := by
 split
 ·exact h1 ‹_›
 ·exact h2 ‹_›

def idxTail (T : TypeId) (k : IntKind) (i : Int) (q : Option Addr × Nat × TypeId) : Sem Value := do
 let tiny := q.2.1 ≤ 1 && (match ← underlying T with | .array .. => true | _ => false)
 match q.1 with
 | some a =>
  if 0 ≤ i ∧ i < q.2.1 then pure (.pointer (some (a.add (i.toNat * (← sizeOf q.2.2)))))
  else if tiny then unsupported (.noEntry "op/indexAddr.an index out of range at an array of length 0 or 1 (ledger 616)")
  else boundsPanic k i q.2.1 .index
 | none => boundsPanic k i 0 .index

theorem idx_tail {T : TypeId} {k : IntKind} {n : Int} {q q' : Option Addr × Nat × TypeId} (hq : BRel ρ q q') : Sim P B ρ H VRel (idxTail T k n q) (idxTail T k n q') := by
 obtain ⟨hq1, hq2⟩ := hq
 obtain ⟨a, len, elem⟩ := q
 obtain ⟨a', len', elem'⟩ := q'
 simp only [Prod.mk.injEq] at hq1
 obtain ⟨rfl, rfl⟩ := hq1
 unfold idxTail
 refine Sim.bind (Sim.same (hf_underlying T)) fun ρ3 H3 d d' hρ3 hd => ?_
 subst hd
 rcases hq2 with ⟨ha, ha'⟩ | ⟨b, o, t, o', ha, ha', ht, ho⟩
 ·simp only at ha ha'
  subst ha; subst ha'
  exact Sim.fail fun _ _ => arun_bounds _ _ _ _ _ _
 ·simp only at ha ha'
  subst ha; subst ha'
  simp only
  refine Sim.ite (fun hr => ?_) fun _ => Sim.ite (fun _ => Sim.halt) fun _ => Sim.fail fun _ _ => arun_bounds _ _ _ _ _ _
  have hlen : 0 < len' := by omega
  obtain rfl := ho hlen
  refine Sim.bind (sim_sizeOf elem') fun ρ4 H4 s s' hρ4 hs => ?_
  obtain ⟨rfl, -⟩ := hs
  rw [addr_add, addr_add, Nat.add_assoc]
  exact Sim.pure (.ptr (prefix_get (hρ3.trans hρ4) ht))

theorem op_indexAddr {T : TypeId} {x x' i i' : Value} (h : VRel ρ x x') (hi : VRel ρ i i') : Sim P B ρ H VRel (Instr.indexAt T x i) (Instr.indexAt T x' i') := by
 unfold Instr.indexAt
 refine Sim.bind (sim_asIntOf hi) fun ρ1 H1 n n' hρ hn => ?_
 subst hn
 obtain ⟨k, n⟩ := n'
 have h1 := h.mono hρ
 refine Sim.bind (sim_underlying T) fun ρ2 H2 d d' hρ2 hd => ?_
 obtain ⟨rfl, -⟩ := hd
 have h2 := h1.mono hρ2
 cases d' with
 | array len elem =>
  refine Sim.bind (sim_sureAddr h2) fun ρ3 H3 y y' hρ3 hy => ?_
  obtain ⟨b, o, t, rfl, rfl, ht⟩ := hy
  exact idx_tail (k := k) (n := n) (q := (some ⟨b, o, none⟩, len, elem)) (q' := (some ⟨t.rb, t.ro + o, none⟩, len, elem)) ⟨rfl, .inr ⟨_, _, _, _, rfl, rfl, ht, fun _ => rfl⟩⟩
 | slice elem =>
  cases h2 with
  | atom ha =>
   cases x <;> first | exact Sim.halt | skip
   rename_i a l c
   cases a with
   | none => exact idx_tail (k := k) (n := n) (q := (none, l, elem)) (q' := (none, l, elem)) ⟨rfl, .inl ⟨rfl, rfl⟩⟩
   | some a => simp [isAtom] at ha
  | slice ht hc => exact idx_tail (k := k) (n := n) (q := (some _, _, elem)) (q' := (some _, _, elem)) ⟨rfl, .inr ⟨_, _, _, _, rfl, rfl, ht, fun _ => rfl⟩⟩
  | grown ht hl hc ho hn => exact idx_tail (k := k) (n := n) (q := (some _, _, elem)) (q' := (some _, _, elem)) ⟨rfl, .inr ⟨_, _, _, _, rfl, rfl, ht, fun h0 => ho (Nat.lt_of_lt_of_le h0 hl)⟩⟩
  | _ => exact Sim.halt
 | _ => exact Sim.halt

theorem ARel.get {xs ys : Array Value} (h : ARel ρ xs ys) {i : Nat} {x : Value} (hx : xs[i]? = some x) : ∃ y, ys[i]? = some y ∧ VRel ρ x y := by
 have hi := (Array.getElem?_eq_some_iff.1 hx).1
 have hi' : i < ys.size := by rw [← h.1]; exact hi
 have := h.2 i
 refine ⟨ys[i], by simp [hi'], ?_⟩
 simp [hi] at hx
 subst hx
 simpa [hi, hi'] using this

theorem op_extract {i : Nat} {v v' : Value} (h : VRel ρ v v') : Sim P B ρ H VRel (Instr.extract v i) (Instr.extract v' i) := by
 cases h with
 | atom ha => cases v <;> first | exact Sim.halt | (simp [isAtom] at ha)
 | nil =>
  unfold Instr.extract
  simp only [List.getElem?_toArray, List.getElem?_nil]
  exact Sim.halt
 | tuple h1 h2 =>
  rename_i cs cs'
  unfold Instr.extract
  simp only
  cases hx : cs[i]? with
  | none => exact Sim.halt
  | some x =>
   obtain ⟨y, hy, hr⟩ := ARel.get ⟨h1, h2⟩ hx
   rw [hy]
   exact Sim.pure hr
 | _ => exact Sim.halt

theorem ARel.map {α : Type} {xs : Array α} {f g : α → Value} (h : ∀ x ∈ xs, VRel ρ (f x) (g x)) : ARel ρ (xs.map f) (xs.map g) := by
 refine ⟨by simp, fun i => ?_⟩
 by_cases hi : i < xs.size
 ·simp [hi]; exact h _ (Array.getElem_mem hi)
 ·simp [hi]; exact .nil

theorem op_makeFunc {f : FuncId} {a a' c c' : Array Value} (h1 : ARel ρ a a') (h2 : ARel ρ c c') : Sim P B ρ H VRel (Instr.makeFunc (.func f) a c) (Instr.makeFunc (.func f) a' c') :=
 Sim.pure (.func h1.1 h1.2 h2.1 h2.2)

theorem op_makeMap {T : TypeId} : Sim P B ρ H VRel (Instr.makeMap T none) (Instr.makeMap T none) := by
 unfold Instr.makeMap
 refine Sim.bind Sim.newMap fun ρ1 H1 b b' hρ hb => ?_
 obtain ⟨t, rfl, ht⟩ := hb
 exact Sim.pure (.map ht)

theorem sim_asBool {v v' : Value} (h : VRel ρ v v') : Sim P B ρ H (fun _ a a' => a' = a) (asBool v) (asBool v') := by
 cases h with
 | atom ha => cases v <;> first | exact Sim.halt | exact Sim.pure rfl
 | _ => exact Sim.halt

/-! ### Composite values -/

theorem ARel.set {xs ys : Array Value} (h : ARel ρ xs ys) {v v' : Value} (hv : VRel ρ v v') (i : Nat) : ARel ρ (xs.setIfInBounds i v) (ys.setIfInBounds i v') := by
 refine ⟨by simp [h.1], fun j => ?_⟩
 have e := h.1
 have hj := h.2 j
 by_cases h1 : j < xs.size
 ·have h2 : j < ys.size := by omega
  by_cases hij : i = j
  ·subst hij; simp [Array.getD, h1, h2]; exact hv
  ·simp [Array.getD, h1, h2, hij] at hj ⊢
   exact hj
 ·have h2 : ¬ j < ys.size := by omega
  simp [Array.getD, h1, h2]
  exact .nil

theorem rel_fold (off : Nat) : ∀ (l l' : List Value) (k : Nat) {xs ys : Array Value}, LRel ρ l l' → ARel ρ xs ys →
  ARel ρ ((l.zipIdx k).foldl (fun cs (p : Value × Nat) => cs.setIfInBounds (off + p.2) p.1) xs) ((l'.zipIdx k).foldl (fun cs (p : Value × Nat) => cs.setIfInBounds (off + p.2) p.1) ys) := by
 intro l
 induction l with
 | nil => intro l' k xs ys h ha; rw [h.nil_iff]; exact ha
 | cons v l ih =>
  intro l' k xs ys h ha
  obtain ⟨y, ys', rfl, hv, hr⟩ := h.cons
  simp only [List.zipIdx_cons, List.foldl_cons]
  exact ih ys' (k + 1) hr (ha.set hv _)

def PRel (ρ : Ren) : List (Nat × Value) → List (Nat × Value) → Prop
 | [], [] => True
 | (i, v) :: r, (j, u) :: s => i = j ∧ VRel ρ v u ∧ PRel ρ r s
 | _, _ => False

theorem rel_fill (place : Nat → Option (Nat × Nat)) : ∀ (ps qs : List (Nat × Value)) {xs ys : Array Value}, PRel ρ ps qs → ARel ρ xs ys →
  (Instr.fill place xs ps = none ∧ Instr.fill place ys qs = none) ∨ ∃ r r', Instr.fill place xs ps = some r ∧ Instr.fill place ys qs = some r' ∧ ARel ρ r r' := by
 intro ps
 induction ps with
 | nil =>
  intro qs xs ys h ha
  cases qs with
  | nil => exact .inr ⟨_, _, rfl, rfl, ha⟩
  | cons => exact h.elim
 | cons p ps ih =>
  intro qs xs ys h ha
  cases qs with
  | nil => obtain ⟨i, v⟩ := p; exact h.elim
  | cons q qs =>
   obtain ⟨i, v⟩ := p
   obtain ⟨j, u⟩ := q
   obtain ⟨rfl, hv, hr⟩ := h
   unfold Instr.fill
   cases hp : place i with
   | none => exact .inl ⟨rfl, rfl⟩
   | some os =>
    obtain ⟨off, size⟩ := os
    simp only
    have hc := cells_rel hv
    rw [← hc.1, ← ha.1]
    split
    ·exact .inl ⟨rfl, rfl⟩
    ·refine ih qs hr ?_
     have := rel_fold off v.cells.toList u.cells.toList 0 ⟨by simpa using hc.1, fun i => by simpa using hc.2 i⟩ ha
     rw [← Array.foldl_toList, ← Array.foldl_toList, Array.toList_zipIdx, Array.toList_zipIdx]
     exact this

theorem PRel.map {ps : List (Nat × Operand)} {f g : Operand → Value} (h : ∀ x ∈ ps.map (·.2), VRel ρ (f x) (g x)) : PRel ρ (ps.map fun (i, x) => (i, f x)) (ps.map fun (i, x) => (i, g x)) := by
 induction ps with
 | nil => trivial
 | cons p ps ih =>
  obtain ⟨i, x⟩ := p
  exact ⟨rfl, h x (by simp), ih fun y hy => h y (by simp at hy ⊢; exact .inr hy)⟩

theorem PRel.mono {ρ ρ' : Ren} (hρ : ρ <+: ρ') : ∀ {ps qs : List (Nat × Value)}, PRel ρ ps qs → PRel ρ' ps qs
 | [], [], _ => trivial
 | (_, _) :: _, (_, _) :: _, ⟨h1, h2, h3⟩ => ⟨h1, h2.mono hρ, PRel.mono hρ h3⟩
 | [], _ :: _, h => h.elim
 | _ :: _, [], h => by simp [PRel] at h

theorem hf_mapM {α β : Type} {f : α → Sem β} (h : ∀ a, hf (f a) P) : ∀ (l : List α), hf (l.mapM f) P
 | [] => by simp; trivial
 | a :: l => by
  rw [List.mapM_cons]
  exact hf_bind (h a) fun b => hf_bind (hf_mapM h l) fun bs => trivial

theorem hf_amapM {α β : Type} {f : α → Sem β} (h : ∀ a, hf (f a) P) (l : Array α) : hf (l.mapM f) P := by
 rw [Array.mapM_eq_mapM_toList]
 exact hf_bind (hf_mapM h _) fun _ => trivial

theorem op_build (hP : POk P) {T : TypeId} {ps qs : Array (Nat × Value)} (h : PRel ρ ps.toList qs.toList) : Sim P B ρ H VRel (Instr.build T ps) (Instr.build T qs) := by
 unfold Instr.build
 refine Sim.bind (sim_zeroValue hP T) fun ρ1 H1 z z' hρ hz => ?_
 obtain ⟨rfl, hz⟩ := hz
 have hr := cells_rel (closed_rel ρ1 4 _ hz)
 have h1 := h.mono hρ
 refine Sim.bind (sim_underlying T) fun ρ2 H2 d d' hρ2 hd => ?_
 obtain ⟨rfl, -⟩ := hd
 cases d' with
 | struct fields =>
  have hfm : ∀ f : Field, hf (do pure (f.offset, ← sizeOf f.type) : Sem (Nat × Nat)) P := fun f => hf_bind (hf_sizeOf _) fun _ => trivial
  refine Sim.bind (Sim.same (hf_amapM hfm _)) fun ρ3 H3 pl pl' hρ3 hpl => ?_
  subst hpl
  rcases rel_fill (fun x => pl'[x]?) ps.toList qs.toList (h1.mono (hρ2.trans hρ3)) (hr.mono (hρ2.trans hρ3)) with ⟨e1, e2⟩ | ⟨r, r', e1, e2, e3⟩
  ·simp only [e1, e2]; exact Sim.halt
  ·simp only [e1, e2]; exact Sim.pure (.agg e3.1 e3.2)
 | array n elem =>
  refine Sim.bind (sim_sizeOf elem) fun ρ3 H3 s s' hρ3 hs => ?_
  obtain ⟨rfl, -⟩ := hs
  rcases rel_fill (fun i => some (i * s', s')) ps.toList qs.toList (h1.mono (hρ2.trans hρ3)) (hr.mono (hρ2.trans hρ3)) with ⟨e1, e2⟩ | ⟨r, r', e1, e2, e3⟩
  ·simp only [e1, e2]; exact Sim.halt
  ·simp only [e1, e2]; exact Sim.pure (.agg e3.1 e3.2)
 | _ => exact Sim.halt

def CRel (ρ : Ren) (v v' : Value) : Prop := (∀ a l c, v = .slice a l c → c < BIG) → VRel ρ v v'

theorem bang_rel {z : Array Value} (h : ARel ρ z z) (i : Nat) : VRel ρ z[i]! z[i]! := by
 by_cases hi : i < z.size
 ·have := h.2 i
  simpa [hi] using this
 ·have e : z[i]! = default := by simp [hi]
  rw [e]
  exact .atom rfl

theorem zeros_rel {z : Array Value} (h : ARel ρ z z) (n : Nat) : ARel ρ ((Array.range n).map (z[· % z.size]!)) ((Array.range n).map (z[· % z.size]!)) :=
 ARel.map fun _ _ => bang_rel h _

theorem slice_new {b : Nat} {t : Ent} (ht : ρ[b]? = some t) (ho : t.ro = 0) (l c : Nat) : CRel ρ (.slice (some ⟨b, 0, none⟩) l c) (.slice (some ⟨t.rb, 0, none⟩) l c) := by
 intro hc
 have := VRel.slice (o := 0) (len := l) ht (hc _ _ _ rfl)
 rw [ho] at this
 exact this

theorem op_buildSlice (hP : POk P) {T len : Nat} {ps qs : Array (Nat × Value)} (h : PRel ρ ps.toList qs.toList) : Sim P B ρ H CRel (Instr.buildSlice T len ps) (Instr.buildSlice T len qs) := by
 unfold Instr.buildSlice
 refine Sim.bind (sim_underlying T) fun ρ1 H1 d d' hρ1 hd => ?_
 obtain ⟨rfl, -⟩ := hd
 cases d' with
 | slice elem =>
  refine Sim.bind (sim_sizeOf elem) fun ρ2 H2 s s' hρ2 hs => ?_
  obtain ⟨rfl, -⟩ := hs
  dsimp only
  refine Sim.ite (fun _ => Sim.fail fun _ _ => rfl) fun _ => ?_
  have tail : ∀ (ρ3 : Ren) (H3 : List AObj) (z' : Array Value), ρ2 <+: ρ3 → ARel ρ3 z' z' → Sim P B ρ3 H3 CRel
    (do
     let some cells := Instr.fill (fun i => some (i * s', s')) ((Array.range (len * s')).map (z'[· % z'.size]!)) ps.toList
      | stuck "buildSlice: a part of the wrong size"
     pure (.slice (some (← newRow elem cells)) len len))
    (do
     let some cells := Instr.fill (fun i => some (i * s', s')) ((Array.range (len * s')).map (z'[· % z'.size]!)) qs.toList
      | stuck "buildSlice: a part of the wrong size"
     pure (.slice (some (← newRow elem cells)) len len)) := by
    intro ρ3 H3 z' hρ3 hz
    rcases rel_fill (fun i => some (i * s', s')) ps.toList qs.toList (h.mono (hρ1.trans (hρ2.trans hρ3))) (zeros_rel hz (len * s')) with ⟨e1, e2⟩ | ⟨r, r', e1, e2, e3⟩
    ·simp only [e1, e2]; exact Sim.halt
    ·simp only [e1, e2]
     refine Sim.bind (Sim.newRow e3) fun ρ4 H4 a a' hρ4 ha => ?_
     obtain ⟨b, t, rfl, rfl, ht, ho, -, -⟩ := ha
     exact Sim.pure (slice_new ht ho _ _)
  refine Sim.ite (fun _ => tail _ _ #[] (List.prefix_refl _) (ARel.empty _)) fun _ => ?_
  refine Sim.bind (sim_zeroValue hP elem) fun ρ3 H3 z z' hρ3 hz => ?_
  obtain ⟨rfl, hz⟩ := hz
  exact tail _ _ z'.cells hρ3 (cells_rel (closed_rel ρ3 4 _ hz))
 | _ => exact Sim.halt

theorem sim_asInt {v v' : Value} (h : VRel ρ v v') : Sim P B ρ H (fun _ a a' => a' = a) (asInt v) (asInt v') := by
 unfold asInt
 refine Sim.bind (sim_asIntOf h) fun _ _ a a' _ h => ?_
 subst h
 exact Sim.pure rfl

theorem op_makeSlice (hP : POk P) {T : TypeId} {l l' c c' : Value} (hl : VRel ρ l l') (hc : VRel ρ c c') : Sim P B ρ H CRel (Instr.makeSlice T l c) (Instr.makeSlice T l' c') := by
 unfold Instr.makeSlice
 refine Sim.bind (sim_underlying T) fun ρ1 H1 d d' hρ1 hd => ?_
 obtain ⟨rfl, -⟩ := hd
 cases d' with
 | slice elem =>
  refine Sim.bind (sim_asInt (hl.mono hρ1)) fun ρ2 H2 n n' hρ2 hn => ?_
  subst hn
  refine Sim.bind (sim_asInt (hc.mono (hρ1.trans hρ2))) fun ρ3 H3 m m' hρ3 hm => ?_
  subst hm
  refine Sim.bind (sim_typeInfo elem) fun ρ4 H4 i i' hρ4 hi => ?_
  obtain ⟨rfl, -⟩ := hi
  dsimp only
  split
  ·refine Sim.fail fun H lo => ?_
   split
   ·rfl
   ·split
    ·rfl
    ·rfl
  ·refine Sim.bind (Sim.askRoom _ _) fun ρ5 H5 _ _ hρ5 _ => ?_
   refine Sim.bind (sim_sizeOf elem) fun ρ6 H6 s s' hρ6 hs => ?_
   obtain ⟨rfl, -⟩ := hs
   have tail : ∀ (ρ7 : Ren) (H7 : List AObj) (z' : Array Value), ARel ρ7 z' z' → Sim P B ρ7 H7 CRel
     (do pure (.slice (some (← newRow elem ((Array.range ((IntKind.i64.wrap m').toNat * s')).map (z'[· % z'.size]!)))) (IntKind.i64.wrap n').toNat (IntKind.i64.wrap m').toNat))
     (do pure (.slice (some (← newRow elem ((Array.range ((IntKind.i64.wrap m').toNat * s')).map (z'[· % z'.size]!)))) (IntKind.i64.wrap n').toNat (IntKind.i64.wrap m').toNat)) := by
    intro ρ7 H7 z' hz
    refine Sim.bind (Sim.newRow (zeros_rel hz _)) fun ρ8 H8 a a' hρ8 ha => ?_
    obtain ⟨b, t, rfl, rfl, ht, ho, -, -⟩ := ha
    exact Sim.pure (slice_new ht ho _ _)
   refine Sim.ite (fun _ => tail _ _ #[] (ARel.empty _)) fun _ => ?_
   refine Sim.bind (sim_zeroValue hP elem) fun ρ3 H3 z z' hρ3 hz => ?_
   obtain ⟨rfl, hz⟩ := hz
   exact tail _ _ z'.cells (cells_rel (closed_rel ρ3 4 _ hz))
 | _ => exact Sim.halt

end Go.Abs

/- The abstract machine: its own operations (slice expressions, len, cap, maps, nil) against the model's. -/
namespace Go.Abs
open Go Go.RowKit

variable {P : Program} {B : Nat} {ρ : Ren} {H : List AObj} {w : World}

def Done (P : Program) (B : Nat) (ρ : Ren) (st : St) (w : World) (v : Value) (st1 : St) (r : Result Next) : Prop :=
 st1.lo ≤ st.lo ∧ ∃ ρ1 v' w1, (r = .ok (.value v') w1 ∨ (r = .ok .skip w1 ∧ v' = undef)) ∧ Moved P B ρ st.H w ρ1 st1.H st1.lo w1 ∧ VRel ρ1 v v'

theorem Done.same {st : St} {v v' : Value} {r : Result Next} (hw : WRel P B ρ st.H w) (hr : r = .ok (.value v') w) (hv : VRel ρ v v') : Done P B ρ st w v st r :=
 ⟨Nat.le_refl _, ρ, v', w, .inl hr, Moved.refl hw _, hv⟩

theorem run_typeInfo {t : TypeId} {i : TypeInfo} (h : P.info? t = some i) (w : World) : (typeInfo t).run P w = .ok i w := by
 unfold typeInfo
 change Sem.run P (Sem.bind program _) w = _
 rw [run_bind']
 simp only [program, Sem.run, h]
 rfl

theorem run_underlying {t : TypeId} {d : TypeDesc} (h : P.underlying t = some d) (w : World) : (underlying t).run P w = .ok d w := by
 unfold underlying
 change Sem.run P (Sem.bind program _) w = _
 rw [run_bind']
 simp only [program, Sem.run, h]
 rfl

theorem run_sizeOf {t : TypeId} {i : TypeInfo} (h : P.info? t = some i) (w : World) : (sizeOf t).run P w = .ok i.size w := by
 unfold sizeOf
 change Sem.run P (Sem.bind _ _) w = _
 rw [run_bind', run_typeInfo h]
 rfl

theorem run_zeroValue {t : TypeId} {i : TypeInfo} {z : Value} (h : P.info? t = some i) (hz : i.zero = some z) (w : World) : (zeroValue t).run P w = .ok z w := by
 unfold zeroValue
 change Sem.run P (Sem.bind _ _) w = _
 rw [run_bind', run_typeInfo h]
 simp only [hz]
 rfl

theorem prun_run {α : Type} {e : Sem α} {v : α} (h : prun P e = some v) (w : World) : e.run P w = .ok v w := by
 induction e with
 | pure a => simp only [prun, Option.some.injEq] at h; subst h; rfl
 | program k ih => exact ih P h
 | mark m k ih => exact ih h
 | _ => cases h

theorem run_bind_ok {α β : Type} {e : Sem α} {f : α → Sem β} {a : α} {w1 : World} (h : e.run P w = .ok a w1) : (e >>= f).run P w = (f a).run P w1 := by
 change Sem.run P (Sem.bind _ _) w = _
 rw [run_bind', h]

theorem ofPure_done {st st1 : St} {r : Option Next} {v : Value} (h : ofPure r st = some (.val v st1)) : r = some (.value v) ∧ closed v = true ∧ st1 = st := by
 unfold ofPure at h
 split at h
 ·split at h
  ·simp only [Option.some.injEq, ANext.val.injEq] at h
   obtain ⟨rfl, rfl⟩ := h
   exact ⟨rfl, ‹_›, rfl⟩
  ·cases h
 ·cases h

/-! ### Slice expressions -/

theorem intOf_some {v : Value} {i : Nat} (h : intOf? v = some i) : ∃ k n, v = .int k n ∧ 0 ≤ n ∧ n.toNat = i := by
 cases v <;> simp [intOf?] at h
 obtain ⟨h1, h2⟩ := h
 exact ⟨_, _, rfl, h1, h2⟩

theorem run_sliceBound {v : Value} {i y : Nat} (c : BoundsCode) (h : intOf? v = some i) (hy : i ≤ y) (w : World) : (Instr.sliceBound v y c).run P w = .ok i w := by
 obtain ⟨k, n, rfl, h0, rfl⟩ := intOf_some h
 unfold Instr.sliceBound
 rw [run_bind_ok (a := (k, n)) (w1 := w) rfl]
 simp only
 rw [if_pos ⟨h0, by omega⟩]
 rfl

def SameInt (a b : Option Value) : Prop := (a = none → b = none) ∧ ∀ v, a = some v → (∃ i, intOf? v = some i) → b = some v

theorem ob_some {a b : Option Value} {y d r y' : Nat} (h : ob a y d = some r) (hs : SameInt a b) (hy : y ≤ y') :
  (b = none ∧ a = none ∧ r = d) ∨ (∃ v, b = some v ∧ a = some v ∧ r ≤ y ∧ ∀ (c : BoundsCode) (w : World), (Instr.sliceBound v y' c).run P w = .ok r w) := by
 unfold ob at h
 cases a with
 | none => simp only [Option.some.injEq] at h; exact .inl ⟨hs.1 rfl, rfl, h.symm⟩
 | some v =>
  simp only at h
  cases hv : intOf? v with
  | none => rw [hv] at h; cases h
  | some i =>
   rw [hv] at h
   simp only at h
   split at h
   ·rename_i hi
    simp only [Option.some.injEq] at h
    subst h
    exact .inr ⟨v, hs.2 v rfl ⟨_, hv⟩, rfl, hi, fun c w => run_sliceBound c hv (Nat.le_trans hi hy) w⟩
   ·cases h

theorem bounds_run {len c cap : Nat} {lo hi mx lo' hi' mx' : Option Value} {l h m : Nat} (hb : bounds? len c lo hi mx = some (l, h, m)) (hc : c ≤ cap)
  (g1 : SameInt lo lo') (g2 : SameInt hi hi') (g3 : SameInt mx mx') (w : World) :
  (Instr.sliceBounds true len cap lo' hi' mx').run P w = .ok (l, h, if mx.isSome then m else cap) w ∧ l ≤ h ∧ (mx = none → m = c) ∧ m ≤ c ∧ (hi = none → h = len) ∧ (hi ≠ none → h ≤ m) ∧ (mx ≠ none → hi ≠ none) := by
 unfold bounds? at hb
 split at hb
 ·cases hb
 ·rename_i m0 hm
  split at hb
  ·cases hb
  ·rename_i hmh
   split at hb
   ·cases hb
   ·rename_i h0 hh
    split at hb
    ·cases hb
    ·rename_i l0 hl
     simp only [Option.some.injEq, Prod.mk.injEq] at hb
     obtain ⟨rfl, rfl, rfl⟩ := hb
     unfold Instr.sliceBounds
     rcases ob_some (P := P) hm g3 hc with ⟨rfl, rfl, rfl⟩ | ⟨v3, rfl, rfl, q3, r3⟩
     ·rcases ob_some (P := P) hh g2 hc with ⟨rfl, rfl, rfl⟩ | ⟨v2, rfl, rfl, q2, r2⟩
      ·rcases ob_some (P := P) hl g1 (Nat.le_refl _) with ⟨rfl, rfl, rfl⟩ | ⟨v1, rfl, rfl, q1, r1⟩
       ·exact ⟨by simp [Result.andThen, Pure.pure, Sem.run], by simp, by simp, by simp, by simp, by simp, by simp⟩
       ·exact ⟨by simp [Result.andThen, Pure.pure, Sem.run, r1], q1, by simp, by simp, by simp, by simp, by simp⟩
      ·rcases ob_some (P := P) hl g1 (Nat.le_refl _) with ⟨rfl, rfl, rfl⟩ | ⟨v1, rfl, rfl, q1, r1⟩
       ·exact ⟨by simp [Result.andThen, Pure.pure, Sem.run, r2], by simp, by simp, by simp, by simp, fun _ => q2, by simp⟩
       ·exact ⟨by simp [Result.andThen, Pure.pure, Sem.run, r2, r1], q1, by simp, by simp, by simp, fun _ => q2, by simp⟩
     ·rcases ob_some (P := P) hh g2 (Nat.le_refl _) with ⟨rfl, rfl, rfl⟩ | ⟨v2, rfl, rfl, q2, r2⟩
      ·simp at hmh
      ·rcases ob_some (P := P) hl g1 (Nat.le_refl _) with ⟨rfl, rfl, rfl⟩ | ⟨v1, rfl, rfl, q1, r1⟩
       ·exact ⟨by simp [Result.andThen, Pure.pure, Sem.run, r3, r2], by simp, by simp, q3, by simp, fun _ => q2, by simp⟩
       ·exact ⟨by simp [Result.andThen, Pure.pure, Sem.run, r3, r2, r1], q1, by simp, q3, by simp, fun _ => q2, by simp⟩

theorem WRel.blockSz {ρ : Ren} {H : List AObj} {w : World} (hw : WRel P B ρ H w) {b n : Nat} {t : Ent} (ht : ρ[b]? = some t) (h : blockSz P H b = some n) : t.sz = n := by
 unfold Abs.blockSz at h
 split at h
 ·rename_i c e rw hH
  obtain ⟨C, fz, _, _, _, h4, _⟩ := hw.blk _ _ _ ht hH
  unfold szOf at h4
  cases hi : P.info? e with
  | none => rw [hi] at h; cases h
  | some i =>
   rw [hi] at h h4
   simp at h h4
   omega
 ·cases h

theorem elemOf_some {t e : TypeId} (h : elemOfSlice P t = some e) : P.underlying t = some (.slice e) := by
 unfold elemOfSlice at h
 split at h
 ·simp only [Option.some.injEq] at h; subst h; assumption
 ·cases h

theorem slice_run {t e : TypeId} {i : TypeInfo} {a : Option Addr} {len cap l h m : Nat} {lo hi mx : Option Value} {w : World} (ht : P.underlying t = some (.slice e)) (hi' : P.info? e = some i)
  (hb : (Instr.sliceBounds true len cap lo hi mx).run P w = .ok (l, h, m) w) :
  (Instr.sliceAt t (.slice a len cap) lo hi mx).run P w = .ok (.slice (if m = l then a else a.map (·.add (l * i.size))) (h - l) (m - l)) w := by
 unfold Instr.sliceAt
 rw [run_bind_ok (run_underlying ht w)]
 simp only
 unfold Instr.slice
 rw [run_bind_ok (run_underlying ht w)]
 simp only
 rw [run_bind_ok hb]
 simp only
 rw [run_bind_ok (run_sizeOf hi' w)]
 rfl

end Go.Abs

/- The abstract machine: a slice expression against the model's. -/
namespace Go.Abs
open Go Go.RowKit

variable {P : Program} {B : Nat} {ρ : Ren} {H : List AObj} {w : World}

theorem op_slice {t : TypeId} {x x' v : Value} {lo hi mx lo' hi' mx' : Option Value} (hw : WRel P B ρ H w) (hs : aSlice P H t x lo hi mx = some v) (hx : VRel ρ x x')
  (g1 : SameInt lo lo') (g2 : SameInt hi hi') (g3 : SameInt mx mx') :
  ∃ v', (Instr.sliceAt t x' lo' hi' mx').run P w = .ok v' w ∧ VRel ρ v v' := by
 unfold aSlice at hs
 split at hs
 ·rename_i e b o len cap he
  have ht := elemOf_some he
  split at hs
  ·cases hs
  ·rename_i i hi2
   cases hx with
   | atom ha => simp [isAtom] at ha
   | slice hb hc =>
    rename_i tt
    rw [if_pos hc] at hs
    cases hbd : bounds? len cap lo hi mx with
    | none => rw [hbd] at hs; cases hs
    | some r =>
     obtain ⟨l, h, m⟩ := r
     rw [hbd] at hs
     simp only [Option.map_some, Option.some.injEq] at hs
     subst hs
     obtain ⟨hrun, hlh, hm1, hm2, _, _, _⟩ := bounds_run (P := P) (cap := cap) hbd (Nat.le_refl _) g1 g2 g3 w
     have hm : (if mx.isSome then m else cap) = m := by
      cases mx with
      | none => simp [hm1 rfl]
      | some _ => simp
     rw [hm] at hrun
     refine ⟨_, slice_run ht hi2 hrun, ?_⟩
     have hcap : m - l < BIG := by omega
     by_cases hml : m = l
     ·rw [if_pos hml, if_pos hml]
      exact .slice hb hcap
     ·rw [if_neg hml, if_neg hml]
      simp only [Option.map_some, addr_add, Nat.add_assoc]
      exact .slice hb hcap
   | grown hb hl hc ho hn =>
    rename_i c o' cap' tt
    rw [if_neg (by omega)] at hs
    split at hs
    ·rename_i hsz
     have hsz' : tt.sz = i.size := hw.blockSz hb (by simpa using hsz)
     rw [show BIG + c - BIG = c by omega] at hs
     cases hbd : bounds? len c lo hi mx with
     | none => rw [hbd] at hs; cases hs
     | some r =>
      obtain ⟨l, h, m⟩ := r
      rw [hbd] at hs
      simp only [Option.bind_some] at hs
      obtain ⟨hrun, hlh, hm1, hm2, hh1, hh2, hmh⟩ := bounds_run (P := P) (cap := cap') hbd hc g1 g2 g3 w
      have hhc : h ≤ c := by
       by_cases hhi : hi = none
       ·rw [hh1 hhi]; exact hl
       ·have := hh2 hhi; omega
      refine ⟨_, slice_run ht hi2 hrun, ?_⟩
      by_cases hmx : mx = none
      ·subst hmx
       simp only [Option.isSome_none, Bool.false_and, Bool.false_eq_true, if_false, Option.some.injEq] at hs ⊢
       subst hs
       obtain rfl := hm1 rfl
       by_cases hcl : cap' = l
       ·rw [if_pos hcl]
        refine .grown hb (by omega) (by omega) (by omega) ?_
        have h1 : cap' - l = 0 := by omega
        rw [h1, Nat.zero_mul]
        have h0 : 0 ≤ cap' * tt.sz := Nat.zero_le _
        omega
       ·rw [if_neg hcl]
        simp only [Option.map_some, addr_add]
        have hadd : l * i.size + (cap' - l) * tt.sz = cap' * tt.sz := by
         rw [← hsz', ← Nat.add_mul]; congr 1; omega
        refine .grown hb (by omega) (by omega) (fun h0 => ?_) (by omega)
        rw [ho (by omega)]; omega
      ·have hsm : mx.isSome = true := by cases mx <;> simp_all
       have hmm : h ≤ m := hh2 (hmh hmx)
       simp only [hsm, Bool.true_and, if_true] at hs ⊢
       by_cases hm0 : m = 0
       ·subst hm0
        simp at hs
        subst hs
        have hl0 : l = 0 := by omega
        subst hl0
        simp only [if_true]
        have hh0 : h = 0 := by omega
        subst hh0
        have h0 : 0 ≤ cap' * tt.sz := Nat.zero_le _
        have := VRel.grown (ρ := ρ) (o := o) (len := 0) (c := 0) (o' := o') (cap' := 0) hb (Nat.le_refl _) (Nat.le_refl _) (by omega) (by omega)
        simpa using this
       ·have ho' := ho (by omega)
        subst ho'
        have e1 : (m != 0) = true := by simpa using hm0
        simp only [e1, Bool.true_and, if_true, decide_eq_true_eq] at hs
        split at hs
        ·rename_i hbig
         simp only [Option.some.injEq] at hs
         subst hs
         have hb0 : m - l < BIG := by omega
         by_cases hml : m = l
         ·rw [if_pos hml, if_pos hml]
          exact .slice hb hb0
         ·rw [if_neg hml, if_neg hml]
          simp only [Option.map_some, addr_add, Nat.add_assoc]
          exact .slice hb hb0
        ·cases hs
    ·cases hs
 ·rename_i e he
  have ht := elemOf_some he
  split at hs
  ·cases hs
  ·rename_i i hi2
   have hx' := isAtom_rel hx rfl
   subst hx'
   cases hbd : bounds? 0 0 lo hi mx with
   | none => rw [hbd] at hs; cases hs
   | some r =>
    obtain ⟨l, h, m⟩ := r
    rw [hbd] at hs
    simp only [Option.map_some, Option.some.injEq] at hs
    subst hs
    obtain ⟨hrun, hlh, hm1, hm2, hh1, hh2, _⟩ := bounds_run (P := P) (cap := 0) hbd (Nat.le_refl _) g1 g2 g3 w
    have hm0 : (if mx.isSome then m else 0) = 0 := by split <;> omega
    rw [hm0] at hrun
    have hh : h = 0 := by
     by_cases hhi : hi = none
     ·exact hh1 hhi
     ·have := hh2 hhi; omega
    refine ⟨_, slice_run ht hi2 hrun, ?_⟩
    have hl0 : l = 0 := by omega
    subst hl0; subst hh
    exact .atom rfl
 ·cases hs

theorem builtin_len {ts : Array TypeId} {T : TypeId} {cs : Array Bool} {args args' : Array Value} {v : Value} (hw : WRel P B ρ H w) (ha : ARel ρ args args') (h : aLen P H ts args = some v) :
  (builtin .len ts T cs args').run P w = .ok (.value v) w ∧ VRel ρ v v := by
 have fin : ∀ n, (Builtin.len_ ts T args').run P w = .ok (goInt n) w → v = goInt n → (builtin .len ts T cs args').run P w = .ok (.value v) w ∧ VRel ρ v v := by
  intro n hr hv
  subst hv
  refine ⟨?_, .atom rfl⟩
  unfold builtin
  simp only
  rw [run_bind_ok hr]
  rfl
 unfold aLen at h
 split at h
 ·rename_i t x ht hx
  obtain ⟨x', hx', hr⟩ := ha.get hx
  split at h
  ·rename_i u b n c hu
   simp only [Option.some.injEq] at h
   refine fin n ?_ h.symm
   unfold Builtin.len_
   simp only [ht, hx']
   rw [run_bind_ok (run_underlying hu w)]
   cases hr with
   | atom ha => rfl
   | slice => rfl
   | grown => rfl
  ·rename_i u s hu
   simp only [Option.some.injEq] at h
   refine fin _ ?_ h.symm
   unfold Builtin.len_
   simp only [ht, hx']
   rw [run_bind_ok (run_underlying hu w)]
   obtain rfl := isAtom_rel hr rfl
   rfl
  ·rename_i u n hu
   simp only [Option.some.injEq] at h
   refine fin _ ?_ h.symm
   unfold Builtin.len_
   simp only [ht, hx']
   rw [run_bind_ok (run_underlying hu w)]
   rfl
  ·rename_i u1 u2 hu
   simp only [Option.some.injEq] at h
   refine fin (0 : Nat) ?_ h.symm
   unfold Builtin.len_
   simp only [ht, hx']
   rw [run_bind_ok (run_underlying hu w)]
   obtain rfl := isAtom_rel hr rfl
   rfl
  ·rename_i u1 u2 b hu
   split at h
   ·rename_i es ck hb
    simp only [Option.some.injEq] at h
    cases hr with
    | atom ha => simp [isAtom] at ha
    | map hm =>
     obtain ⟨es', this, -, hes⟩ := hw.blk _ _ _ hm hb
     refine fin _ ?_ h.symm
     unfold Builtin.len_
     simp only [ht, hx']
     rw [run_bind_ok (run_underlying hu w)]
     simp only
     rw [run_bind_ok (a := .map es' ck) (w1 := w) (by simp only [getObj, Sem.run, this])]
     have hl := hes.len
     rw [Array.length_toList] at hl
     simp only [hl]
     rfl
   ·cases h
  ·cases h
 ·cases h

theorem builtin_cap {ts : Array TypeId} {T : TypeId} {cs : Array Bool} {args args' : Array Value} {v : Value} (ha : ARel ρ args args') (h : aCap P ts args = some v) :
  (builtin .cap ts T cs args').run P w = .ok (.value v) w ∧ VRel ρ v v := by
 unfold aCap at h
 split at h
 ·rename_i t a l c ht hx
  obtain ⟨x', hx', hr⟩ := ha.get hx
  split at h
  ·rename_i u hu
   split at h
   ·rename_i hc
    split at h
    ·cases h
    ·simp only [Option.some.injEq] at h
     subst h
     refine ⟨?_, .atom rfl⟩
     unfold builtin
     simp only
     rw [run_bind_ok (a := goInt c) (w1 := w)]
     ·rfl
     ·unfold Builtin.cap_
      simp only [ht, hx']
      rw [run_bind_ok (run_underlying hu w)]
      cases hr with
      | atom => rfl
      | slice => rfl
      | grown => omega
   ·cases h
  ·cases h
 ·cases h

end Go.Abs

/- The abstract machine: maps, nil, copy and clear against the model's. -/
namespace Go.Abs
open Go Go.RowKit

variable {P : Program} {B : Nat} {ρ : Ren} {H : List AObj} {w : World}

def HitRel (ρ : Ren) : Option (Nat × Value) → Option (Nat × Value) → Prop
 | none, none => True
 | some (i, v), some (j, v') => j = i ∧ VRel ρ v v'
 | _, _ => False

theorem findNow_rel {u : TypeDesc} {k : Value} : ∀ {es es' : List MapEntry} (i : Nat) {r : Option (Nat × Value)}, EsRel ρ es es' → Instr.findNow u k es i = some r → ∃ r', Instr.findNow u k es' i = some r' ∧ HitRel ρ r r'
 | [], [], i, r, _, h => by
  simp only [Instr.findNow, Option.some.injEq] at h
  subst h
  exact ⟨none, rfl, trivial⟩
 | e :: es, e' :: es', i, r, ⟨⟨h1, h2, h3, h4⟩, h5⟩, h => by
  simp only [Instr.findNow, h2] at h ⊢
  split at h
  ·simp only [Option.some.injEq] at h
   subst h
   exact ⟨_, rfl, rfl, h4⟩
  ·exact findNow_rel (i + 1) h5 h
  ·cases h
 | [], _ :: _, _, _, h, _ => h.elim
 | _ :: _, [], _, _, h, _ => h.elim

theorem findNow_none {u : TypeDesc} {k : Value} : ∀ {es es' : List MapEntry} (i : Nat), EsRel ρ es es' → Instr.findNow u k es i = none → Instr.findNow u k es' i = none
 | [], [], i, _, h => by simp only [Instr.findNow] at h; cases h
 | e :: es, e' :: es', i, ⟨⟨h1, h2, h3, h4⟩, h5⟩, h => by
  simp only [Instr.findNow, h2] at h ⊢
  split at h
  ·cases h
  ·exact findNow_none (i + 1) h5 h
  ·rfl
 | [], _ :: _, _, h, _ => h.elim
 | _ :: _, [], _, h, _ => h.elim

theorem findAsking_rel {T : TypeId} {k : Value} : ∀ {es es' : List MapEntry} (i : Nat) {r : Option (Nat × Value)} {w w2 : World}, EsRel ρ es es' → (Instr.findAsking T k es i).run P w = .ok r w2 → ∃ r', (Instr.findAsking T k es' i).run P w = .ok r' w2 ∧ HitRel ρ r r'
 | [], [], i, r, w, w2, _, h => by
  simp only [Instr.findAsking, Pure.pure, Sem.run, Result.ok.injEq] at h
  obtain ⟨rfl, rfl⟩ := h
  exact ⟨none, rfl, trivial⟩
 | e :: es, e' :: es', i, r, w, w2, ⟨⟨h1, h2, h3, h4⟩, h5⟩, h => by
  unfold Instr.findAsking at h ⊢
  rw [h2]
  change Sem.run P (Sem.bind _ _) w = _ at h
  rw [run_bind'] at h
  change ∃ r', Sem.run P (Sem.bind _ _) w = _ ∧ _
  rw [run_bind']
  cases hq : Sem.run P (Op.equal T k e.key) w with
  | halt x w' => rw [hq] at h; cases h
  | ok b w' =>
   rw [hq] at h
   simp only at h ⊢
   cases b with
   | true =>
    simp only [if_true, Pure.pure, Sem.run, Result.ok.injEq] at h
    obtain ⟨rfl, rfl⟩ := h
    exact ⟨some (i, e'.val), rfl, rfl, h4⟩
   | false =>
    simp only [Bool.false_eq_true, if_false] at h ⊢
    exact findAsking_rel (i + 1) h5 h
 | [], _ :: _, _, _, _, _, h, _ => h.elim
 | _ :: _, [], _, _, _, _, h, _ => h.elim

theorem findKey_rel {T : TypeId} {k : Value} {es es' : List MapEntry} {r : Option (Nat × Value)} {w w2 : World} (hr : EsRel ρ es es') (h : (Instr.findKey T k es).run P w = .ok r w2) : ∃ r', (Instr.findKey T k es').run P w = .ok r' w2 ∧ HitRel ρ r r' := by
 unfold Instr.findKey at h ⊢
 change Sem.run P (Sem.bind _ _) w = _ at h
 rw [run_bind'] at h
 change ∃ r', Sem.run P (Sem.bind _ _) w = _ ∧ _
 rw [run_bind']
 cases hu : Sem.run P (underlying T) w with
 | halt x w' => rw [hu] at h; cases h
 | ok u w' =>
  rw [hu] at h
  simp only at h ⊢
  cases hf : Instr.findNow u k es 0 with
  | none =>
   rw [hf] at h
   rw [findNow_none 0 hr hf]
   exact findAsking_rel 0 hr h
  | some x =>
   rw [hf] at h
   obtain ⟨r', h1, h2⟩ := findNow_rel 0 hr hf
   rw [h1]
   simp only [Pure.pure, Sem.run, Result.ok.injEq] at h
   obtain ⟨rfl, rfl⟩ := h
   exact ⟨r', rfl, h2⟩

theorem lookup_rel {T elem : TypeId} {k v : Value} {ok : Bool} {es : List MapEntry} {es' : Array MapEntry} {w w2 : World} (hr : EsRel ρ es es'.toList) (h : (lookupRest T elem es.toArray k ok).run P w = .ok v w2) :
  ∃ v', (lookupRest T elem es' k ok).run P w = .ok v' w2 ∧ (VRel ρ v v' ∨ (v' = v ∧ ∃ w1 w3, (Instr.findKey T k es).run P w1 = .ok none w3)) := by
 have he : es'.isEmpty = es.toArray.isEmpty := by
  have := hr.len
  rw [Array.length_toList] at this
  rw [Bool.eq_iff_iff]
  simp only [Array.isEmpty_iff_size_eq_zero, List.size_toArray]
  omega
 unfold lookupRest at h ⊢
 rw [he]
 change Sem.run P (Sem.bind _ _) w = _ at h
 rw [run_bind'] at h
 change ∃ v', Sem.run P (Sem.bind _ _) w = _ ∧ _
 rw [run_bind']
 cases h1 : Sem.run P (Instr.checkKey es.toArray.isEmpty 10000 T k) w with
 | halt x w' => rw [h1] at h; cases h
 | ok u w' =>
  rw [h1] at h
  simp only at h ⊢
  change Sem.run P (Sem.bind _ _) w' = _ at h
  rw [run_bind'] at h
  change ∃ v', Sem.run P (Sem.bind _ _) w' = _ ∧ _
  rw [run_bind']
  cases h2 : Sem.run P (Instr.findKey T k es.toArray.toList) w' with
  | halt x w'' => rw [h2] at h; cases h
  | ok r w'' =>
   rw [h2] at h
   obtain ⟨r', g1, g2⟩ := findKey_rel hr h2
   rw [g1]
   simp only at h ⊢
   cases r with
   | none =>
    cases r' with
    | some _ => exact g2.elim
    | none =>
     refine ⟨v, h, .inr ⟨rfl, w', w'', h2⟩⟩
   | some iv =>
    obtain ⟨i, x⟩ := iv
    cases r' with
    | none => exact g2.elim
    | some jv =>
     obtain ⟨j, x'⟩ := jv
     obtain ⟨rfl, hx⟩ := g2
     cases ok with
     | false =>
      have e : v = x ∧ w2 = w'' := by
       have : (Result.ok x w'' : Result Value) = .ok v w2 := h
       simp only [Result.ok.injEq] at this
       exact ⟨this.1.symm, this.2.symm⟩
      obtain ⟨rfl, rfl⟩ := e
      exact ⟨x', rfl, .inl hx⟩
     | true =>
      have e : v = .tuple #[x, .bool true] ∧ w2 = w'' := by
       have : (Result.ok (.tuple #[x, .bool true]) w'' : Result Value) = .ok v w2 := h
       simp only [Result.ok.injEq] at this
       exact ⟨this.1.symm, this.2.symm⟩
      obtain ⟨rfl, rfl⟩ := e
      refine ⟨.tuple #[x', .bool true], rfl, .inl (.tuple rfl fun n => ?_)⟩
      match n with
      | 0 => exact hx
      | 1 => exact .atom rfl
      | n + 2 => exact .nil

theorem op_lookup {t : TypeId} {x x' k v : Value} {ok : Bool} (hw : WRel P B ρ H w) (h : aLookup P H t x k ok = some v) (hx : VRel ρ x x') :
  ∃ v', (Instr.lookup t x' k ok).run P w = .ok v' w ∧ VRel ρ v v' := by
 have fin : ∀ (r : Option Value), (r.bind fun v => if closed v then some v else none) = some v → r = some v ∧ VRel ρ v v := by
  intro r hr
  cases r with
  | none => cases hr
  | some u =>
   simp only [Option.bind_some] at hr
   split at hr
   ·rename_i hc
    simp only [Option.some.injEq] at hr
    subst hr
    exact ⟨rfl, closed_rel ρ 4 _ hc⟩
   ·cases hr
 unfold aLookup at h
 split at h
 ·rename_i key elem b hu
  split at h
  ·rename_i es ck hb
   cases hp : prun P (lookupRest key elem es.toArray k ok) with
   | none => rw [hp] at h; cases h
   | some u =>
    rw [hp] at h
    simp only [Option.bind_some] at h
    split at h
    ·rename_i hc
     simp only [Option.some.injEq] at h
     subst h
     cases hx with
     | atom ha => simp [isAtom] at ha
     | map hm =>
      obtain ⟨es', hbl, -, hes⟩ := hw.blk _ _ _ hm hb
      obtain ⟨v', g1, g2⟩ := lookup_rel (w := w) hes (prun_run hp w)
      refine ⟨v', ?_, ?_⟩
      ·unfold Instr.lookup
       rw [run_bind_ok (run_underlying hu w)]
       simp only
       rw [run_bind_ok (a := .map es' ck) (w1 := w) (by simp only [getObj, Sem.run, hbl])]
       simp only
       exact g1
      ·rcases g2 with g2 | ⟨rfl, w1, w3, g3⟩
       ·exact g2
       ·rw [Bool.or_eq_true] at hc
        rcases hc with hc | hc
        ·exact closed_rel ρ 4 _ hc
        ·exfalso
         unfold found at hc
         split at hc
         ·rename_i y hy
          have := prun_run hy w1
          rw [g3] at this
          simp at this
         ·cases hc
    ·cases h
  ·cases h
 ·rename_i key elem hu
  obtain ⟨h1, h2⟩ := fin _ h
  refine ⟨v, ?_, h2⟩
  obtain rfl := isAtom_rel hx rfl
  unfold Instr.lookup
  rw [run_bind_ok (run_underlying hu w)]
  simp only
  exact prun_run h1 w
 ·cases h

theorem run_setObj_map {r : Nat} {es es' : Array MapEntry} {c c' : Nat} {w : World} (h : w.heap[r]? = some (.map es c)) :
  (setObj r (.map es' c')).run P w = .ok () { w with heap := w.heap.setIfInBounds r (.map es' c') } := by
 simp only [setObj, Sem.run, h]

theorem EsRel.get {ρ : Ren} : ∀ {es es' : List MapEntry}, EsRel ρ es es' → ∀ (i : Nat) (d : Value), ((es'[i]?).map (·.key)).getD d = ((es[i]?).map (·.key)).getD d
 | [], [], _, _, _ => rfl
 | _ :: _, _ :: _, ⟨⟨_, h2, _⟩, h5⟩, i, d => by
  cases i with
  | zero => simp [h2]
  | succ i => simpa using EsRel.get h5 i d
 | [], _ :: _, h, _, _ => h.elim
 | _ :: _, [], h, _, _ => h.elim

theorem EsRel.modify {ρ : Ren} {key v v' : Value} (hv : VRel ρ v v') : ∀ {es es' : List MapEntry}, EsRel ρ es es' → ∀ (i : Nat), (es.modify i fun e => { e with key, val := v }).all keyOk = true →
  EsRel ρ (es.modify i fun e => { e with key, val := v }) (es'.modify i fun e => { e with key, val := v' })
 | [], [], _, i, _ => by cases i <;> exact trivial
 | e :: es, e' :: es', ⟨⟨h1, h2, h3, h4⟩, h5⟩, i, hk => by
  cases i with
  | zero =>
   simp only [List.modify_zero_cons, List.all_cons, Bool.and_eq_true] at hk ⊢
   exact ⟨⟨hk.1, rfl, h3, hv⟩, h5⟩
  | succ i =>
   simp only [List.modify_succ_cons, List.all_cons, Bool.and_eq_true] at hk ⊢
   exact ⟨⟨h1, h2, h3, h4⟩, EsRel.modify hv h5 i hk.2⟩
 | [], _ :: _, h, _, _ => h.elim
 | _ :: _, [], h, _, _ => h.elim

theorem EsRel.snoc {ρ : Ren} {e e' : MapEntry} (h1 : closed e.key = true) (h2 : e'.key = e.key) (h3 : e'.born = e.born) (h4 : VRel ρ e.val e'.val) : ∀ {es es' : List MapEntry}, EsRel ρ es es' → EsRel ρ (es ++ [e]) (es' ++ [e'])
 | [], [], _ => ⟨⟨h1, h2, h3, h4⟩, trivial⟩
 | _ :: _, _ :: _, ⟨h5, h6⟩ => ⟨h5, EsRel.snoc h1 h2 h3 h4 h6⟩
 | [], _ :: _, h => h.elim
 | _ :: _, [], h => h.elim

theorem update_rel {T : TypeId} {k v v' : Value} {es : List MapEntry} {es' : Array MapEntry} {ck : Nat} {r : Array MapEntry × Nat} {w w2 : World} (hr : EsRel ρ es es'.toList) (hv : VRel ρ v v') (h : (updateRest T es.toArray ck k v).run P w = .ok r w2) (hk : r.1.toList.all keyOk = true) :
  ∃ es2, (updateRest T es' ck k v').run P w = .ok (es2, r.2) w2 ∧ EsRel ρ r.1.toList es2.toList := by
 unfold updateRest at h ⊢
 change Sem.run P (Sem.bind _ _) w = _ at h
 rw [run_bind'] at h
 change ∃ es2, Sem.run P (Sem.bind _ _) w = _ ∧ _
 rw [run_bind']
 cases h1 : Sem.run P (Instr.checkKey false 10000 T k) w with
 | halt x w' => rw [h1] at h; cases h
 | ok u w' =>
  rw [h1] at h
  simp only at h ⊢
  change Sem.run P (Sem.bind _ _) w' = _ at h
  rw [run_bind'] at h
  change ∃ es2, Sem.run P (Sem.bind _ _) w' = _ ∧ _
  rw [run_bind']
  cases h2 : Sem.run P (Instr.findKey T k es.toArray.toList) w' with
  | halt x w'' => rw [h2] at h; cases h
  | ok q w'' =>
   rw [h2] at h
   obtain ⟨q', g1, g2⟩ := findKey_rel hr h2
   rw [g1]
   simp only at h ⊢
   cases q with
   | none =>
    cases q' with
    | some _ => exact g2.elim
    | none =>
     simp only [Pure.pure, Sem.run, Result.ok.injEq] at h
     obtain ⟨rfl, rfl⟩ := h
     refine ⟨es'.push { key := k, val := v', born := ck }, rfl, ?_⟩
     simp only [Array.toList_push] at hk ⊢
     rw [List.all_append] at hk
     simp only [List.all_cons, List.all_nil, Bool.and_true, Bool.and_eq_true] at hk
     exact EsRel.snoc (e' := { key := k, val := v', born := ck }) hk.2 rfl rfl hv hr
   | some iv =>
    obtain ⟨i, x⟩ := iv
    cases q' with
    | none => exact g2.elim
    | some jv =>
     obtain ⟨j, x'⟩ := jv
     obtain ⟨rfl, -⟩ := g2
     simp only at h ⊢
     have eg : ((es'[j]?).map (·.key)).getD k = ((es.toArray[j]?).map (·.key)).getD k := by
      have := hr.get j k
      rw [Array.getElem?_toList] at this
      simpa using this
     rw [eg]
     change Sem.run P (Sem.bind _ _) w'' = _ at h
     rw [run_bind'] at h
     change ∃ es2, Sem.run P (Sem.bind _ _) w'' = _ ∧ _
     rw [run_bind']
     cases h3 : Sem.run P (Instr.keyThatStays (((es.toArray[j]?).map (·.key)).getD k) k) w'' with
     | halt x w3 => rw [h3] at h; cases h
     | ok kk w3 =>
      rw [h3] at h
      simp only [Pure.pure, Sem.run, Result.ok.injEq] at h ⊢
      obtain ⟨rfl, rfl⟩ := h
      refine ⟨es'.modify j fun e => { e with key := kk, val := v' }, ⟨rfl, rfl⟩, ?_⟩
      simp only [Array.toList_modify] at hk ⊢
      exact EsRel.modify hv hr j hk

theorem op_update {st st1 : St} {t : TypeId} {x x' k v v' : Value} (hw : WRel P B ρ st.H w) (h : aUpdate P st t x k v = some st1) (hx : VRel ρ x x') (hv : VRel ρ v v') :
  st1.lo ≤ st.lo ∧ ∃ w1, (Instr.mapUpdate t x' k v').run P w = .ok () w1 ∧ Moved P B ρ st.H w ρ st1.H st1.lo w1 := by
 unfold aUpdate at h
 split at h
 ·rename_i key elem b hu
  split at h
  ·rename_i es ck hb
   cases hx with
   | atom ha => simp [isAtom] at ha
   | map hm =>
    rename_i tt
    cases hr : prun P (updateRest key es.toArray ck k v) with
    | none => rw [hr] at h; cases h
    | some r =>
     rw [hr] at h
     simp only [Option.bind_some] at h
     split at h
     ·rename_i hall
      simp only [Option.some.injEq] at h
      subst h
      obtain ⟨es0, hbl, hB, hes⟩ := hw.blk _ _ _ hm hb
      obtain ⟨es', hrest, hes'⟩ := update_rel (w := w) hes hv (prun_run hr w) hall
      obtain ⟨es1, ck'⟩ := r
      simp only at hrest hes' hall ⊢
      have hrb : tt.rb < w.heap.size := (Array.getElem?_eq_some_iff.1 hbl).1
      refine ⟨Nat.min_le_left _ _, { w with heap := w.heap.setIfInBounds tt.rb (.map es' ck') }, ?_, List.prefix_refl _, ?_, ?_, ?_, ?_, by simp, Frames.set hm hb rfl (fun j hj => by show (w.heap.setIfInBounds _ _)[j]? = _; rw [Array.getElem?_setIfInBounds_ne (by omega)]) _⟩
      ·unfold Instr.mapUpdate
       rw [run_bind_ok (run_underlying hu w)]
       simp only
       rw [run_bind_ok (a := .map es0 ck) (w1 := w) (by simp only [getObj, Sem.run, hbl])]
       simp only
       unfold updateRest at hrest
       change Sem.run P (Sem.bind _ _) w = _ at hrest
       rw [run_bind'] at hrest
       change Sem.run P (Sem.bind _ _) w = _
       rw [run_bind']
       cases h1 : Sem.run P (Instr.checkKey false 10000 key k) w with
       | halt x w' => rw [h1] at hrest; cases hrest
       | ok u w' =>
        rw [h1] at hrest
        simp only at hrest ⊢
        change Sem.run P (Sem.bind _ _) w' = _ at hrest
        rw [run_bind'] at hrest
        change Sem.run P (Sem.bind _ _) w' = _
        rw [run_bind']
        cases h2 : Sem.run P (Instr.findKey key k es0.toList) w' with
        | halt x w'' => rw [h2] at hrest; cases hrest
        | ok u2 w'' =>
         rw [h2] at hrest
         simp only at hrest ⊢
         cases u2 with
         | none =>
          simp only [Pure.pure, Sem.run, Result.ok.injEq, Prod.mk.injEq] at hrest
          obtain ⟨⟨rfl, rfl⟩, rfl⟩ := hrest
          simp only
          exact run_setObj_map hbl
         | some iv =>
          obtain ⟨i, vv⟩ := iv
          simp only at hrest ⊢
          change Sem.run P (Sem.bind _ _) w'' = _ at hrest
          rw [run_bind'] at hrest
          change Sem.run P (Sem.bind _ _) w'' = _
          rw [run_bind']
          cases h3 : Sem.run P (Instr.keyThatStays (((es0[i]?).map (·.key)).getD k) k) w'' with
          | halt x w3 => rw [h3] at hrest; cases hrest
          | ok kk w3 =>
           rw [h3] at hrest
           simp only at hrest ⊢
           simp only [Pure.pure, Sem.run, Result.ok.injEq, Prod.mk.injEq] at hrest
           obtain ⟨⟨rfl, rfl⟩, rfl⟩ := hrest
           exact run_setObj_map hbl
      ·refine hw.setBlock hm hb rfl (by simp) (fun j hj => ?_) ?_
       ·show (w.heap.setIfInBounds _ _)[j]? = _
        rw [Array.getElem?_setIfInBounds_ne (by omega)]
       ·refine ⟨es', ?_, hB, hes'⟩
        show (w.heap.setIfInBounds _ _)[tt.rb]? = _
        rw [Array.getElem?_setIfInBounds_self_of_lt hrb]
      ·refine ⟨rfl, rfl, rfl, by simp, fun j hj => ?_⟩
       show (w.heap.setIfInBounds _ _)[j]? = _
       rw [Array.getElem?_setIfInBounds_ne (by omega)]
      ·intro j hj _
       simp only [Nat.lt_min] at hj
       rw [List.getElem?_set_ne (by omega)]
      ·intro j t' o' hj ht' ho' hl'
       simp only [Nat.lt_min] at hj
       show (w.heap.setIfInBounds _ _)[t'.rb]? = _
       rw [Array.getElem?_setIfInBounds_ne]
       exact fun e => hw.inj b j _ t' _ o' (by omega) hm ht' hb ho' rfl hl' e
     ·cases h
  ·cases h
 ·cases h

/-! ### Something against nil -/

theorem run_eqGuard {op : BinOp} {t : TypeId} {x y : Operand} {a b : Value} (h1 : a ≠ .nilIface) (h2 : ∀ c, a ≠ .agg c) (w : World) : (eqGuard op t x y a b).run P w = .ok () w := by
 unfold eqGuard
 cases op <;> (try rfl) <;> (cases a <;> first | exact absurd rfl h1 | exact absurd rfl (h2 _) | (cases b <;> rfl))

theorem nilCmp_run {t : TypeId} {x y x' y' : Value} {r : Bool} (h : nilCmp P t x y = some r) (hx : VRel ρ x x') (hy : VRel ρ y y') (w : World) :
  (Op.equal t x' y').run P w = .ok r w ∧ x' ≠ .nilIface ∧ (∀ c, x' ≠ .agg c) ∧ (∀ k n, x' ≠ .int k n) ∧ (∀ k n, x' ≠ .float k n) ∧ (∀ k a b, x' ≠ .complex k a b) ∧ (∀ s, x' ≠ .string s) := by
 unfold nilCmp at h
 split at h <;> simp only [Option.some.injEq, reduceCtorEq] at h
 all_goals
  rename_i hu
  subst h
  unfold Op.equal Op.maxDepth
  refine ⟨?_, ?_⟩
  ·show Sem.run P (Op.equalIn (9999 + 1) t x' y') w = _
   unfold Op.equalIn
   rw [run_bind_ok (run_underlying hu w)]
   cases hx <;> (try (rename_i hxa; simp only [isAtom] at hxa)) <;> cases hy <;> (try (rename_i hya; simp only [isAtom] at hya)) <;> first | rfl | (simp_all [isAtom]; done)
  ·cases hx <;> simp

end Go.Abs

/- The abstract machine: append, copy and clear against the model's. -/
namespace Go.Abs
open Go Go.RowKit

variable {P : Program} {B : Nat} {ρ : Ren} {H : List AObj} {w : World}

theorem real_store {rb o : Nat} {e : TypeId} : ∀ (vs : List Value) (k : Nat) (w : World) (C : Array Value), w.heap[rb]? = some (.cells C e (0, 0)) → o + k + vs.length ≤ C.size → (∀ v ∈ vs, v.oneCell = true) →
  ∃ w' C', (storeCells ⟨rb, o, none⟩ vs k).run P w = .ok () w' ∧ w'.heap[rb]? = some (.cells C' e (0, 0)) ∧ C'.size = C.size ∧ (∀ j, j < o + k → C'[j]? = C[j]?) ∧ (∀ i v, vs[i]? = some v → C'[o + k + i]? = some v) ∧
   (∀ j, j ≠ rb → w'.heap[j]? = w.heap[j]?) ∧ w'.heap.size = w.heap.size ∧ (∀ B, B ≤ rb → Below B w w') := by
 intro vs
 induction vs with
 | nil =>
  intro k w C hC _ _
  exact ⟨w, C, rfl, hC, rfl, fun _ _ => rfl, fun i v h => by simp at h, fun _ _ => rfl, rfl, fun B _ => Below.refl B w⟩
 | cons v vs ih =>
  intro k w C hC hlen hone
  simp only [List.length_cons] at hlen
  have hlt : o + k < C.size := by omega
  have hcell : w.cell? ⟨rb, o + k, none⟩ = some C[o + k] := World.cell_of hC (by simp [hlt])
  have hfro : w.frozen? ⟨rb, o + k, none⟩ = false := by unfold World.frozen?; simp only [hC]; simp
  have hself : (w.setCell ⟨rb, o + k, none⟩ v).heap[rb]? = some (.cells (C.setIfInBounds (o + k) v) e (0, 0)) := by
   simp [World.setCell, Array.getElem?_modify, hC]
  obtain ⟨w', C', h1, h2, h3, h4, h5, h6, h7, h8⟩ := ih (k + 1) (w.setCell ⟨rb, o + k, none⟩ v) (C.setIfInBounds (o + k) v) hself (by simp; omega) (fun u hu => hone u (by simp [hu]))
  refine ⟨w', C', ?_, h2, by simpa using h3, fun j hj => ?_, fun i u hu => ?_, fun j hj => ?_, ?_, fun B hB => ?_⟩
  ·unfold storeCells
   rw [addr_add]
   rw [run_bind_ok (run_store_one _ (hone v (by simp)) hcell hfro)]
   exact h1
  ·rw [h4 j (by omega), Array.getElem?_setIfInBounds_ne (by omega)]
  ·cases i with
   | zero =>
    simp at hu
    subst hu
    rw [Nat.add_zero, h4 (o + k) (by omega), Array.getElem?_setIfInBounds_self_of_lt hlt]
   | succ i =>
    have := h5 i u (by simpa using hu)
    rw [show o + k + (i + 1) = o + (k + 1) + i by omega]
    exact this
  ·rw [h6 j hj, Below.heap_setCell _ _ _ _ hj]
  ·rw [h7]; simp [World.setCell]
  ·exact ((Below.refl B w).setCell (p := ⟨rb, o + k, none⟩) hB _).trans (h8 B hB)

theorem aload_run (hw : WRel P B ρ H w) {b o n : Nat} {t : Ent} {cs : Array Value} (ht : ρ[b]? = some t) (h : aload P H b o n = some cs) :
  ∃ cs', (loadCells ⟨t.rb, t.ro + o, none⟩ n).run P w = .ok cs' w ∧ ARel ρ cs cs' ∧ cs.size = n := by
 unfold aload at h
 cases hr : arun P (loadCells ⟨b, o, none⟩ n) H H.length with
 | none => rw [hr] at h; cases h
 | some r =>
  obtain ⟨cs1, H1, lo1⟩ := r
  rw [hr] at h
  simp only [Option.map_some, Option.some.injEq] at h
  subst h
  have key : ∀ (n i : Nat) (acc acc' : Array Value) (lo : Nat) (H1 : List AObj) (lo1 : Nat) (r : Array Value), arun P (loadCellsFrom ⟨b, o, none⟩ i n acc) H lo = some (r, H1, lo1) → ARel ρ acc acc' →
    ∃ r', (loadCellsFrom ⟨t.rb, t.ro + o, none⟩ i n acc').run P w = .ok r' w ∧ ARel ρ r r' ∧ r.size = acc.size + n := by
   intro n
   induction n with
   | zero =>
    intro i acc acc' lo H1 lo1 r h ha
    simp only [loadCellsFrom, Pure.pure, arun, Option.some.injEq, Prod.mk.injEq] at h
    obtain ⟨rfl, -, -⟩ := h
    exact ⟨acc', rfl, ha, rfl⟩
   | succ n ih =>
    intro i acc acc' lo H1 lo1 r h ha
    unfold loadCellsFrom at h ⊢
    rw [addr_add] at h ⊢
    change arun P (Sem.bind _ _) H lo = _ at h
    rw [arun_bind] at h
    simp only [load, arun] at h
    split at h
    ·rename_i c e rw hH
     split at h
     ·rename_i u hu
      simp only [Option.bind_some] at h
      obtain ⟨C, fz, h1, _, _, _, h5⟩ := hw.blk _ _ _ ht hH
      obtain ⟨u', g1, g2⟩ := h5 _ _ hu
      obtain ⟨r', q1, q2, q3⟩ := ih (i + 1) (acc.push u) (acc'.push u') lo H1 lo1 r h (ha.push g2)
      refine ⟨r', ?_, q2, by rw [q3, Array.size_push]; omega⟩
      have hl : (load ⟨t.rb, t.ro + o + i, none⟩).run P w = .ok u' w := by
       simp only [load, Sem.run, Nat.add_assoc, World.cell_of h1 g1]
      rw [run_bind_ok hl]
      exact q1
     ·cases h
    ·cases h
  obtain ⟨cs', h1, h2, h3⟩ := key n 0 #[] #[] H.length H1 lo1 cs1 hr (ARel.empty ρ)
  exact ⟨cs', h1, h2, by simpa using h3⟩

theorem aload_get {b o n : Nat} {cs : Array Value} {cc : List Value} {e : TypeId} {rw : Bool} (hH : H[b]? = some (.cells cc e rw)) (h : aload P H b o n = some cs) : ∀ j, j < n → cs[j]? = cc[o + j]? := by
 unfold aload at h
 cases hr : arun P (loadCells ⟨b, o, none⟩ n) H H.length with
 | none => rw [hr] at h; cases h
 | some r =>
  obtain ⟨cs1, H1, lo1⟩ := r
  rw [hr] at h
  simp only [Option.map_some, Option.some.injEq] at h
  subst h
  have key : ∀ (n i : Nat) (acc : Array Value) (lo : Nat) (H1 : List AObj) (lo1 : Nat) (r : Array Value), arun P (loadCellsFrom ⟨b, o, none⟩ i n acc) H lo = some (r, H1, lo1) →
    (∀ j, j < acc.size → r[j]? = acc[j]?) ∧ ∀ j, j < n → r[acc.size + j]? = cc[o + i + j]? := by
   intro n
   induction n with
   | zero =>
    intro i acc lo H1 lo1 r h
    simp only [loadCellsFrom, Pure.pure, arun, Option.some.injEq, Prod.mk.injEq] at h
    obtain ⟨rfl, -, -⟩ := h
    exact ⟨fun _ _ => rfl, fun j hj => absurd hj (Nat.not_lt_zero _)⟩
   | succ n ih =>
    intro i acc lo H1 lo1 r h
    unfold loadCellsFrom at h
    rw [addr_add] at h
    change arun P (Sem.bind _ _) H lo = _ at h
    rw [arun_bind] at h
    simp only [load, arun, hH] at h
    cases hu : cc[o + i]? with
    | none => rw [hu] at h; cases h
    | some u =>
     rw [hu] at h
     simp only [Option.bind_some] at h
     obtain ⟨q1, q2⟩ := ih (i + 1) (acc.push u) lo H1 lo1 r h
     refine ⟨fun j hj => ?_, fun j hj => ?_⟩
     ·rw [q1 j (by simp; omega), Array.getElem?_push, if_neg (by omega)]
     ·cases j with
      | zero =>
       rw [Nat.add_zero, q1 acc.size (by simp), Array.getElem?_push, if_pos rfl, Nat.add_zero, hu]
      | succ j =>
       have := q2 j (by omega)
       rw [Array.size_push] at this
       rw [show acc.size + (j + 1) = acc.size + 1 + j by omega, this]
       congr 1; omega
  intro j hj
  have := (key n 0 #[] H.length H1 lo1 cs1 hr).2 j hj
  simpa using this

theorem LRel.of_arr {xs ys : Array Value} (h : ARel ρ xs ys) : LRel ρ xs.toList ys.toList := ⟨by simpa using h.1, fun i => by simpa using h.2 i⟩

theorem astore_run {st st1 : St} (hw : WRel P B ρ st.H w) {b o : Nat} {t : Ent} {vs vs' : Array Value} (ht : ρ[b]? = some t) (hv : ARel ρ vs vs') (h : astore P st b o vs = some st1) :
  st1.lo ≤ st.lo ∧ ∃ ρ1 w1, (storeCells ⟨t.rb, t.ro + o, none⟩ vs'.toList).run P w = .ok () w1 ∧ Moved P B ρ st.H w ρ1 st1.H st1.lo w1 := by
 unfold astore at h
 cases hr : arun P (storeCells ⟨b, o, none⟩ vs.toList) st.H st.lo with
 | none => rw [hr] at h; cases h
 | some r =>
  obtain ⟨u, H1, lo1⟩ := r
  rw [hr] at h
  simp only [Option.map_some, Option.some.injEq] at h
  subst h
  obtain ⟨a, ρ1, u', w1, h1, h2, _⟩ := sim_storeCells vs.toList vs'.toList 0 ht (LRel.of_arr hv) w hw _ _ _ _ hr
  exact ⟨a, ρ1, w1, h1, h2⟩

theorem ARel.refl_cells {z : Value} (hz : closed z = true) : ARel ρ z.cells z.cells := cells_rel (closed_rel ρ 4 _ hz)

theorem zeroCells_rel {z : Array Value} (h : ARel ρ z z) (n : Nat) : ARel ρ (Builtin.zeroCells z n) (Builtin.zeroCells z n) := by
 unfold Builtin.zeroCells
 exact ARel.map fun _ _ => bang_rel h _

theorem zeroCells_size (z : Array Value) (n : Nat) : (Builtin.zeroCells z n).size = n * z.size := by simp [Builtin.zeroCells]

/-! ### copy, clear -/

theorem firstCells_run (hw : WRel P B ρ H w) {b o n size l c : Nat} {x' : Value} {cs : Array Value} (hx : VRel ρ (.slice (some ⟨b, o, none⟩) l c) x') (hl : n ≤ l) (hn : 0 < n) (h : aload P H b o (n * size) = some cs) :
  ∃ cs', (Builtin.firstCells size n x').run P w = .ok cs' w ∧ ARel ρ cs cs' ∧ cs.size = n * size := by
 cases hx with
 | atom ha => simp [isAtom] at ha
 | slice ht hc => exact aload_run hw ht h
 | grown ht hl' hc ho hn' =>
  obtain rfl := ho (by omega)
  exact aload_run hw ht h

theorem builtin_copy {st st1 : St} {ts : Array TypeId} {T : TypeId} {cs : Array Bool} {args args' : Array Value} {v : Value} (hw : WRel P B ρ st.H w) (ha : ARel ρ args args') (h : aCopy P st ts args = some (v, st1)) :
  Done P B ρ st w v st1 ((builtin .copy ts T cs args').run P w) := by
 unfold aCopy at h
 split at h
 ·rename_i dT db dl dc sb sl sc hdT hd hs
  obtain ⟨d', hd', hdr⟩ := ha.get hd
  obtain ⟨s', hs', hsr⟩ := ha.get hs
  split at h
  ·cases h
  ·rename_i e he
   have hu := elemOf_some he
   split at h
   ·cases h
   ·rename_i i hi
    have lenS : (Builtin.lenOf s').run P w = .ok sl w := by cases hsr <;> rfl
    have shapeD : ∃ db' dc', d' = .slice db' dl dc' := by cases hdr <;> exact ⟨_, _, rfl⟩
    obtain ⟨db', dc', rfl⟩ := shapeD
    have start : ∀ (r : Result Value), (Sem.run P (do
      let cells ← Builtin.firstCells i.size (Nat.min sl dl) s'
      if let some a := db' then storeCells a cells.toList
      pure (goInt (Nat.min sl dl)) : Sem Value) w = r) → (Builtin.copy_ ts T args').run P w = r := by
     intro r hr
     unfold Builtin.copy_
     simp only [hdT, hd', hs']
     rw [run_bind_ok (run_underlying hu w)]
     simp only
     rw [run_bind_ok lenS]
     rw [run_bind_ok (run_sizeOf hi w)]
     exact hr
    have wrap : ∀ (v' : Value) (w1 : World), (Builtin.copy_ ts T args').run P w = .ok v' w1 → (builtin .copy ts T cs args').run P w = .ok (.value v') w1 := by
     intro v' w1 hr
     unfold builtin
     simp only
     rw [run_bind_ok hr]
     rfl
    have zero : Nat.min sl dl = 0 → v = goInt (0 : Nat) → st1 = st → Done P B ρ st w v st1 ((builtin .copy ts T cs args').run P w) := by
     intro h0 hv hst
     subst hst; subst hv
     refine Done.same hw (wrap (goInt (0 : Nat)) w (start _ ?_)) (.atom rfl)
     rw [h0]
     have hf : (Builtin.firstCells i.size 0 s').run P w = .ok #[] w := by
      cases hsr with
      | atom hat =>
       cases sb with
       | none => rfl
       | some _ => simp [isAtom] at hat
      | slice => simp [Builtin.firstCells, loadCells, loadCellsFrom, Pure.pure]
      | grown => simp [Builtin.firstCells, loadCells, loadCellsFrom, Pure.pure]
     rw [run_bind_ok hf]
     cases db' <;> rfl
    dsimp only at h
    split at h
    ·rename_i d dof s o
     split at h
     ·rename_i h0
      simp only [Option.some.injEq, Prod.mk.injEq] at h
      exact zero h0 h.1.symm h.2.symm
     ·rename_i h0
      cases hal : aload P st.H s o (Nat.min sl dl * i.size) with
      | none => rw [hal] at h; cases h
      | some cells =>
       rw [hal] at h
       simp only [Option.bind_some] at h
       cases has : astore P st d dof cells with
       | none => rw [has] at h; cases h
       | some st2 =>
        rw [has] at h
        simp only [Option.map_some, Option.some.injEq, Prod.mk.injEq] at h
        obtain ⟨rfl, rfl⟩ := h
        obtain ⟨cs', hc1, hc2, _⟩ := firstCells_run hw hsr (Nat.min_le_left _ _) (Nat.pos_of_ne_zero h0) hal
        have hdl : 0 < dl := Nat.lt_of_lt_of_le (Nat.pos_of_ne_zero h0) (Nat.min_le_right _ _)
        have addrD : ∃ t, ρ[d]? = some t ∧ db' = some ⟨t.rb, t.ro + dof, none⟩ := by
         cases hdr with
         | atom hat => simp [isAtom] at hat
         | slice ht hc => exact ⟨_, ht, rfl⟩
         | grown ht hl' hc ho hn' => exact ⟨_, ht, by rw [ho (by omega)]⟩
        obtain ⟨t, ht, rfl⟩ := addrD
        obtain ⟨hlo, ρ1, w1, hr1, hm⟩ := astore_run hw ht hc2 has
        refine ⟨hlo, ρ1, _, w1, .inl (wrap (goInt (Nat.min sl dl)) w1 (start _ ?_)), hm, .atom rfl⟩
        rw [run_bind_ok hc1]
        simp only
        rw [run_bind_ok hr1]
        rfl
    ·split at h
     ·rename_i h0
      simp only [Option.some.injEq, Prod.mk.injEq] at h
      exact zero h0 h.1.symm h.2.symm
     ·cases h
 ·cases h

theorem builtin_clear {st st1 : St} {ts : Array TypeId} {T : TypeId} {cs : Array Bool} {args args' : Array Value} {v : Value} (hw : WRel P B ρ st.H w) (ha : ARel ρ args args') (h : aClear P st ts args = some (v, st1)) :
  Done P B ρ st w v st1 ((builtin .clear ts T cs args').run P w) := by
 have wrap : ∀ (w1 : World), (Builtin.clear_ ts T args').run P w = .ok (.tuple #[]) w1 → (builtin .clear ts T cs args').run P w = .ok (.value (.tuple #[])) w1 := by
  intro w1 hr
  unfold builtin
  simp only
  rw [run_bind_ok hr]
  rfl
 unfold aClear at h
 split at h
 ·rename_i t b n c ht hx
  obtain ⟨x', hx', hr⟩ := ha.get hx
  split at h
  ·cases h
  ·rename_i e he
   have hu := elemOf_some he
   split at h
   ·rename_i h0
    subst h0
    simp only [Option.some.injEq, Prod.mk.injEq] at h
    obtain ⟨rfl, rfl⟩ := h
    refine Done.same hw (wrap w ?_) .nil
    unfold Builtin.clear_
    simp only [ht, hx']
    rw [run_bind_ok (run_underlying hu w)]
    cases hr with
    | atom hat => cases b <;> first | rfl | (simp [isAtom] at hat)
    | slice => rfl
    | grown => rfl
   ·rename_i h0
    split at h
    ·rename_i i d o hi
     split at h
     ·rename_i z hz
      split at h
      ·rename_i hcz
       cases has : astore P st d o (Builtin.zeroCells z.cells n) with
       | none => rw [has] at h; cases h
       | some st2 =>
        rw [has] at h
        simp only [Option.map_some, Option.some.injEq, Prod.mk.injEq] at h
        obtain ⟨rfl, rfl⟩ := h
        have addrD : ∃ t c', ρ[d]? = some t ∧ x' = .slice (some ⟨t.rb, t.ro + o, none⟩) n c' := by
         cases hr with
         | atom hat => simp [isAtom] at hat
         | slice ht hc => exact ⟨_, _, ht, rfl⟩
         | grown ht hl' hc ho hn' => exact ⟨_, _, ht, by rw [ho (by omega)]⟩
        obtain ⟨tt, c', htt, rfl⟩ := addrD
        obtain ⟨hlo, ρ1, w1, hr1, hm⟩ := astore_run hw htt (zeroCells_rel (ARel.refl_cells hcz) n) has
        refine ⟨hlo, ρ1, _, w1, .inl (wrap w1 ?_), hm, .nil⟩
        unfold Builtin.clear_
        simp only [ht, hx']
        rw [run_bind_ok (run_underlying hu w)]
        cases n with
        | zero => exact absurd rfl h0
        | succ n =>
         simp only
         rw [run_bind_ok (run_zeroValue hi hz w)]
         rw [run_bind_ok hr1]
         rfl
      ·cases h
     ·cases h
    ·cases h
 ·cases h

end Go.Abs
