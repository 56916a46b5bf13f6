/- The abstract machine, part GrAbsC. -/
import Derived.Test.YtcgmmfcphfkdhaaGreatGrAbsB
/- The abstract machine: regions that draw their order: the run, the look, and what they give. -/
namespace Go.Abs
open Go Go.RowKit

variable {P : Program} {B : Nat} {ρ : Ren} {w : World}

structure Rec where
 v : Value
 kind : Nat
 tm : List Value

def pass1 (P : Program) (ec : EC) (ef : EF) (ops : Array Oper) : List Oper → List Value → List AObj → Option (List Rec × List (Nat × List AObj) × List Value)
 | [], tm, _ => some ([], [], tm)
 | o :: rest, tm, H =>
  if Region.wanted o (yieldedA ops tm) then
   if isQuiet o then
    match stepOp P tm o ⟨H, H.length⟩ with
    | some (.val v st1) => if st1.H.length == H.length && st1.lo == H.length then (pass1 P ec ef ops rest (put tm o.dst v) H).map fun r => (⟨v, 1, tm⟩ :: r.1, r.2.1, r.2.2) else none
    | _ => none
   else
    match evOp P ec ef tm o ⟨H, H.length⟩ with
    | some (v, st1) => (pass1 P ec ef ops rest (put tm o.dst v) st1.H).map fun r => (⟨v, 2, tm⟩ :: r.1, (st1.lo, st1.H) :: r.2.1, r.2.2)
    | none => none
  else (pass1 P ec ef ops rest (put tm o.dst undef) H).map fun r => (⟨undef, 0, tm⟩ :: r.1, r.2.1, r.2.2)

def kindOf (rs : List Rec) (i : Nat) : Nat := ((rs[i]?).map (·.kind)).getD 0
def dstOf (ops : Array Oper) (i : Nat) : Option Tmp := (ops[i]?).bind (·.dst)
def cnt (rs : List Rec) (n : Nat) (S : Nat → Bool) : Nat := ((List.range n).filter fun i => kindOf rs i == 2 && S i).length
def heapAt (H0 : List AObj) (es : List (Nat × List AObj)) (k : Nat) : List AObj :=
 match k with
 | 0 => H0
 | k + 1 => ((es[k]?).map (·.2)).getD H0
def loMin (es : List (Nat × List AObj)) (m a b : Nat) : Nat := ((es.drop a).take (b - a)).foldl (fun m e => min m e.1) m
def maskH (H : List AObj) (L : Nat) : List AObj := H.take L ++ List.replicate (H.length - L) .dead

def reads (ops : Array Oper) (o : Oper) : List Tmp :=
 (o.op.operands.toList.filterMap fun | .tmp t => some t | _ => none) ++ (match o.guard with | some (g, _) => (dstOf ops g).toList | none => [])

abbrev ancA (A : List Nat) (i j : Nat) : Bool := (A.getD i 0).testBit j

def tmpsOk (ops : Array Oper) (A : List Nat) : Bool :=
 (List.range ops.size).all fun i =>
  match ops[i]? with
  | none => true
  | some o =>
   (o.after.toList.all fun e => !Region.binds .any e || decide (e.on < i)) &&
   ((List.range ops.size).all fun j => i == j ||
    match dstOf ops j with
    | none => true
    | some t => !(o.dst == some t) && (!(reads ops o).contains t || ancA A i j || ancA A j i))

def chainOk (n : Nat) (rs : List Rec) (A : List Nat) : Bool :=
 (List.range n).all fun i => kindOf rs i != 2 || (List.range i).all fun j => kindOf rs j != 2 || ancA A i j

def quietLow (P : Program) (n : Nat) (rs : List Rec) (es : List (Nat × List AObj)) (H0 : List AObj) (A : List Nat) (i : Nat) (o : Oper) (r : Rec) : Bool :=
 let a := cnt rs n (fun j => ancA A i j)
 let b := cnt rs n (fun j => !ancA A j i)
 let H := heapAt H0 es a
 let Hm := maskH H (loMin es H.length a b)
 match stepOp P r.tm o ⟨Hm, Hm.length⟩ with
 | some (.val _ st1) => st1.H.length == Hm.length && st1.lo == Hm.length
 | _ => false

def steady (H0 : List AObj) (es : List (Nat × List AObj)) (a b : Nat) : List AObj :=
 (heapAt H0 es a).zipIdx.map fun x => if (List.range (b - a)).all (fun d => match (heapAt H0 es (a + d + 1))[x.2]? with | some o' => beqO x.1 o' | none => false) then x.1 else .dead

def quietStill (P : Program) (n : Nat) (rs : List Rec) (es : List (Nat × List AObj)) (H0 : List AObj) (A : List Nat) (i : Nat) (o : Oper) (r : Rec) : Bool :=
 let a := cnt rs n (fun j => ancA A i j)
 let b := cnt rs n (fun j => !ancA A j i)
 let Hm := steady H0 es a b
 match stepOp P r.tm o ⟨Hm, Hm.length⟩ with
 | some (.val _ st1) => st1.H.length == Hm.length && st1.lo == Hm.length
 | _ => false

def quietOk (P : Program) (n : Nat) (rs : List Rec) (es : List (Nat × List AObj)) (H0 : List AObj) (A : List Nat) (i : Nat) (o : Oper) (r : Rec) : Bool :=
 quietLow P n rs es H0 A i o r || quietStill P n rs es H0 A i o r

def checkD (P : Program) (ops : Array Oper) (rs : List Rec) (es : List (Nat × List AObj)) (H0 : List AObj) (A : List Nat) : Bool :=
 tmpsOk ops A && chainOk ops.size rs A && (List.range ops.size).all fun i =>
  match ops[i]?, rs[i]? with
  | some o, some r => r.kind != 1 || quietOk P ops.size rs es H0 A i o r
  | _, _ => true

def evDraw (P : Program) (ec : EC) (ef : EF) (ops : Array Oper) (tm : List Value) (st : St) : Option (List Value × St) :=
 match pass1 P ec ef ops ops.toList tm st.H with
 | none => none
 | some (rs, es, tm1) =>
  if checkD P ops rs es st.H (ancs ops.toList []) then some (tm1, ⟨heapAt st.H es es.length, loMin es st.lo 0 es.length⟩) else none

end Go.Abs

/- The abstract machine, whole: with its values reckoned at once. -/
namespace Go.Abs
open Go Go.RowKit

def fNat {β : Type} (m : Nat) (k : Nat → β) : β :=
 match m with
 | 0 => k 0
 | m + 1 => k (Nat.succ m)

theorem fNat_eq {β : Type} (m : Nat) (k : Nat → β) : fNat m k = k m := by cases m <;> rfl

def fInt {β : Type} (n : Int) (k : Int → β) : β :=
 match n with
 | .ofNat m => fNat m fun m => k (.ofNat m)
 | .negSucc m => fNat m fun m => k (.negSucc m)

theorem fInt_eq {β : Type} (n : Int) (k : Int → β) : fInt n k = k n := by cases n <;> simp [fInt, fNat_eq]

def fAddr {β : Type} (a : Option Addr) (k : Option Addr → β) : β :=
 match a with
 | none => k none
 | some ⟨b, o, none⟩ => fNat b fun b => fNat o fun o => k (some ⟨b, o, none⟩)
 | some a => k (some a)

theorem fAddr_eq {β : Type} (a : Option Addr) (k : Option Addr → β) : fAddr a k = k a := by
 unfold fAddr; split <;> simp [fNat_eq]

def fBool {β : Type} (b : Bool) (k : Bool → β) : β :=
 match b with
 | true => k true
 | false => k false

theorem fBool_eq {β : Type} (b : Bool) (k : Bool → β) : fBool b k = k b := by cases b <;> rfl

def fAtom {β : Type} (v : Value) (k : Value → β) : β :=
 match v with
 | .int q n => fInt n fun n => k (.int q n)
 | .bool b => fBool b fun b => k (.bool b)
 | .pointer a => fAddr a fun a => k (.pointer a)
 | .slice a l c => fAddr a fun a => fNat l fun l => fNat c fun c => k (.slice a l c)
 | v => k v

theorem fAtom_eq {β : Type} (v : Value) (k : Value → β) : fAtom v k = k v := by
 unfold fAtom; split <;> simp [fInt_eq, fBool_eq, fAddr_eq, fNat_eq]

def fAtoms {β : Type} : List Value → (List Value → β) → β
 | [], k => k []
 | v :: vs, k => fAtom v fun v => fAtoms vs fun vs => k (v :: vs)

theorem fAtoms_eq {β : Type} (vs : List Value) (k : List Value → β) : fAtoms vs k = k vs := by
 induction vs generalizing k with
 | nil => rfl
 | cons v vs ih => simp [fAtoms, fAtom_eq, ih]

def fVal {β : Type} (v : Value) (k : Value → β) : β :=
 match v with
 | .agg cs => fAtoms cs.toList fun l => k (.agg ⟨l⟩)
 | .tuple cs => fAtoms cs.toList fun l => k (.tuple ⟨l⟩)
 | v => fAtom v k

theorem fVal_eq {β : Type} (v : Value) (k : Value → β) : fVal v k = k v := by
 unfold fVal; split <;> simp [fAtoms_eq, fAtom_eq]

def fVals {β : Type} : List Value → (List Value → β) → β
 | [], k => k []
 | v :: vs, k => fVal v fun v => fVals vs fun vs => k (v :: vs)

theorem fVals_eq {β : Type} (vs : List Value) (k : List Value → β) : fVals vs k = k vs := by
 induction vs generalizing k with
 | nil => rfl
 | cons v vs ih => simp [fVals, fVal_eq, ih]

def fObj {β : Type} (o : AObj) (k : AObj → β) : β :=
 match o with
 | .cells c e b => fVals c fun c => k (.cells c e b)
 | o => k o

theorem fObj_eq {β : Type} (o : AObj) (k : AObj → β) : fObj o k = k o := by
 unfold fObj; split <;> simp [fVals_eq]

def fHeap {β : Type} : List AObj → (List AObj → β) → β
 | [], k => k []
 | o :: os, k => fObj o fun o => fHeap os fun os => k (o :: os)

def fTmI {β : Type} : List Value → Nat → (List Value → β) → β
 | [], _, k => k []
 | v :: vs, m, k => match Nat.beq m 0 with
  | true => k (v :: vs)
  | false => match Nat.beq (Nat.land m 1) 1 with
   | true => fVal v fun v => fTmI vs (Nat.shiftRight m 1) fun vs => k (v :: vs)
   | false => fTmI vs (Nat.shiftRight m 1) fun vs => k (v :: vs)

@[implemented_by fTmI] def fTm {β : Type} (l : List Value) (m : Nat) (k : List Value → β) : β :=
 List.rec (motive := fun _ => Nat → (List Value → β) → β) (fun _ k => k [])
  (fun v vs ih m k => Bool.rec (Bool.rec (fNat (Nat.shiftRight m 1) fun m => ih m fun vs => k (v :: vs)) (fVal v fun v => fNat (Nat.shiftRight m 1) fun m => ih m fun vs => k (v :: vs)) (Nat.beq (Nat.land m 1) 1)) (k (v :: vs)) (Nat.beq m 0)) l m k

def fSpI {β : Type} : List AObj → (List AObj → β) → β
 | [], k => k []
 | o :: os, k => fSpI os fun os => k (o :: os)

@[implemented_by fSpI] def fSp {β : Type} (H : List AObj) (k : List AObj → β) : β :=
 List.rec (motive := fun _ => (List AObj → β) → β) (fun k => k []) (fun o _ ih k => ih fun os => k (o :: os)) H k

theorem fSp_eq {β : Type} (H : List AObj) (k : List AObj → β) : fSp H k = k H := by
 induction H generalizing k with
 | nil => rfl
 | cons o os ih =>
  show (fSp os fun os => k (o :: os)) = k (o :: os)
  rw [ih]

def fAtI {β : Type} : List AObj → Nat → (List AObj → β) → β
 | [], _, k => k []
 | o :: os, 0, k => fObj o fun o => k (o :: os)
 | o :: os, b + 1, k => fAtI os b fun os => k (o :: os)

@[implemented_by fAtI] def fAt {β : Type} (H : List AObj) (b : Nat) (k : List AObj → β) : β :=
 List.rec (motive := fun _ => Nat → (List AObj → β) → β) (fun _ k => k [])
  (fun o os ih b k => Nat.rec (fObj o fun o => k (o :: os)) (fun b _ => ih b fun os => k (o :: os)) b) H b k

theorem fAt_eq {β : Type} (H : List AObj) (b : Nat) (k : List AObj → β) : fAt H b k = k H := by
 induction H generalizing b k with
 | nil => rfl
 | cons o os ih =>
  cases b with
  | zero =>
   show (fObj o fun o => k (o :: os)) = k (o :: os)
   rw [fObj_eq]
  | succ b =>
   show (fAt os b fun os => k (o :: os)) = k (o :: os)
   rw [ih]

def fAts {β : Type} : List Nat → List AObj → (List AObj → β) → β
 | [], H, k => match H with
  | [] => k []
  | o :: os => k (o :: os)
 | b :: bs, H, k => fAt H b fun H => fAts bs H k

theorem fAts_eq {β : Type} (bs : List Nat) (H : List AObj) (k : List AObj → β) : fAts bs H k = k H := by
 induction bs generalizing H k with
 | nil => cases H <;> rfl
 | cons b bs ih => simp only [fAts, fAt_eq, ih]

def blkOf : Value → List Nat
 | .pointer (some a) => [a.block]
 | .slice (some a) _ _ => [a.block]
 | .map (some b) => [b]
 | .func (.yield l) _ _ => [l]
 | _ => []

def strictF (r : Option (Value × St)) : Option (Value × St) :=
 match r with
 | some (v, st) => fVal v fun v => fSp st.H fun H => fNat st.lo fun lo => some (v, ⟨H, lo⟩)
 | none => none

theorem strictF_eq (r : Option (Value × St)) : strictF r = r := by
 unfold strictF; split
 ·simp [fVal_eq, fSp_eq, fNat_eq]
 ·rfl

end Go.Abs

/- The abstract machine: a region that draws its order comes to what the order of the text comes to. -/
namespace Go.Abs
open Go Go.RowKit

variable {P : Program} {B : Nat} {ρ : Ren} {w : World}

/-! ### An operation happens -/

theorem wpIn_extract {o : Oper} {a : Act} {rd' : Option Nat} {n : Nat} {X : World → Prop} (h : o.wpIn (fen rd') n P a w (fun _ w1 => X w1) (fun _ _ _ => False)) : ∃ w1, X w1 := by
 obtain ⟨_, h⟩ := h
 generalize (o.semAt (fen rd').round a.eval).run P w = r at h
 cases r with
 | halt x w' => cases x <;> first | exact h.elim | exact ⟨w', h.elim⟩
 | ok x w' =>
  cases x <;> first
   | exact ⟨_, h⟩
   | exact h.elim
   | skip
  case enter f args =>
   obtain ⟨_, _, h⟩ := h
   obtain ⟨e, w1, fr, hr, _⟩ := h [] (fun d hd => by simp [fen, Fence.wide] at hd)
   cases e with
   | returned v => exact ⟨_, hr⟩
   | panicked chain => exact hr.elim
   | outgrown => obtain ⟨_, _, hq⟩ := hr; exact hq.elim
  case round l f tmps assign body =>
   obtain ⟨_, _, h⟩ := h
   obtain ⟨e, w1, hr, _⟩ := h default [] (fun d hd => by simp [fen, Fence.wide] at hd)
   cases e with
   | returned v => exact ⟨_, hr⟩
   | panicked chain => exact hr.elim
   | outgrown => obtain ⟨_, _, hq⟩ := hr; exact hq.elim
  case row row args =>
   obtain ⟨_, h⟩ := h
   obtain ⟨v, w1, hr, _⟩ := h default [] (fun d hd => by simp [fen, Fence.wide] at hd)
   exact ⟨_, hr⟩

theorem evOp_real (hP : POk P) {ec : EC} {ef : EF} (hC : SoundC P ec) (hF : SoundF P ef) {tm : List Value} {o : Oper} {st st1 : St} {v : Value} (h : evOp P ec ef tm o st = some (v, st1)) {tms : Array Value} (hw : WRel P B ρ st.H w) (ht : ARel ρ tm.toArray tms) :
  ∃ ρ1 v' w1, Moved P B ρ st.H w ρ1 st1.H st1.lo w1 ∧ VRel ρ1 v v' := by
 obtain ⟨_, hs⟩ := op_sound hP hC hF h
 obtain ⟨w1, ρ1, v', h1, h2⟩ := wpIn_extract (hs B ρ w none ⟨tms, []⟩ 0 (fun _ w1 => ∃ ρ1 v', Moved P B ρ st.H w ρ1 st1.H st1.lo w1 ∧ VRel ρ1 v v') (fun _ _ _ => False) hw ht (fun v' ρ1 w1 h1 h2 => ⟨ρ1, v', h1, h2⟩))
 exact ⟨ρ1, v', w1, h1, h2⟩

/-! ### Counting -/

theorem filter_mono {α : Type} {p q : α → Bool} : ∀ (l : List α), (∀ x ∈ l, p x = true → q x = true) → (l.filter p).length ≤ (l.filter q).length
 | [], _ => Nat.le_refl _
 | x :: l, h => by
  have ih := filter_mono l fun y hy => h y (by simp [hy])
  have hx := h x (by simp)
  simp only [List.filter_cons]
  cases hp : p x <;> cases hq : q x <;> simp_all <;> omega

theorem filter_congr' {α : Type} {p q : α → Bool} {l : List α} (h : ∀ x ∈ l, p x = q x) : l.filter p = l.filter q := List.filter_congr h

theorem cnt_mono {rs : List Rec} {n : Nat} {S T : Nat → Bool} (h : ∀ i, i < n → kindOf rs i = 2 → S i = true → T i = true) : cnt rs n S ≤ cnt rs n T := by
 unfold cnt
 refine filter_mono _ fun x hx hp => ?_
 simp only [Bool.and_eq_true, beq_iff_eq] at hp ⊢
 exact ⟨hp.1, h x (List.mem_range.1 hx) hp.1 hp.2⟩

theorem cnt_congr {rs : List Rec} {n : Nat} {S T : Nat → Bool} (h : ∀ i, i < n → kindOf rs i = 2 → S i = T i) : cnt rs n S = cnt rs n T :=
 Nat.le_antisymm (cnt_mono fun i hi hk hs => by rw [← h i hi hk]; exact hs) (cnt_mono fun i hi hk hs => by rw [h i hi hk]; exact hs)

theorem filter_insert {p q : Nat → Bool} {i : Nat} : ∀ (n : Nat), i < n → q i = true → p i = false → (∀ j, j ≠ i → q j = p j) → ((List.range n).filter q).length = ((List.range n).filter p).length + 1 := by
 intro n
 induction n with
 | zero => intro h; omega
 | succ n ih =>
  intro h hq hp hj
  rw [List.range_succ, List.filter_append, List.filter_append, List.length_append, List.length_append]
  by_cases hin : i = n
  ·subst hin
   have e1 : (List.range i).filter q = (List.range i).filter p := filter_congr' fun x hx => hj x (by have := List.mem_range.1 hx; omega)
   rw [e1]
   simp [hq, hp]
  ·rw [ih (by omega) hq hp hj]
   have e2 : [n].filter q = [n].filter p := filter_congr' fun x hx => by
    simp at hx; subst hx; exact hj _ (by omega)
   rw [e2]; omega

theorem cnt_insert {rs : List Rec} {n i : Nat} {S : Nat → Bool} (hi : i < n) (hk : kindOf rs i = 2) (hS : S i = false) : cnt rs n (fun j => S j || j == i) = cnt rs n S + 1 := by
 unfold cnt
 refine filter_insert (i := i) n hi (by simp [hk]) (by simp [hS]) fun j hj => ?_
 have : (j == i) = false := by simpa using hj
 simp [this]

theorem cnt_other {rs : List Rec} {n i : Nat} {S : Nat → Bool} (hk : kindOf rs i ≠ 2) : cnt rs n (fun j => S j || j == i) = cnt rs n S := by
 refine cnt_congr fun j _ hj => ?_
 have : (j == i) = false := by
  simp only [beq_eq_false_iff_ne, ne_eq]; rintro rfl; exact hk hj
 simp [this]

/-! ### Frames -/

structure FrameOk (ops : Array Oper) (rs : List Rec) (tm0 : List Value) (S : Nat → Bool) (tm : List Value) : Prop where
 len : tm.length = tm0.length
 wrote : ∀ t i r, t < tm0.length → i < ops.size → S i = true → dstOf ops i = some t → rs[i]? = some r → tm[t]? = some r.v
 kept : ∀ t, (∀ i, i < ops.size → S i = true → dstOf ops i ≠ some t) → tm[t]? = tm0[t]?

def Uniq (ops : Array Oper) : Prop := ∀ i j t, i < ops.size → j < ops.size → dstOf ops i = some t → dstOf ops j = some t → i = j

theorem FrameOk.put {ops : Array Oper} {rs : List Rec} {tm0 tm : List Value} {S T : Nat → Bool} {i : Nat} {o : Oper} {r : Rec} (hu : Uniq ops) (h : FrameOk ops rs tm0 S tm) (ho : ops[i]? = some o) (hr : rs[i]? = some r)
  (hT : ∀ j, j < ops.size → T j = (S j || j == i)) : FrameOk ops rs tm0 T (put tm o.dst r.v) := by
 have hi : i < ops.size := (Array.getElem?_eq_some_iff.1 ho).1
 have hd : dstOf ops i = o.dst := by unfold dstOf; rw [ho]; rfl
 cases hdst : o.dst with
 | none =>
  refine ⟨h.len, fun t j r' ht hj hS hdj hrj => ?_, fun t ht => ?_⟩
  ·rw [hT j hj] at hS
   simp only [Bool.or_eq_true, beq_iff_eq] at hS
   rcases hS with hS | rfl
   ·exact h.wrote t j r' ht hj hS hdj hrj
   ·rw [hd, hdst] at hdj; cases hdj
  ·exact h.kept t fun j hj hS => ht j hj (by rw [hT j hj, hS]; rfl)
 | some d =>
  refine ⟨by simp [Abs.put, h.len], fun t j r' ht hj hS hdj hrj => ?_, fun t ht => ?_⟩
  ·simp only [Abs.put]
   rw [hT j hj] at hS
   simp only [Bool.or_eq_true, beq_iff_eq] at hS
   by_cases htd : t = d
   ·subst htd
    have hij := hu j i t hj hi hdj (by rw [hd, hdst])
    subst hij
    rw [hr] at hrj; cases hrj
    rw [List.getElem?_set_self (by rw [h.len]; exact ht)]
   ·rw [List.getElem?_set_ne (by omega)]
    rcases hS with hS | rfl
    ·exact h.wrote t j r' ht hj hS hdj hrj
    ·rw [hd, hdst] at hdj; cases hdj; exact absurd rfl htd
  ·simp only [Abs.put]
   have htd : t ≠ d := by
    rintro rfl
    exact ht i hi (by rw [hT i hi]; simp) (by rw [hd, hdst])
   rw [List.getElem?_set_ne (Ne.symm htd)]
   exact h.kept t fun j hj hS => ht j hj (by rw [hT j hj, hS]; rfl)

theorem FrameOk.agree {ops : Array Oper} {rs : List Rec} {tm0 tm tm2 : List Value} {S T : Nat → Bool} (hlen : rs.length = ops.size) (hu : Uniq ops) (h : FrameOk ops rs tm0 S tm) (k : FrameOk ops rs tm0 T tm2) {t : Nat}
  (hst : ∀ i, i < ops.size → dstOf ops i = some t → S i = T i) : tm[t]? = tm2[t]? := by
 by_cases hex : ∃ i, i < ops.size ∧ dstOf ops i = some t
 ·obtain ⟨i, hi, hd⟩ := hex
  have hst' := hst i hi hd
  cases hS : S i with
  | true =>
   have hi' : i < rs.length := by rw [hlen]; exact hi
   obtain ⟨r, hr⟩ : ∃ r, rs[i]? = some r := ⟨rs[i], List.getElem?_eq_getElem hi'⟩
   by_cases ht : t < tm0.length
   ·rw [h.wrote t i r ht hi hS hd hr, k.wrote t i r ht hi (by rw [← hst']; exact hS) hd hr]
   ·rw [List.getElem?_eq_none (by rw [h.len]; omega), List.getElem?_eq_none (by rw [k.len]; omega)]
  | false =>
   rw [h.kept t fun j hj hSj hdj => by
    have := hu j i t hj hi hdj hd; subst this; rw [hS] at hSj; cases hSj]
   rw [k.kept t fun j hj hSj hdj => by
    have := hu j i t hj hi hdj hd; subst this; rw [← hst', hS] at hSj; cases hSj]
 ·rw [h.kept t fun j hj _ hd => hex ⟨j, hj, hd⟩, k.kept t fun j hj _ hd => hex ⟨j, hj, hd⟩]

/-! ### What the run in the order of the text tells -/

structure RunOk (P : Program) (ec : EC) (ef : EF) (ops : Array Oper) (rs : List Rec) (es : List (Nat × List AObj)) (tm0 : List Value) (H0 : List AObj) : Prop where
 len : rs.length = ops.size
 elen : es.length = cnt rs ops.size (fun _ => true)
 ok : ∀ i o r, ops[i]? = some o → rs[i]? = some r → FrameOk ops rs tm0 (fun j => decide (j < i)) r.tm ∧
  let H := heapAt H0 es (cnt rs ops.size (fun j => decide (j < i)))
  (r.kind = 0 ∧ Region.wanted o (yieldedA ops r.tm) = false ∧ r.v = undef) ∨
  (r.kind = 1 ∧ Region.wanted o (yieldedA ops r.tm) = true ∧ isQuiet o = true ∧ ∃ st1, stepOp P r.tm o ⟨H, H.length⟩ = some (.val r.v st1)) ∨
  (r.kind = 2 ∧ Region.wanted o (yieldedA ops r.tm) = true ∧ ∃ lo H1, es[cnt rs ops.size (fun j => decide (j < i))]? = some (lo, H1) ∧ evOp P ec ef r.tm o ⟨H, H.length⟩ = some (r.v, ⟨H1, lo⟩))

theorem drop_cons {α : Type} {l : List α} {k : Nat} {x : α} {r : List α} (h : l.drop k = x :: r) : l[k]? = some x ∧ l.drop (k + 1) = r := by
 refine ⟨?_, ?_⟩
 ·have : (l.drop k)[0]? = some x := by rw [h]; rfl
  simpa using this
 ·rw [← List.drop_drop, h]; rfl

theorem cnt_lt_succ {rs : List Rec} {n k : Nat} (hk : k < n) : cnt rs n (fun j => decide (j < k + 1)) = cnt rs n (fun j => decide (j < k)) + (if kindOf rs k = 2 then 1 else 0) := by
 have e : cnt rs n (fun j => decide (j < k + 1)) = cnt rs n (fun j => decide (j < k) || j == k) := by
  refine cnt_congr fun j _ _ => ?_
  apply Bool.eq_iff_iff.2
  simp only [decide_eq_true_eq, Bool.or_eq_true, beq_iff_eq]
  omega
 rw [e]
 by_cases h : kindOf rs k = 2
 ·rw [if_pos h, cnt_insert hk h (by simp)]
 ·rw [if_neg h, cnt_other h]; rfl

theorem pass1_ok {ec : EC} {ef : EF} {ops : Array Oper} {rs : List Rec} {es : List (Nat × List AObj)} {tm0 : List Value} {H0 : List AObj} (hu : Uniq ops) :
  ∀ (rest : List Oper) (k : Nat) (tm : List Value) (H : List AObj) (rs' : List Rec) (es' : List (Nat × List AObj)) (tm1 : List Value), ops.toList.drop k = rest → k ≤ ops.size → pass1 P ec ef ops rest tm H = some (rs', es', tm1) →
   rs.drop k = rs' → es.drop (cnt rs ops.size (fun j => decide (j < k))) = es' → cnt rs ops.size (fun j => decide (j < k)) ≤ es.length → FrameOk ops rs tm0 (fun j => decide (j < k)) tm → H = heapAt H0 es (cnt rs ops.size (fun j => decide (j < k))) →
   rs'.length = rest.length ∧ es.length = cnt rs ops.size (fun _ => true) ∧ FrameOk ops rs tm0 (fun _ => true) tm1 ∧
   ∀ i o r, k ≤ i → ops[i]? = some o → rs[i]? = some r → FrameOk ops rs tm0 (fun j => decide (j < i)) r.tm ∧
    let H := heapAt H0 es (cnt rs ops.size (fun j => decide (j < i)))
    (r.kind = 0 ∧ Region.wanted o (yieldedA ops r.tm) = false ∧ r.v = undef) ∨
    (r.kind = 1 ∧ Region.wanted o (yieldedA ops r.tm) = true ∧ isQuiet o = true ∧ ∃ st1, stepOp P r.tm o ⟨H, H.length⟩ = some (.val r.v st1)) ∨
    (r.kind = 2 ∧ Region.wanted o (yieldedA ops r.tm) = true ∧ ∃ lo H1, es[cnt rs ops.size (fun j => decide (j < i))]? = some (lo, H1) ∧ evOp P ec ef r.tm o ⟨H, H.length⟩ = some (r.v, ⟨H1, lo⟩)) := by
 intro rest
 induction rest with
 | nil =>
  intro k tm H rs' es' tm1 hd hk h hrs hes hle hf hH
  simp only [pass1, Option.some.injEq, Prod.mk.injEq] at h
  obtain ⟨rfl, rfl, rfl⟩ := h
  have hsz : ops.size ≤ k := by
   have := congrArg List.length hd
   simp at this; omega
  have hall : cnt rs ops.size (fun j => decide (j < k)) = cnt rs ops.size (fun _ => true) := cnt_congr fun j hj _ => by simp; omega
  refine ⟨rfl, ?_, ?_, fun i o r hi ho => ?_⟩
  ·have := congrArg List.length hes
   simp at this; omega
  ·refine ⟨hf.len, fun t i r ht hi _ hdi hri => hf.wrote t i r ht hi (by simp; omega) hdi hri, fun t ht => hf.kept t fun i hi _ => ht i hi rfl⟩
  ·have := (Array.getElem?_eq_some_iff.1 ho).1; omega
 | cons o rest ih =>
  intro k tm H rs' es' tm1 hd hk h hrs hes hle hf hH
  obtain ⟨hok, hd'⟩ := drop_cons hd
  have hok' : ops[k]? = some o := by simpa using hok
  have hkn : k < ops.size := (Array.getElem?_eq_some_iff.1 hok').1
  have hT : ∀ j, j < ops.size → (fun j => decide (j < k + 1)) j = ((fun j => decide (j < k)) j || j == k) := by
   intro j _
   apply Bool.eq_iff_iff.2
   simp only [decide_eq_true_eq, Bool.or_eq_true, beq_iff_eq]
   omega
  -- what is told at k, and from k + 1 on
  have fin : ∀ (r0 : Rec) (rs2 : List Rec) (X : Prop), rs' = r0 :: rs2 → r0.tm = tm → X → (rs2.length = rest.length ∧ es.length = cnt rs ops.size (fun _ => true) ∧ FrameOk ops rs tm0 (fun _ => true) tm1 ∧
    ∀ i o r, k + 1 ≤ i → ops[i]? = some o → rs[i]? = some r → FrameOk ops rs tm0 (fun j => decide (j < i)) r.tm ∧
    let H := heapAt H0 es (cnt rs ops.size (fun j => decide (j < i)))
    (r.kind = 0 ∧ Region.wanted o (yieldedA ops r.tm) = false ∧ r.v = undef) ∨
    (r.kind = 1 ∧ Region.wanted o (yieldedA ops r.tm) = true ∧ isQuiet o = true ∧ ∃ st1, stepOp P r.tm o ⟨H, H.length⟩ = some (.val r.v st1)) ∨
    (r.kind = 2 ∧ Region.wanted o (yieldedA ops r.tm) = true ∧ ∃ lo H1, es[cnt rs ops.size (fun j => decide (j < i))]? = some (lo, H1) ∧ evOp P ec ef r.tm o ⟨H, H.length⟩ = some (r.v, ⟨H1, lo⟩))) →
    (let H := heapAt H0 es (cnt rs ops.size (fun j => decide (j < k)))
    (r0.kind = 0 ∧ Region.wanted o (yieldedA ops r0.tm) = false ∧ r0.v = undef) ∨
    (r0.kind = 1 ∧ Region.wanted o (yieldedA ops r0.tm) = true ∧ isQuiet o = true ∧ ∃ st1, stepOp P r0.tm o ⟨H, H.length⟩ = some (.val r0.v st1)) ∨
    (r0.kind = 2 ∧ Region.wanted o (yieldedA ops r0.tm) = true ∧ ∃ lo H1, es[cnt rs ops.size (fun j => decide (j < k))]? = some (lo, H1) ∧ evOp P ec ef r0.tm o ⟨H, H.length⟩ = some (r0.v, ⟨H1, lo⟩))) →
    rs'.length = (o :: rest).length ∧ es.length = cnt rs ops.size (fun _ => true) ∧ FrameOk ops rs tm0 (fun _ => true) tm1 ∧
    ∀ i o r, k ≤ i → ops[i]? = some o → rs[i]? = some r → FrameOk ops rs tm0 (fun j => decide (j < i)) r.tm ∧
    let H := heapAt H0 es (cnt rs ops.size (fun j => decide (j < i)))
    (r.kind = 0 ∧ Region.wanted o (yieldedA ops r.tm) = false ∧ r.v = undef) ∨
    (r.kind = 1 ∧ Region.wanted o (yieldedA ops r.tm) = true ∧ isQuiet o = true ∧ ∃ st1, stepOp P r.tm o ⟨H, H.length⟩ = some (.val r.v st1)) ∨
    (r.kind = 2 ∧ Region.wanted o (yieldedA ops r.tm) = true ∧ ∃ lo H1, es[cnt rs ops.size (fun j => decide (j < i))]? = some (lo, H1) ∧ evOp P ec ef r.tm o ⟨H, H.length⟩ = some (r.v, ⟨H1, lo⟩)) := by
   intro r0 rs2 X hr0 htm0 _ hrest hk0
   obtain ⟨q1, q2, q3, q4⟩ := hrest
   refine ⟨by rw [hr0]; simp [q1], q2, q3, fun i o' r hi ho' hr => ?_⟩
   by_cases hik : i = k
   ·subst hik
    rw [hok'] at ho'; cases ho'
    obtain ⟨hr1, _⟩ := drop_cons (hrs.trans hr0)
    rw [hr1] at hr; cases hr
    exact ⟨by rw [htm0]; exact hf, hk0⟩
   ·exact q4 i o' r (by omega) ho' hr
  simp only [pass1] at h
  split at h
  ·rename_i hwant
   split at h
   ·rename_i hq
    split at h
    ·rename_i v st1 hstep
     by_cases hsame : (st1.H.length == H.length && st1.lo == H.length) = true
     case neg => rw [if_neg hsame] at h; cases h
     rw [if_pos hsame] at h
     simp only [Option.map_eq_some_iff, Prod.mk.injEq, Prod.exists] at h
     obtain ⟨rs2, es2, tm2, hp, rfl, rfl, rfl⟩ := h
     obtain ⟨hr1, hrs2⟩ := drop_cons hrs
     have hkind : kindOf rs k ≠ 2 := by unfold kindOf; rw [hr1]; simp
     have hc : cnt rs ops.size (fun j => decide (j < k + 1)) = cnt rs ops.size (fun j => decide (j < k)) := by rw [cnt_lt_succ hkn, if_neg hkind]; rfl
     have hrest := ih (k + 1) (put tm o.dst v) H rs2 es2 tm2 hd' hkn hp hrs2 (by rw [hc]; exact hes) (by rw [hc]; exact hle) (hf.put hu hok' hr1 hT) (by rw [hc]; exact hH)
     exact fin _ _ True rfl rfl trivial hrest (.inr (.inl ⟨rfl, hwant, hq, st1, by rw [← hH]; exact hstep⟩))
    ·cases h
   ·rename_i hq
    split at h
    ·rename_i v st1 hop
     simp only [Option.map_eq_some_iff, Prod.mk.injEq, Prod.exists] at h
     obtain ⟨rs2, es2, tm2, hp, rfl, rfl, rfl⟩ := h
     obtain ⟨hr1, hrs2⟩ := drop_cons hrs
     obtain ⟨he1, hes2⟩ := drop_cons hes
     have hkind : kindOf rs k = 2 := by unfold kindOf; rw [hr1]; simp
     have hc : cnt rs ops.size (fun j => decide (j < k + 1)) = cnt rs ops.size (fun j => decide (j < k)) + 1 := by rw [cnt_lt_succ hkn, if_pos hkind]
     have hlt := (List.getElem?_eq_some_iff.1 he1).1
     have hrest := ih (k + 1) (put tm o.dst v) st1.H rs2 es2 tm2 hd' hkn hp hrs2 (by rw [hc]; exact hes2) (by rw [hc]; exact hlt) (hf.put hu hok' hr1 hT) (by rw [hc]; simp only [heapAt, he1]; rfl)
     exact fin _ _ True rfl rfl trivial hrest (.inr (.inr ⟨rfl, hwant, st1.lo, st1.H, he1, by rw [← hH]; exact hop⟩))
    ·cases h
  ·rename_i hwant
   have hwant : Region.wanted o (yieldedA ops tm) = false := by simpa using hwant
   simp only [Option.map_eq_some_iff, Prod.mk.injEq, Prod.exists] at h
   obtain ⟨rs2, es2, tm2, hp, rfl, rfl, rfl⟩ := h
   obtain ⟨hr1, hrs2⟩ := drop_cons hrs
   have hkind : kindOf rs k ≠ 2 := by unfold kindOf; rw [hr1]; simp
   have hc : cnt rs ops.size (fun j => decide (j < k + 1)) = cnt rs ops.size (fun j => decide (j < k)) := by rw [cnt_lt_succ hkn, if_neg hkind]; rfl
   have hrest := ih (k + 1) (put tm o.dst undef) H rs2 es2 tm2 hd' hkn hp hrs2 (by rw [hc]; exact hes) (by rw [hc]; exact hle) (hf.put hu hok' hr1 hT) (by rw [hc]; exact hH)
   exact fin _ _ True rfl rfl trivial hrest (.inl ⟨rfl, hwant, rfl⟩)

theorem pass1_run {ec : EC} {ef : EF} {ops : Array Oper} {rs : List Rec} {es : List (Nat × List AObj)} {tm0 tm1 : List Value} {H0 : List AObj} (hu : Uniq ops) (h : pass1 P ec ef ops ops.toList tm0 H0 = some (rs, es, tm1)) :
  RunOk P ec ef ops rs es tm0 H0 ∧ FrameOk ops rs tm0 (fun _ => true) tm1 := by
 have h0 : cnt rs ops.size (fun j => decide (j < 0)) = 0 := by
  unfold cnt
  rw [List.length_eq_zero_iff, List.filter_eq_nil_iff]
  intro a _; simp
 have hf0 : FrameOk ops rs tm0 (fun j => decide (j < 0)) tm0 := ⟨rfl, fun _ _ _ _ _ h => by simp at h, fun _ _ => rfl⟩
 obtain ⟨q1, q2, q3, q4⟩ := pass1_ok (rs := rs) (es := es) (tm0 := tm0) (H0 := H0) hu ops.toList 0 tm0 H0 rs es tm1 rfl (Nat.zero_le _) h rfl (by rw [h0]; rfl) (by rw [h0]; exact Nat.zero_le _) hf0 (by rw [h0]; rfl)
 exact ⟨⟨by simpa using q1, q2, fun i o r ho hr => q4 i o r (Nat.zero_le _) ho hr⟩, q3⟩

end Go.Abs

/- The abstract machine: a region that draws its order: the theorem. -/
namespace Go.Abs
open Go Go.RowKit

variable {P : Program} {B : Nat} {ρ : Ren} {w : World}

theorem heapAt_cons {H H1 : List AObj} {lo : Nat} {es : List (Nat × List AObj)} {k : Nat} (hk : k ≤ es.length) : heapAt H ((lo, H1) :: es) (k + 1) = heapAt H1 es k := by
 cases k with
 | zero => rfl
 | succ k =>
  simp only [heapAt, List.getElem?_cons_succ]
  rw [List.getElem?_eq_getElem (by omega)]
  rfl

theorem pass1_keep (hP : POk P) {ec : EC} {ef : EF} (hC : SoundC P ec) (hF : SoundF P ef) {ops : Array Oper} : ∀ (rest : List Oper) (tm : List Value) (H : List AObj) (rs : List Rec) (es : List (Nat × List AObj)) (tm1 : List Value),
  pass1 P ec ef ops rest tm H = some (rs, es, tm1) → (∃ ρ w tms, WRel P B ρ H w ∧ ARel ρ tm.toArray tms) →
  ∀ k lo H1, es[k]? = some (lo, H1) → (heapAt H es k).length ≤ H1.length ∧ ∀ b, b < lo → b < (heapAt H es k).length → H1[b]? = (heapAt H es k)[b]? := by
 intro rest
 induction rest with
 | nil =>
  intro tm H rs es tm1 h _ k lo H1 hk
  simp only [pass1, Option.some.injEq, Prod.mk.injEq] at h
  obtain ⟨-, rfl, -⟩ := h
  simp at hk
 | cons o rest ih =>
  intro tm H rs es tm1 h hex k lo H1 hk
  obtain ⟨ρ, w, tms, hw, ht⟩ := hex
  simp only [pass1] at h
  split at h
  ·split at h
   ·split at h
    ·rename_i v st1 hstep
     split at h
     ·rename_i hsame
      simp only [Bool.and_eq_true, beq_iff_eq] at hsame
      simp only [Option.map_eq_some_iff, Prod.mk.injEq, Prod.exists] at h
      obtain ⟨rs2, es2, tm2, hp, rfl, rfl, rfl⟩ := h
      have hop : evOp P ec ef tm o ⟨H, H.length⟩ = some (v, st1) := by unfold evOp; rw [hstep]
      obtain ⟨ρ1, v', w1, hm, hv⟩ := evOp_real hP hC hF hop (tms := tms) hw ht
      have hHH : st1.H = H := by
       apply List.ext_getElem?
       intro b
       by_cases hb : b < H.length
       ·exact hm.keepA b (by rw [hsame.2]; exact hb) hb
       ·rw [List.getElem?_eq_none (by omega), List.getElem?_eq_none (by omega)]
      refine ih _ _ _ _ _ hp ⟨ρ1, w1, _, by rw [← hHH]; exact hm.rel, put_rel (a := ⟨tms, []⟩) (ht.mono hm.ext) hv o.dst⟩ k lo H1 hk
     ·cases h
    ·cases h
   ·split at h
    ·rename_i v st1 hop
     simp only [Option.map_eq_some_iff, Prod.mk.injEq, Prod.exists] at h
     obtain ⟨rs2, es2, tm2, hp, rfl, rfl, rfl⟩ := h
     obtain ⟨ρ1, v', w1, hm, hv⟩ := evOp_real hP hC hF hop (tms := tms) hw ht
     cases k with
     | zero =>
      simp only [List.getElem?_cons_zero, Option.some.injEq, Prod.mk.injEq] at hk
      obtain ⟨rfl, rfl⟩ := hk
      exact ⟨hm.len, hm.keepA⟩
     | succ k =>
      rw [List.getElem?_cons_succ] at hk
      have hlt := (List.getElem?_eq_some_iff.1 hk).1
      rw [heapAt_cons (Nat.le_of_lt hlt)]
      exact ih _ _ _ _ _ hp ⟨ρ1, w1, _, hm.rel, put_rel (a := ⟨tms, []⟩) (ht.mono hm.ext) hv o.dst⟩ k lo H1 hk
    ·cases h
  ·simp only [Option.map_eq_some_iff, Prod.mk.injEq, Prod.exists] at h
   obtain ⟨rs2, es2, tm2, hp, rfl, rfl, rfl⟩ := h
   exact ih _ _ _ _ _ hp ⟨ρ, w, _, hw, put_rel (a := ⟨tms, []⟩) ht .nil o.dst⟩ k lo H1 hk

theorem foldl_min_le {l : List (Nat × List AObj)} : ∀ (m : Nat), l.foldl (fun m e => min m e.1) m ≤ m ∧ ∀ e ∈ l, l.foldl (fun m e => min m e.1) m ≤ e.1 := by
 induction l with
 | nil => intro m; exact ⟨Nat.le_refl _, fun e he => by simp at he⟩
 | cons x l ih =>
  intro m
  obtain ⟨h1, h2⟩ := ih (min m x.1)
  simp only [List.foldl_cons]
  refine ⟨Nat.le_trans h1 (Nat.min_le_left _ _), fun e he => ?_⟩
  rcases List.mem_cons.1 he with rfl | he
  ·exact Nat.le_trans h1 (Nat.min_le_right _ _)
  ·exact h2 e he

theorem loMin_le (es : List (Nat × List AObj)) (m a b : Nat) : loMin es m a b ≤ m := (foldl_min_le m).1

theorem loMin_at {es : List (Nat × List AObj)} {m a b j lo : Nat} {H : List AObj} (h : es[j]? = some (lo, H)) (h1 : a ≤ j) (h2 : j < b) : loMin es m a b ≤ lo := by
 refine (foldl_min_le m).2 (lo, H) ?_
 have : ((es.drop a).take (b - a))[j - a]? = some (lo, H) := by
  rw [List.getElem?_take, if_pos (by omega), List.getElem?_drop, ← h]; congr 1; omega
 exact List.mem_of_getElem? this

theorem loMin_succ {es : List (Nat × List AObj)} {m k lo : Nat} {H : List AObj} (h : es[k]? = some (lo, H)) : loMin es m 0 (k + 1) = min (loMin es m 0 k) lo := by
 unfold loMin
 simp only [List.drop_zero, Nat.sub_zero]
 rw [List.take_add_one, h]
 simp

theorem mask_sub {es : List (Nat × List AObj)} {H0 : List AObj} {a b : Nat} (hkeep : ∀ k lo H1, es[k]? = some (lo, H1) → (heapAt H0 es k).length ≤ H1.length ∧ ∀ x, x < lo → x < (heapAt H0 es k).length → H1[x]? = (heapAt H0 es k)[x]?) :
  ∀ k, a ≤ k → k ≤ b → k ≤ es.length → Sub (maskH (heapAt H0 es a) (loMin es (heapAt H0 es a).length a b)) (heapAt H0 es k) := by
 intro k hak hkb hkl x o hx hl
 have hL : x < loMin es (heapAt H0 es a).length a b ∧ (heapAt H0 es a)[x]? = some o := by
  unfold maskH at hx
  have hle := loMin_le es (heapAt H0 es a).length a b
  by_cases hxL : x < loMin es (heapAt H0 es a).length a b
  ·rw [List.getElem?_append_left (by simp; omega), List.getElem?_take, if_pos hxL] at hx
   exact ⟨hxL, hx⟩
  ·rw [List.getElem?_append_right (by simp; omega)] at hx
   have := List.mem_of_getElem? hx
   simp at this
   obtain ⟨_, rfl⟩ := this
   cases hl
 have key : ∀ d, a + d ≤ b → a + d ≤ es.length → (heapAt H0 es (a + d))[x]? = some o := by
  intro d
  induction d with
  | zero => intro _ _; exact hL.2
  | succ d ih =>
   intro h1 h2
   have h3 := ih (by omega) (by omega)
   obtain ⟨e, he⟩ : ∃ e, es[a + d]? = some e := ⟨es[a + d], List.getElem?_eq_getElem (by omega)⟩
   obtain ⟨lo, H1⟩ := e
   have hlo := loMin_at (m := (heapAt H0 es a).length) he (Nat.le_add_right a d) (b := b) (by omega)
   have hlen := (List.getElem?_eq_some_iff.1 h3).1
   have := (hkeep _ _ _ he).2 x (by omega) hlen
   show (heapAt H0 es (a + d + 1))[x]? = _
   simp only [heapAt, he]
   show H1[x]? = _
   rw [this]; exact h3
 have := key (k - a) (by omega) (by omega)
 rwa [show a + (k - a) = k by omega] at this

theorem Moved.any {ρ ρ1 : Ren} {H H1 : List AObj} {w w1 : World} (h : Moved P B ρ H w ρ1 H1 H.length w1) (lo : Nat) : Moved P B ρ H w ρ1 H1 lo w1 :=
 ⟨h.ext, h.rel, h.below, fun b _ hb => h.keepA b hb hb, fun b t o _ ht ho hv => h.keepR b t o (List.getElem?_eq_some_iff.1 ho).1 ht ho hv, h.len, h.fr⟩

theorem evOp_congr {ec : EC} {ef : EF} {tm tm2 : List Value} {o : Oper} {st : St} (h : ∀ x ∈ o.op.operands, aeval tm x = aeval tm2 x) : evOp P ec ef tm o st = evOp P ec ef tm2 o st := by
 unfold evOp
 rw [stepOp_congr h]

structure Static (ops : Array Oper) : Prop where
 uniq : Uniq ops
 back : ∀ i o, ops[i]? = some o → ∀ e ∈ o.after, Region.binds .any e = true → e.on < i
 tmps : ∀ i o j t, ops[i]? = some o → j < ops.size → j ≠ i → dstOf ops j = some t → t ∈ reads ops o → anc ops i j = true ∨ anc ops j i = true

theorem static_of {ops : Array Oper} (h : tmpsOk ops (ancs ops.toList []) = true) : Static ops := by
 unfold tmpsOk at h
 rw [List.all_eq_true] at h
 have key : ∀ i o, ops[i]? = some o → (∀ e ∈ o.after, Region.binds .any e = true → e.on < i) ∧ ∀ j t, j < ops.size → i ≠ j → dstOf ops j = some t → o.dst ≠ some t ∧ (t ∈ reads ops o → anc ops i j = true ∨ anc ops j i = true) := by
  intro i o ho
  have hi := (Array.getElem?_eq_some_iff.1 ho).1
  have := h i (List.mem_range.2 hi)
  rw [ho] at this
  simp only [Bool.and_eq_true, List.all_eq_true] at this
  refine ⟨fun e he hb => ?_, fun j t hj hij hd => ?_⟩
  ·have := this.1 e (by simpa using he)
   simp only [hb, Bool.not_true, Bool.false_or, decide_eq_true_eq] at this
   exact this
  ·have := this.2 j (List.mem_range.2 hj)
   simp only [Bool.or_eq_true, beq_iff_eq, hij, false_or] at this
   rw [hd] at this
   simp only [Bool.and_eq_true, Bool.not_eq_true', beq_eq_false_iff_ne, ne_eq, Bool.or_eq_true, List.contains_eq_mem, decide_eq_false_iff_not] at this
   refine ⟨this.1, fun ht => ?_⟩
   rcases this.2 with (h1 | h1) | h1
   ·exact absurd ht h1
   ·exact .inl h1
   ·exact .inr h1
 refine ⟨fun i j t hi hj hdi hdj => ?_, fun i o ho => (key i o ho).1, fun i o j t ho hj hne hd ht => ((key i o ho).2 j t hj (Ne.symm hne) hd).2 ht⟩
 by_cases hij : i = j
 ·exact hij
 ·obtain ⟨o, ho⟩ : ∃ o, ops[i]? = some o := ⟨ops[i], by simp [hi]⟩
  have := ((key i o ho).2 j t hj hij hdj).1
  unfold dstOf at hdi
  rw [ho] at hdi
  exact absurd hdi this

theorem chain_of {ops : Array Oper} {rs : List Rec} (h : chainOk ops.size rs (ancs ops.toList []) = true) : ∀ i j, i < ops.size → kindOf rs i = 2 → j < i → kindOf rs j = 2 → anc ops i j = true := by
 intro i j hi hk hj hkj
 unfold chainOk at h
 rw [List.all_eq_true] at h
 have := h i (List.mem_range.2 hi)
 simp only [hk, bne_self_eq_false, Bool.false_or, List.all_eq_true] at this
 have := this j (List.mem_range.2 hj)
 simp only [hkj, bne_self_eq_false, Bool.false_or] at this
 exact this

end Go.Abs

/- The abstract machine: a region that draws its order: every order. -/
namespace Go.Abs
open Go Go.RowKit

variable {P : Program} {B : Nat} {ρ : Ren} {w : World}

def isIn (listed : Array Bool) (i : Nat) : Bool := listed.getD i false

theorem isIn_set {listed : Array Bool} {i : Nat} (hi : i < listed.size) (j : Nat) : isIn (listed.setIfInBounds i true) j = (isIn listed j || j == i) := by
 unfold isIn
 by_cases hij : i = j
 ·subst hij
  simp [Array.getD, hi]
 ·have : (j == i) = false := by simp; omega
  rw [getD_set_ne false hij, this, Bool.or_false]

def left (n : Nat) (listed : Array Bool) : Nat := ((List.range n).filter fun i => !isIn listed i).length

theorem left_set {n i : Nat} {listed : Array Bool} (hn : listed.size = n) (hi : i < n) (h : isIn listed i = false) : left n (listed.setIfInBounds i true) + 1 = left n listed := by
 unfold left
 refine (filter_insert (i := i) n hi (by simp [h]) ?_ fun j hj => ?_).symm
 ·rw [isIn_set (by omega)]; simp
 ·rw [isIn_set (by omega)]
  have : (j == i) = false := by simpa using hj
  simp [this]

theorem left_zero {n : Nat} {listed : Array Bool} (h : left n listed = 0) : ∀ i, i < n → isIn listed i = true := by
 intro i hi
 unfold left at h
 rw [List.length_eq_zero_iff, List.filter_eq_nil_iff] at h
 have := h i (List.mem_range.2 hi)
 simpa using this

structure Inv (P : Program) (B : Nat) (ρ : Ren) (w : World) (ops : Array Oper) (rs : List Rec) (es : List (Nat × List AObj)) (tm0 : List Value) (st : St) (a : Act) (listed : Array Bool) (a' : Act) (w' : World) : Prop where
 size : listed.size = ops.size
 closed : Closed ops listed
 frame : ∃ tm ρ', FrameOk ops rs tm0 (isIn listed) tm ∧ ARel ρ' tm.toArray a'.tmps ∧
  Moved P B ρ st.H w ρ' (heapAt st.H es (cnt rs ops.size (isIn listed))) (loMin es st.lo 0 (cnt rs ops.size (isIn listed))) w'
 defers : a'.defers = a.defers

theorem cnt_le_all {rs : List Rec} {n : Nat} (S : Nat → Bool) : cnt rs n S ≤ cnt rs n (fun _ => true) := cnt_mono fun _ _ _ _ => rfl

theorem steady_sub {es : List (Nat × List AObj)} {H0 : List AObj} {a b : Nat} : ∀ k, a ≤ k → k ≤ b → Sub (steady H0 es a b) (heapAt H0 es k) := by
 intro k hak hkb x o hx hl
 unfold steady at hx
 rw [List.getElem?_map, List.getElem?_zipIdx] at hx
 cases hxa : (heapAt H0 es a)[x]? with
 | none => rw [hxa] at hx; cases hx
 | some y =>
  rw [hxa] at hx
  simp only [Option.map_some, Nat.zero_add, Option.some.injEq] at hx
  split at hx
  ·rename_i hall
   subst hx
   by_cases hk : k = a
   ·subst hk; exact hxa
   ·have := List.all_eq_true.1 hall (k - a - 1) (List.mem_range.2 (by omega))
    rw [show a + (k - a - 1) + 1 = k by omega] at this
    split at this
    ·rename_i o' ho'
     rw [ho', beqO_eq _ _ this]
    ·cases this
  ·subst hx; cases hl

theorem quietOk_run {P : Program} {ops : Array Oper} {rs : List Rec} {es : List (Nat × List AObj)} {H0 : List AObj} {i : Nat} {o : Oper} {r : Rec} (hquiet : isQuiet o = true) (hqk : quietOk P ops.size rs es H0 (ancs ops.toList []) i o r = true)
  (hkeep : ∀ k lo H1, es[k]? = some (lo, H1) → (heapAt H0 es k).length ≤ H1.length ∧ ∀ x, x < lo → x < (heapAt H0 es k).length → H1[x]? = (heapAt H0 es k)[x]?) (hlen : es.length = cnt rs ops.size (fun _ => true)) :
  ∃ v2, ∀ S : Nat → Bool, (∀ j, anc ops i j = true → S j = true) → (∀ j, anc ops j i = true → S j = false) →
   stepOp P r.tm o ⟨heapAt H0 es (cnt rs ops.size S), (heapAt H0 es (cnt rs ops.size S)).length⟩ = some (.val v2 ⟨heapAt H0 es (cnt rs ops.size S), (heapAt H0 es (cnt rs ops.size S)).length⟩) := by
 have lo : ∀ S : Nat → Bool, (∀ j, anc ops i j = true → S j = true) → cnt rs ops.size (fun j => ancA (ancs ops.toList []) i j) ≤ cnt rs ops.size S := fun S hup => cnt_mono fun j _ _ hj => hup j hj
 have hi : ∀ S : Nat → Bool, (∀ j, anc ops j i = true → S j = false) → cnt rs ops.size S ≤ cnt rs ops.size (fun j => !ancA (ancs ops.toList []) j i) := fun S hdown => cnt_mono fun j _ _ hj => by
  cases hd : ancA (ancs ops.toList []) j i with
  | false => rfl
  | true => rw [hdown j hd] at hj; cases hj
 unfold quietOk at hqk
 rw [Bool.or_eq_true] at hqk
 rcases hqk with hqk | hqk
 ·unfold quietLow at hqk
  dsimp only at hqk
  split at hqk
  ·rename_i v2 st2 hs2
   simp only [Bool.and_eq_true, beq_iff_eq] at hqk
   obtain ⟨H2, lo2⟩ := st2
   exact ⟨v2, fun S hup hdown => quiet_mono hquiet (mask_sub hkeep _ (lo S hup) (hi S hdown) (by rw [hlen]; exact cnt_le_all _)) hs2 hqk.1 hqk.2 _⟩
  ·cases hqk
 ·unfold quietStill at hqk
  dsimp only at hqk
  split at hqk
  ·rename_i v2 st2 hs2
   simp only [Bool.and_eq_true, beq_iff_eq] at hqk
   obtain ⟨H2, lo2⟩ := st2
   exact ⟨v2, fun S hup hdown => quiet_mono hquiet (steady_sub _ (lo S hup) (hi S hdown)) hs2 hqk.1 hqk.2 _⟩
  ·cases hqk

theorem any_sound (hP : POk P) {ec : EC} {ef : EF} (hC : SoundC P ec) (hF : SoundF P ef) {ops : Array Oper} {rs : List Rec} {es : List (Nat × List AObj)} {tm0 tm1 : List Value} {st : St} {a : Act} {rd' : Option Nat} {n : Nat} {Q : Exit → Act → World → Prop}
  (hs : Static ops) (hch : ∀ i j, i < ops.size → kindOf rs i = 2 → j < i → kindOf rs j = 2 → anc ops i j = true) (hr : RunOk P ec ef ops rs es tm0 st.H) (hf1 : FrameOk ops rs tm0 (fun _ => true) tm1)
  (hq : ∀ i o r, ops[i]? = some o → rs[i]? = some r → r.kind = 1 → quietOk P ops.size rs es st.H (ancs ops.toList []) i o r = true)
  (hkeep : ∀ k lo H1, es[k]? = some (lo, H1) → (heapAt st.H es k).length ≤ H1.length ∧ ∀ x, x < lo → x < (heapAt st.H es k).length → H1[x]? = (heapAt st.H es k)[x]?)
  (hQ : ∀ ρ1 a1 w1, Moved P B ρ st.H w ρ1 (heapAt st.H es es.length) (loMin es st.lo 0 es.length) w1 → ARel ρ1 tm1.toArray a1.tmps → a1.defers = a.defers → Q .normal a1 w1) :
  ∀ (fuel : Nat) (listed : Array Bool) (a' : Act) (w' : World), Inv P B ρ w ops rs es tm0 st a listed a' w' → left ops.size listed ≤ fuel → wpAnyIn (fen rd') n P .any ops Q fuel listed a' w' := by
 -- all is listed: the end
 have fin : ∀ (listed : Array Bool) (a' : Act) (w' : World), Inv P B ρ w ops rs es tm0 st a listed a' w' → (∀ i, i < ops.size → isIn listed i = true) → Q .normal a' w' := by
  intro listed a' w' hi hall
  obtain ⟨tm, ρ', hfr, hta, hm⟩ := hi.frame
  have hc : cnt rs ops.size (isIn listed) = es.length := by rw [hr.elen]; exact cnt_congr fun i hi _ => hall i hi
  rw [hc] at hm
  have htm : tm = tm1 := by
   apply List.ext_getElem?
   intro t
   exact hfr.agree hr.len hs.uniq hf1 fun i hi _ => hall i hi
  subst htm
  exact hQ ρ' a' w' hm hta hi.defers
 intro fuel
 induction fuel with
 | zero =>
  intro listed a' w' hi hl
  have hall := left_zero (Nat.le_zero.1 hl)
  refine ⟨?_, fin listed a' w' hi hall⟩
  rw [List.eq_nil_iff_forall_not_mem]
  intro i hir
  obtain ⟨h1, o, ho, _⟩ := mem_ready.1 hir
  have hin := (Array.getElem?_eq_some_iff.1 ho).1
  have := hall i hin
  unfold isIn at this
  rw [getD_both h1] at this
  cases this
 | succ fuel ih =>
  intro listed a' w' hi hl
  have hsz := hi.size
  refine ⟨fun hnil => ?_, fun i hir => ?_⟩
  ·refine fin listed a' w' hi ?_
   intro i
   induction i using Nat.strongRecOn with
   | _ i ih2 =>
    intro hin
    cases hli : isIn listed i with
    | true => rfl
    | false =>
     exfalso
     obtain ⟨o, ho⟩ : ∃ o, ops[i]? = some o := ⟨ops[i], by simp [hin]⟩
     have : i ∈ Region.ready .any ops listed := by
      rw [mem_ready]
      refine ⟨getD_in (by omega) hli, o, ho, fun e he hb => ?_⟩
      have hlt := hs.back i o ho e he hb
      exact ih2 e.on hlt (by omega)
     rw [hnil] at this
     cases this
  ·obtain ⟨hun, o, ho, hdeps⟩ := mem_ready.1 hir
   have hin := (Array.getElem?_eq_some_iff.1 ho).1
   have hli : isIn listed i = false := getD_both hun
   obtain ⟨r, hri⟩ : ∃ r, rs[i]? = some r := ⟨rs[i]'(by rw [hr.len]; exact hin), List.getElem?_eq_getElem _⟩
   obtain ⟨tm, ρ', hfr, hta, hm⟩ := hi.frame
   obtain ⟨hfri, hcase⟩ := hr.ok i o r ho hri
   -- ancestors are listed, whoever waits for i is not
   have up : ∀ j, anc ops i j = true → isIn listed j = true := fun j hj => anc_listed hi.closed i j hj (fun o' ho' e he hb => by
    rw [ho] at ho'; cases ho'; exact hdeps e he hb)
   have down : ∀ j, anc ops j i = true → isIn listed j = false := by
    intro j hj
    cases hlj : isIn listed j with
    | false => rfl
    | true =>
     exfalso
     have := anc_listed hi.closed j i hj (fun o' ho' e he hb => hi.closed j o' ho' hlj e he hb)
     change isIn listed i = true at this
     rw [hli] at this
     cases this
   -- what it reads is what it read
   have agree : ∀ t, t ∈ reads ops o → tm[t]? = r.tm[t]? := by
    intro t ht
    refine hfr.agree hr.len hs.uniq hfri fun j hj hd => ?_
    by_cases hji : j = i
    ·subst hji
     rw [hli]; simp
    ·rcases hs.tmps i o j t ho hj hji hd ht with h1 | h1
     ·rw [up j h1]
      have := anc_lt i j h1
      simp [this]
     ·rw [down j h1]
      have := anc_lt j i h1
      simp; omega
   have hopd : ∀ x ∈ o.op.operands, aeval tm x = aeval r.tm x := by
    intro x hx
    cases x with
    | tmp t =>
     show (tm[t]?).getD undef = (r.tm[t]?).getD undef
     rw [agree t]
     unfold reads
     exact List.mem_append_left _ (List.mem_filterMap.2 ⟨.tmp t, by simpa using hx, rfl⟩)
    | _ => rfl
   have hwant : Region.wanted o (yieldedA ops tm) = Region.wanted o (yieldedA ops r.tm) := by
    unfold Region.wanted
    cases hg : o.guard with
    | none => rfl
    | some gb =>
     obtain ⟨g, b⟩ := gb
     simp only
     have : yieldedA ops tm g = yieldedA ops r.tm g := by
      unfold yieldedA
      cases hd : (ops[g]?).bind (·.dst) with
      | none => rfl
      | some t =>
       simp only [Option.bind_some]
       rw [agree t]
       unfold reads
       refine List.mem_append_right _ ?_
       rw [hg]
       simp only [dstOf, hd, Option.toList_some, List.mem_singleton]
     rw [this]
   have hwreal : Region.wanted o (yielded ops a'.tmps) = Region.wanted o (yieldedA ops r.tm) := by
    rw [← hwant]; congr 1; funext j; exact (yielded_rel hta ops j).symm
   -- the next state
   have hsz' : (listed.setIfInBounds i true).size = ops.size := by simpa using hsz
   have hclosed' : Closed ops (listed.setIfInBounds i true) := by
    intro j oj hoj hlj e he hb
    have hlj' : isIn (listed.setIfInBounds i true) j = true := hlj
    rw [isIn_set (by omega)] at hlj'
    change isIn (listed.setIfInBounds i true) e.on = true
    rw [isIn_set (by omega)]
    simp only [Bool.or_eq_true, beq_iff_eq] at hlj' ⊢
    rcases hlj' with h1 | rfl
    ·exact .inl (hi.closed j oj hoj h1 e he hb)
    ·rw [ho] at hoj; cases hoj; exact .inl (hdeps e he hb)
   have hput : FrameOk ops rs tm0 (isIn (listed.setIfInBounds i true)) (put tm o.dst r.v) := hfr.put hs.uniq ho hri fun j _ => isIn_set (by omega) j
   have hleft : left ops.size (listed.setIfInBounds i true) ≤ fuel := by
    have := left_set hsz hin hli; omega
   have hcS : cnt rs ops.size (isIn (listed.setIfInBounds i true)) = cnt rs ops.size (fun j => isIn listed j || j == i) := cnt_congr fun j _ _ => isIn_set (by omega) j
   have hkind : kindOf rs i = r.kind := by unfold kindOf; rw [hri]; rfl
   unfold wpOpIn
   rw [ho]
   simp only
   rcases hcase with ⟨hk, hw, hv⟩ | ⟨hk, hw, hquiet, st1, hstep⟩ | ⟨hk, hw, lo, H1, hes, hop⟩
   ·-- its guard is false
    rw [if_neg (by rw [hwreal, hw]; simp)]
    refine ⟨fun _ _ => trivial, ih _ _ _ ⟨hsz', hclosed', ⟨put tm o.dst r.v, ρ', hput, ?_, ?_⟩, by rw [put_defers]; exact hi.defers⟩ hleft⟩
    ·rw [hv]; exact put_rel hta .nil _
    ·rw [hcS, cnt_other (by rw [hkind, hk]; decide)]; exact hm
   ·-- quiet
    rw [if_pos (by rw [hwreal, hw])]
    have hqk := hq i o r ho hri hk
    obtain ⟨v2, run⟩ := quietOk_run hquiet hqk hkeep hr.elen
    have h1 := run (isIn listed) up down
    have h2 := run (fun j => decide (j < i)) (fun j hj => by simpa using anc_lt i j hj) (fun j hj => by have := anc_lt j i hj; simp; omega)
    rw [hstep] at h2
    simp only [Option.some.injEq, ANext.val.injEq] at h2
    obtain ⟨hv2, _⟩ := h2
    subst hv2
    have hev : evOp P ec ef tm o ⟨heapAt st.H es (cnt rs ops.size (isIn listed)), (heapAt st.H es (cnt rs ops.size (isIn listed))).length⟩ =
      some (r.v, ⟨heapAt st.H es (cnt rs ops.size (isIn listed)), (heapAt st.H es (cnt rs ops.size (isIn listed))).length⟩) := by
     rw [evOp_congr hopd]
     unfold evOp
     rw [h1]
    obtain ⟨_, hsound⟩ := op_sound hP hC hF hev
    refine hsound B ρ' w' rd' a' n _ Q hm.rel hta ?_
    intro v' ρ1 w1 hm1 hv1
    refine ih _ _ _ ⟨hsz', hclosed', ⟨put tm o.dst r.v, ρ1, hput, put_rel (hta.mono hm1.ext) hv1 _, ?_⟩, by rw [put_defers]; exact hi.defers⟩ hleft
    rw [hcS, cnt_other (by rw [hkind, hk]; decide)]
    exact hm.trans (hm1.any _) (Nat.le_refl _)
   ·-- any other
    rw [if_pos (by rw [hwreal, hw])]
    have hcc : cnt rs ops.size (fun j => decide (j < i)) = cnt rs ops.size (isIn listed) := by
     refine cnt_congr fun j hj hkj => ?_
     rcases Nat.lt_trichotomy j i with h1 | h1 | h1
     ·rw [up j (hch i j hin (by rw [hkind, hk]) h1 hkj)]; simp [h1]
     ·subst h1; rw [hli]; simp
     ·rw [down j (hch j i hj hkj h1 (by rw [hkind, hk]))]; simp; omega
    rw [hcc] at hes hop
    have hev : evOp P ec ef tm o ⟨heapAt st.H es (cnt rs ops.size (isIn listed)), (heapAt st.H es (cnt rs ops.size (isIn listed))).length⟩ = some (r.v, ⟨H1, lo⟩) := by
     rw [evOp_congr hopd]; exact hop
    obtain ⟨_, hsound⟩ := op_sound hP hC hF hev
    refine hsound B ρ' w' rd' a' n _ Q hm.rel hta ?_
    intro v' ρ1 w1 hm1 hv1
    refine ih _ _ _ ⟨hsz', hclosed', ⟨put tm o.dst r.v, ρ1, hput, put_rel (hta.mono hm1.ext) hv1 _, ?_⟩, by rw [put_defers]; exact hi.defers⟩ hleft
    rw [hcS, cnt_insert hin (by rw [hkind, hk]) hli, loMin_succ hes]
    have hH1 : heapAt st.H es (cnt rs ops.size (isIn listed) + 1) = H1 := by simp only [heapAt, hes]; rfl
    rw [hH1]
    exact hm.trans (hm1.lower (Nat.min_le_right _ _)) (Nat.min_le_left _ _)

theorem draw_sound (hP : POk P) {ec : EC} {ef : EF} (hC : SoundC P ec) (hF : SoundF P ef) : SoundD P (evDraw P ec ef) := by
 intro ops tm st tm1 st1 h
 unfold evDraw at h
 split at h
 ·cases h
 ·rename_i rs es tm2 hp
  split at h
  ·rename_i hck
   simp only [Option.some.injEq, Prod.mk.injEq] at h
   obtain ⟨rfl, rfl⟩ := h
   refine ⟨loMin_le _ _ _ _, ?_⟩
   unfold checkD at hck
   simp only [Bool.and_eq_true, List.all_eq_true] at hck
   obtain ⟨⟨h1, h2⟩, h3⟩ := hck
   have hs := static_of h1
   have hch := chain_of h2
   obtain ⟨hrun, hf1⟩ := pass1_run hs.uniq hp
   have hq : ∀ i o r, ops[i]? = some o → rs[i]? = some r → r.kind = 1 → quietOk P ops.size rs es st.H (ancs ops.toList []) i o r = true := by
    intro i o r ho hr hk
    have := h3 i (List.mem_range.2 (Array.getElem?_eq_some_iff.1 ho).1)
    rw [ho, hr] at this
    simpa [hk] using this
   intro B ρ w rd' a n id hw ht
   refine wpIn_region_any hP.mixed ?_
   have hw' : WRel P B ρ st.H { w with drawn := w.drawn + 1 } := hw.drawn rfl
   have hkeep := pass1_keep hP hC hF ops.toList tm st.H rs es tm2 hp ⟨ρ, w, a.tmps, hw, ht⟩
   refine any_sound hP hC hF hs hch hrun hf1 hq hkeep (B := B) (ρ := ρ) (w := w) (a := a) ?_ ops.size _ a _ ?_ ?_
   ·intro ρ1 a1 w1 hm hta hd
    exact ⟨rfl, ρ1, hm, hta, hd⟩
   ·have hno : ∀ i, isIn (Array.replicate ops.size false) i = false := fun i => getD_replicate_false _ _
    have hc0 : cnt rs ops.size (isIn (Array.replicate ops.size false)) = 0 := by
     unfold cnt
     rw [List.length_eq_zero_iff, List.filter_eq_nil_iff]
     intro i _
     simp [hno]
    refine ⟨by simp, (fun j oj hoj hl => by rw [getD_replicate_false] at hl; cases hl), ⟨tm, ρ, ⟨rfl, (fun t i r _ _ hS => by rw [hno] at hS; cases hS), fun _ _ => rfl⟩, ht, ?_⟩, rfl⟩
    rw [hc0]
    exact ⟨List.prefix_refl _, hw', ⟨rfl, rfl, rfl, Nat.le_refl _, fun _ _ => rfl⟩, fun _ _ _ => rfl, fun _ _ _ _ _ _ _ => rfl, Nat.le_refl _, ⟨fun _ h => .inr h, fun _ _ _ => rfl⟩⟩
   ·unfold left
    exact Nat.le_trans (List.length_filter_le _ _) (by simp)
  ·cases h

end Go.Abs
