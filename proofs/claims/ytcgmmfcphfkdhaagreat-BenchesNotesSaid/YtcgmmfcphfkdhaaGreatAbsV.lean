/- The abstract machine: the same, with slots and blocks looked up and put by plain recursion, which the kernel does faster. -/
import Derived.Test.YtcgmmfcphfkdhaaGreatGrAbsD
import Derived.Test.YtcgmmfcphfkdhaaGreatGrAbsC
namespace Go.Abs
open Go Go.RowKit

def gtI {α : Type} (l : List α) (i : Nat) : Option α := l[i]?
@[implemented_by gtI] def gtL {α : Type} (l : List α) (i : Nat) : Option α :=
  List.rec (motive := fun _ => Nat → Option α) (fun _ => none) (fun v _ ih i => Nat.rec (some v) (fun i _ => ih i) i) l i

theorem gtL_eq {α : Type} (l : List α) (i : Nat) : gtL l i = l[i]? := by
  induction l generalizing i with
  | nil => rfl
  | cons v vs ih =>
    cases i with
    | zero => rfl
    | succ i =>
      show gtL vs i = _
      rw [ih]
      simp

def stI {α : Type} (l : List α) (i : Nat) (x : α) : List α := l.set i x
@[implemented_by stI] def stL {α : Type} (l : List α) (i : Nat) (x : α) : List α :=
  List.rec (motive := fun _ => Nat → List α) (fun _ => []) (fun v vs ih i => Nat.rec (x :: vs) (fun i _ => v :: ih i) i) l i

theorem stL_eq {α : Type} (l : List α) (i : Nat) (x : α) : stL l i x = l.set i x := by
  induction l generalizing i with
  | nil => rfl
  | cons v vs ih =>
    cases i with
    | zero => rfl
    | succ i =>
      show v :: stL vs i x = _
      rw [ih]
      rfl

def aevalF (tm : List Value) : Operand → Value
  | .tmp t => match gtL tm t with
    | some v => v
    | none => undef
  | .const v => v
  | .global g => .pointer (some ⟨g, 0, none⟩)
  | .func f => .func (.func f) #[] #[]

theorem aevalF_eq (tm : List Value) : aevalF tm = aeval tm := by
  funext x
  cases x with
  | tmp t =>
    simp only [aevalF, aeval, gtL_eq]
    cases tm[t]? <;> rfl
  | _ => rfl

def closedArgsF (tm : List Value) (o : Oper) : Bool := o.op.operands.toList.all fun x => closed (aevalF tm x)
theorem closedArgsF_eq (tm : List Value) (o : Oper) : closedArgsF tm o = closedArgs tm o := by
  unfold closedArgsF closedArgs
  rw [aevalF_eq]

def putF (tm : List Value) (dst : Option Tmp) (v : Value) : List Value :=
  match dst with
  | some d => stL tm d v
  | none => tm
theorem putF_eq (tm : List Value) (dst : Option Tmp) (v : Value) : putF tm dst v = put tm dst v := by
  unfold putF put
  cases dst
  · rfl
  · exact stL_eq _ _ _

def yieldedF (ops : Array Oper) (tm : List Value) (j : Nat) : Option Bool :=
  match ((ops[j]?).bind (·.dst)).bind (gtL tm ·) with
  | some (.bool b) => some b
  | _ => none
theorem yieldedF_eq (ops : Array Oper) (tm : List Value) : yieldedF ops tm = yieldedA ops tm := by
  funext j
  unfold yieldedF yieldedA
  simp only [gtL_eq]
  rfl

def arunF (P : Program) {α : Type} : Sem α → List AObj → Nat → Option (α × List AObj × Nat)
  | .pure a, H, lo => some (a, H, lo)
  | .load _ a k, H, lo =>
    match a.spot, gtL H a.block with
    | none, some (.cells c _ _) => match gtL c a.off with
      | some v => arunF P (k v) H lo
      | none => none
    | _, _ => none
  | .store _ a v k, H, lo =>
    match a.spot, gtL H a.block with
    | none, some (.cells c e true) =>
      if v.oneCell && decide (a.off < c.length) then arunF P k (stL H a.block (.cells (stL c a.off v) e true)) (min lo a.block) else none
    | _, _ => none
  | .new o k, H, lo =>
    match toA o with
    | some ao => arunF P (k H.length) (H ++ [ao]) lo
    | none => none
  | .getObj r k, H, lo =>
    match gtL H r with
    | some (.map es clock) => arunF P (k (.map es.toArray clock)) H lo
    | _ => none
  | .setObj r o k, H, lo =>
    match gtL H r, o with
    | some (.map _ _), .map es clock => if es.toList.all entOk then arunF P k (stL H r (.map es.toList clock)) (min lo r) else none
    | _, _ => none
  | .program k, H, lo => arunF P (k P) H lo
  | .mark _ k, H, lo => arunF P k H lo
  | _, _, _ => none


theorem arunF_eq (P : Program) {α : Type} (e : Sem α) (H : List AObj) (lo : Nat) : arunF P e H lo = arun P e H lo := by
  induction e generalizing H lo with
  | load m a k ih => simp only [arunF, arun, gtL_eq, ih] <;> rfl
  | store m a v k ih => simp only [arunF, arun, gtL_eq, stL_eq, ih] <;> rfl
  | new o k ih => simp only [arunF, arun, ih] <;> rfl
  | getObj r k ih => simp only [arunF, arun, gtL_eq, ih] <;> rfl
  | setObj r o k ih => simp only [arunF, arun, gtL_eq, stL_eq, ih] <;> rfl
  | program k ih => simp only [arunF, arun, ih] <;> rfl
  | mark m k ih => simp only [arunF, arun, ih] <;> rfl
  | _ => first | rfl | (simp only [arunF, arun])

def stepOpF (P : Program) (tm : List Value) (o : Oper) (st : St) : Option ANext :=
  if opsOk o then
    match o.op with
    | .move _ | .assign _ | .pick .. | .alloc _ | .box .. | .load .. | .store .. | .nilCheck _ | .fieldAddr .. | .indexAddr .. | .makeFunc (.func _) _ _ | .makeMap _ none | .extract ..
    | .build .. => ofRun (arunF P (execOp (aevalF tm) o) st.H st.lo)
    | .buildSlice .. => (ofRun (arunF P (execOp (aevalF tm) o) st.H st.lo)).bind fun r => if capOk r then some r else none
    | .makeSlice .. => if closedArgsF tm o then (ofRun (arunF P (execOp (aevalF tm) o) st.H st.lo)).bind fun r => if capOk r then some r else none else none
    | .binOp op t x y _ =>
      if closedArgsF tm o then ofPure (prun P (execOp (aevalF tm) o)) st else
      match op with
      | .eql => (nilCmp P t (aevalF tm x) (aevalF tm y)).map fun b => .val (.bool b) st
      | .neq => (nilCmp P t (aevalF tm x) (aevalF tm y)).map fun b => .val (.bool !b) st
      | _ => none
    | .unOp .. | .field .. | .index .. => if closedArgsF tm o then ofPure (prun P (execOp (aevalF tm) o)) st else none
    | .convert a b x => if closedArgsF tm o then ofPure (prun P (execOp (aevalF tm) o)) st else (aBytes P st.H a b (aevalF tm x)).map fun v => .val v st
    | .range t x => (aRange P st.H t (aevalF tm x)).map fun ob => .val (.pointer (some ⟨st.H.length, 0, none⟩)) ⟨st.H ++ [ob], st.lo⟩
    | .next it false => (aNext st (aevalF tm it)).map fun r => .val r.1 r.2
    | .entry it => (aEntry st.H (aevalF tm it)).map fun v => .val v st
    | .lookup t m k ok => if closed (aevalF tm k) then (aLookup P st.H t (aevalF tm m) (aevalF tm k) ok).map fun v => .val v st else none
    | .mapUpdate t m k v => if closed (aevalF tm k) then (aUpdate P st t (aevalF tm m) (aevalF tm k) (aevalF tm v)).map fun st1 => .val undef st1 else none
    | .slice t x l h m => (aSlice P st.H t (aevalF tm x) (l.map (aevalF tm)) (h.map (aevalF tm)) (m.map (aevalF tm))).map fun v => .val v st
    | .call c =>
      match c.callee with
      | .builtin b =>
        match b with
        | .append => (aAppend P st c.argTypes (c.args.map (aevalF tm))).map fun r => .val r.1 r.2
        | .copy => (aCopy P st c.argTypes (c.args.map (aevalF tm))).map fun r => .val r.1 r.2
        | .clear => (aClear P st c.argTypes (c.args.map (aevalF tm))).map fun r => .val r.1 r.2
        | .len => (aLen P st.H c.argTypes (c.args.map (aevalF tm))).map fun v => .val v st
        | .cap => (aCap P c.argTypes (c.args.map (aevalF tm))).map fun v => .val v st
        | .delete => (aDelete P st c.argTypes (c.args.map (aevalF tm))).map fun st1 => .val (.tuple #[]) st1
        | .min | .max => if closedArgsF tm o then ofPure (prun P (execOp (aevalF tm) o)) st else none
        | _ => none
      | .value f =>
        match aevalF tm f with
        | .func (.func g) first captured => some (.enter g (first ++ c.args.map (aevalF tm) ++ captured))
        | .func (.yield l) first _ => if first.isEmpty then some (.yield l (c.args.map (aevalF tm))) else none
        | _ => none
      | _ => none
    | _ => none
  else none


theorem stepOpF_eq (P : Program) (tm : List Value) (o : Oper) (st : St) : stepOpF P tm o st = stepOp P tm o st := by
  unfold stepOpF stepOp
  simp only [aevalF_eq, closedArgsF_eq, arunF_eq]
  rfl

/-- A whole operation: with the call or the round that it makes. -/
def evOpF (P : Program) (ec : EC) (ef : EF) (tm : List Value) (o : Oper) (st : St) : Option (Value × St) :=
  match stepOpF P tm o st with
  | some (.val v st1) => some (v, st1)
  | some (.enter f args) => ef f args st
  | some (.yield l args) => evRound ec l args st
  | none => none

/-- The operations of a region in the order of the text. -/
def evOpsF (P : Program) (ec : EC) (ef : EF) (ops : Array Oper) : List Oper → List Value → St → Option (List Value × St)
  | [], tm, st => some (tm, st)
  | o :: rest, tm, st =>
    if Region.wanted o (yieldedF ops tm) then
      match evOpF P ec ef tm o st with
      | some (v, st1) => evOpsF P ec ef ops rest (putF tm o.dst v) st1
      | none => none
    else evOpsF P ec ef ops rest (putF tm o.dst undef) st


theorem evOpF_eq (P : Program) (ec : EC) (ef : EF) (tm : List Value) (o : Oper) (st : St) : evOpF P ec ef tm o st = evOp P ec ef tm o st := by
  unfold evOpF evOp
  rw [stepOpF_eq]
  rfl

theorem evOpsF_eq (P : Program) (ec : EC) (ef : EF) (ops : Array Oper) (l : List Oper) (tm : List Value) (st : St) : evOpsF P ec ef ops l tm st = evOps P ec ef ops l tm st := by
  induction l generalizing tm st with
  | nil => rfl
  | cons o rest ih =>
    simp only [evOpsF, evOps, evOpF_eq, yieldedF_eq, putF_eq, ih]
    first | done | rfl

def stepCodeF (P : Program) (ec : EC) (ef : EF) (draw : Array Oper → List Value → St → Option (List Value × St)) (c : Code) (fr : Fr) (st : St) : Option (AX × Fr × St) :=
  match c with
  | .skip => some (.normal, fr, st)
  | .label _ => some (.normal, fr, st)
  | .seq a b =>
    match ec a fr st with
    | some (.normal, fr1, st1) => ec b fr1 st1
    | r => r
  | .cond c a b =>
    match aevalF fr.tm c with
    | .bool t => ec (if t then a else b) fr st
    | _ => none
  | .block id body =>
    match ec body fr st with
    | some (.exit id', fr1, st1) => some (if id' = id then .normal else .exit id', fr1, st1)
    | r => r
  | .loop body =>
    match ec body fr st with
    | some (.normal, fr1, st1) => ec (.loop body) fr1 st1
    | r => r
  | .exit id => some (.exit id, fr, st)
  | .ret => some (.ret, fr, st)
  | .region _ ops dr =>
    match (if dr then draw ops fr.tm st else evOpsF P ec ef ops ops.toList fr.tm st) with
    | some (tm, st1) => some (.normal, { fr with tm }, st1)
    | none => none
  | .rangeFunc f params assign body => evRange ec ef f params assign body fr st
  | _ => none


theorem stepCodeF_eq (P : Program) (ec : EC) (ef : EF) (draw : Array Oper → List Value → St → Option (List Value × St)) (c : Code) (fr : Fr) (st : St) : stepCodeF P ec ef draw c fr st = stepCode P ec ef draw c fr st := by
  unfold stepCodeF stepCode
  simp only [aevalF_eq, evOpsF_eq]
  rfl

end Go.Abs
