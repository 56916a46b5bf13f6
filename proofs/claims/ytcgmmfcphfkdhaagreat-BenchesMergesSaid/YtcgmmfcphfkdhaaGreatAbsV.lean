/- The abstract machine: the same, with slots and blocks looked up and put by plain recursion, which the kernel does faster. -/
import Derived.Test.YtcgmmfcphfkdhaaGreatGrAbsD
import Derived.Test.YtcgmmfcphfkdhaaGreatGrAbsC
namespace Go.Abs
open Go Go.RowKit

def gtI {α : Type} (l : List α) (i : Nat) : Option α := l[i]?
@[implemented_by gtI] def gtL {α : Type} (l : List α) (i : Nat) : Option α :=
 List.rec (motive := fun _ => Nat → Option α) (fun _ => none) (fun v _ ih i => Nat.rec (some v) (fun i _ => ih i) i) l i

theorem gtL_eq {α : Type} (l : List α) (i : Nat) : gtL l i = l[i]? := by
 induction l generalizing i with
 | nil => rfl
 | cons v vs ih =>
  cases i with
  | zero => rfl
  | succ i =>
   show gtL vs i = _
   rw [ih]
   simp

def stI {α : Type} (l : List α) (i : Nat) (x : α) : List α := l.set i x
@[implemented_by stI] def stL {α : Type} (l : List α) (i : Nat) (x : α) : List α :=
 List.rec (motive := fun _ => Nat → List α) (fun _ => []) (fun v vs ih i => Nat.rec (x :: vs) (fun i _ => v :: ih i) i) l i

theorem stL_eq {α : Type} (l : List α) (i : Nat) (x : α) : stL l i x = l.set i x := by
 induction l generalizing i with
 | nil => rfl
 | cons v vs ih =>
  cases i with
  | zero => rfl
  | succ i =>
   show v :: stL vs i x = _
   rw [ih]
   rfl

def aevalF (tm : List Value) : Operand → Value
 | .tmp t => match gtL tm t with
  | some v => v
  | none => undef
 | .const v => v
 | .global g => .pointer (some ⟨g, 0, none⟩)
 | .func f => .func (.func f) #[] #[]

def yieldedF (ops : Array Oper) (tm : List Value) (j : Nat) : Option Bool :=
 match ((ops[j]?).bind (·.dst)).bind (gtL tm ·) with
 | some (.bool b) => some b
 | _ => none
def arunF (P : Program) {α : Type} : Sem α → List AObj → Nat → Option (α × List AObj × Nat)
 | .pure a, H, lo => some (a, H, lo)
 | .load _ a k, H, lo =>
  match a.spot, gtL H a.block with
  | none, some (.cells c _ _) => match gtL c a.off with
   | some v => arunF P (k v) H lo
   | none => none
  | _, _ => none
 | .store _ a v k, H, lo =>
  match a.spot, gtL H a.block with
  | none, some (.cells c e true) =>
   if v.oneCell && decide (a.off < c.length) then arunF P k (stL H a.block (.cells (stL c a.off v) e true)) (min lo a.block) else none
  | _, _ => none
 | .new o k, H, lo =>
  match toA o with
  | some ao => arunF P (k H.length) (H ++ [ao]) lo
  | none => none
 | .getObj r k, H, lo =>
  match gtL H r with
  | some (.map es clock) => arunF P (k (.map es.toArray clock)) H lo
  | _ => none
 | .setObj r o k, H, lo =>
  match gtL H r, o with
  | some (.map _ _), .map es clock => if es.toList.all entOk then arunF P k (stL H r (.map es.toList clock)) (min lo r) else none
  | _, _ => none
 | .program k, H, lo => arunF P (k P) H lo
 | .mark _ k, H, lo => arunF P k H lo
 | _, _, _ => none


theorem arunF_eq (P : Program) {α : Type} (e : Sem α) (H : List AObj) (lo : Nat) : arunF P e H lo = arun P e H lo := by
 induction e generalizing H lo with
 | load m a k ih => simp only [arunF, arun, gtL_eq, ih] <;> rfl
 | store m a v k ih => simp only [arunF, arun, gtL_eq, stL_eq, ih] <;> rfl
 | new o k ih => simp only [arunF, arun, ih] <;> rfl
 | getObj r k ih => simp only [arunF, arun, gtL_eq, ih] <;> rfl
 | setObj r o k ih => simp only [arunF, arun, gtL_eq, stL_eq, ih] <;> rfl
 | program k ih => simp only [arunF, arun, ih] <;> rfl
 | mark m k ih => simp only [arunF, arun, ih] <;> rfl
 | _ => first | rfl | (simp only [arunF, arun])

end Go.Abs
