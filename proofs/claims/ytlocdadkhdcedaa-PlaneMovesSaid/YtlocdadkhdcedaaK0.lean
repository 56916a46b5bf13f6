/- The law on regions with a lead, told by a list of slots and values. -/
import Derived.Test.YtlocdadkhdcedaaQ3
namespace Go.Abs
open Go Go.RowKit

variable {F : Fence} {n m : Nat} {P : Program} {ops : Array Oper} {Q : Exit → Act → World → Prop} {a a1 : Act} {w : World}

/-- Each operation yields what the frame holds in its slot. -/
def Runs (P : Program) (a1 : Act) (w : World) : List Oper → Prop
  | [] => True
  | o :: l => (∀ d, o.dst = some d → (execOp a1.eval o).run P w = .ok (.value (a1.eval (.tmp d))) w ∧ d < a1.tmps.size) ∧ Runs P a1 w l

theorem Runs.get : ∀ {l : List Oper}, Runs P a1 w l → ∀ (i : Nat) (o : Oper), l[i]? = some o → ∀ d, o.dst = some d → (execOp a1.eval o).run P w = .ok (.value (a1.eval (.tmp d))) w ∧ d < a1.tmps.size
  | [], _, i, o, h => by simp at h
  | o' :: l, hr, 0, o, h => by simp at h; subst h; exact hr.1
  | o' :: l, hr, i + 1, o, h => hr.2.get i o (by simpa using h)

def putsL (tm : Array Value) : List (Nat × Value) → Array Value
  | [] => tm
  | (t, v) :: l => putsL (tm.setIfInBounds t v) l

theorem putsL_size (l : List (Nat × Value)) : ∀ tm : Array Value, (putsL tm l).size = tm.size := by
  induction l with
  | nil => intro tm; rfl
  | cons p l ih => intro tm; rw [show putsL tm (p :: l) = putsL (tm.setIfInBounds p.1 p.2) l from rfl, ih]; simp

theorem putsL_other (l : List (Nat × Value)) (t : Nat) : ∀ tm : Array Value, (∀ p ∈ l, p.1 ≠ t) → (putsL tm l)[t]? = tm[t]? := by
  induction l with
  | nil => intro tm _; rfl
  | cons p l ih =>
    intro tm h
    rw [show putsL tm (p :: l) = putsL (tm.setIfInBounds p.1 p.2) l from rfl, ih _ (fun q hq => h q (by simp [hq])), Array.getElem?_setIfInBounds_ne (h p (by simp))]

/-- The list of what is listed, once all of the lead is. -/
def ledList (n m : Nat) : Array Bool := (List.replicate m true ++ List.replicate (n - m) false).toArray

theorem listed_eq {listed : Array Bool} {n m : Nat} (hm : m ≤ n) (hs : listed.size = n) (h1 : ∀ i, i < m → isIn listed i = true) (h2 : ∀ i, m ≤ i → isIn listed i = false) : listed = ledList n m := by
  apply Array.ext_getElem?
  intro i
  unfold ledList
  have e0 : (List.replicate m true ++ List.replicate (n - m) false).toArray[i]? = (List.replicate m true ++ List.replicate (n - m) false)[i]? := List.getElem?_toArray ..
  rw [e0]
  by_cases hl : i < n
  · have e1 : listed[i]? = some (listed.getD i false) := by simp [Array.getD_eq_getD_getElem?, show i < listed.size by omega]
    rw [e1]
    by_cases him : i < m
    · have := h1 i him
      unfold isIn at this
      rw [this, List.getElem?_append_left (by simpa using him)]
      simp [him]
    · have := h2 i (by omega)
      unfold isIn at this
      rw [this, List.getElem?_append_right (by simp; omega), List.length_replicate, List.getElem?_replicate, if_pos (by omega)]
  · rw [Array.getElem?_eq_none (by omega), List.getElem?_eq_none (by simp; omega)]

theorem wpIn_region_led {id : Nat} {l : List Oper} (vals : List (Nat × Value)) (hm : P.follows .mixedOrders = true) (hro : F.round = none) (hB : leadB l.toArray m = true)
    (hv : vals.map (fun p => some p.1) = (l.take m).map (·.dst))
    (hy : Runs P { a with tmps := putsL a.tmps vals } w.drew (l.take m))
    (hQ : wpAnyIn F n P .any l.toArray Q (l.length - m) (ledList l.length m) { a with tmps := putsL a.tmps vals } w.drew) :
    (Code.region id l.toArray true).wpIn F n P Q a w := by
  have hmm : m ≤ l.length := by
    unfold leadB at hB
    simp only [Bool.and_eq_true, decide_eq_true_eq] at hB
    simpa using hB.1.1.1
  refine wpIn_region_lead (a1 := { a with tmps := putsL a.tmps vals }) hm hro hB (putsL_size _ _) rfl ?_ ?_ ?_
  · intro t h
    refine putsL_other vals t _ fun p hp e => ?_
    have h1 : some p.1 ∈ vals.map (fun p => some p.1) := List.mem_map.2 ⟨p, hp, rfl⟩
    rw [hv] at h1
    obtain ⟨o, ho, hd⟩ := List.mem_map.1 h1
    obtain ⟨j, hj⟩ := List.mem_iff_getElem?.1 ho
    have hjm : j < m := by
      have := (List.getElem?_eq_some_iff.1 hj).1
      simp at this; omega
    refine h j hjm ?_
    rw [List.getElem?_take, if_pos hjm] at hj
    unfold dstOf
    simp [hj, hd, e]
  · intro i o d hi ho hd
    refine hy.get i o ?_ d hd
    rw [List.getElem?_take, if_pos hi]
    simpa using ho
  · intro listed hs h1 h2
    have := listed_eq (n := l.length) hmm (by simpa using hs) h1 h2
    subst this
    simpa using hQ

end Go.Abs
