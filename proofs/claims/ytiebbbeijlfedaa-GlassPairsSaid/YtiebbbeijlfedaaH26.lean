/- Pairings of marks (plain): they do not depend on the order of the lists, stay with a greater slack, and pair each mark once. -/
import Derived.Test.YtiebbbeijlfedaaH25
namespace Go.Proofs.Ytiebbbeijlfedaa
open Go Go.RowKit Go.Proofs Go.Pairs

theorem runs1_symm (a b : M3) (s : Int) : runs1 b a s = runs1 a b s := by
  unfold runs1
  rw [show b.y + a.y = a.y + b.y by omega, Bool.beq_comm]

theorem runs1_mono {a b : M3} {s t : Int} (h : s ≤ t) (hr : runs1 a b s = true) : runs1 a b t = true := by
  unfold runs1 wi at *
  simp at *
  exact ⟨hr.1, by omega, by omega⟩

theorem opM_symm (A B : List M3) (s : Int) : opM B A s = opM A B s :=
  openT_symm (runsM A B s) _ _ A.length B.length tones (fun _ => rfl) (runsM B A s) (fun i k => runs1_symm (mq A i) (mq B k) s)

theorem okR_symm (A B : List M3) (s : Int) : okR B A s = okR A B s := by
  unfold okR
  rw [Bool.and_comm (vOne B)]

theorem runE_symm (A B : List M3) (s : Int) : runE B A s = runE A B s := by
  unfold runE
  rw [okR_symm, opM_symm]

theorem opM_mono {A B : List M3} {s t : Int} (h : s ≤ t) (ho : opM A B s = true) : opM A B t = true :=
  openT_mono _ _ _ _ _ _ (fun _ _ hr => runs1_mono h hr) ho

theorem okR_parts {A B : List M3} {s : Int} (h : okR A B s = true) : vOne A = true ∧ vOne B = true ∧ 0 ≤ s ∧ s ≤ 16 := by
  unfold okR wi at h
  rw [Bool.and_eq_true, Bool.and_eq_true] at h
  refine ⟨h.1.1, h.1.2, ?_⟩
  simpa using h.2

theorem opM_len {A B : List M3} {s : Int} (h : okR A B s = true) (ho : opM A B s = true) : B.length = A.length := by
  obtain ⟨vA, vB, -⟩ := okR_parts h
  rw [opM_match vA vB, Bool.and_eq_true] at ho
  exact of_decide_eq_true ho.2

theorem okR_more {A B : List M3} {s t : Int} (h : okR A B s = true) (h1 : s ≤ t) (h2 : t ≤ 16) : okR A B t = true := by
  obtain ⟨vA, vB, h0, -⟩ := okR_parts h
  unfold okR wi
  rw [vA, vB]
  simp
  omega

/-- What is paired so far. -/
def sofar (L : List Nat) (i : Nat) (k : Nat) : Bool := decide (k ∈ L.take i)
theorem sofar_zero (L : List Nat) (k : Nat) : sofar L 0 k = false := by simp [sofar]
theorem sofar_next {L : List Nat} {i : Nat} (h : i < L.length) (k : Nat) : sofar L (i + 1) k = if k = L.getD i 0 then true else sofar L i k := by
  have e0 : L.getD i 0 = L[i] := by simp [List.getD_eq_getElem?_getD, h]
  have hm : k ∈ L.take (i + 1) ↔ k ∈ L.take i ∨ k = L[i] := by rw [List.take_succ_eq_append_getElem h, List.mem_append, List.mem_singleton]
  unfold sofar
  rw [e0]
  by_cases e : k = L[i]
  · rw [if_pos e]
    exact decide_eq_true (hm.2 (.inr e))
  · rw [if_neg e]
    by_cases h2 : k ∈ L.take i
    · rw [decide_eq_true (hm.2 (.inl h2)), decide_eq_true h2]
    · rw [decide_eq_false (fun x => (hm.1 x).elim h2 e), decide_eq_false h2]

theorem gr_ok {A B : List M3} {s : Int} (h : okR A B s = true) (ho : opM A B s = true) {i : Nat} (hi : i < A.length) :
    (grM A B s).getD i 0 < B.length ∧ runs1 (mq A i) (mq B ((grM A B s).getD i 0)) s = true ∧ sofar (grM A B s) i ((grM A B s).getD i 0) = false := by
  obtain ⟨vA, -⟩ := okR_parts h
  obtain ⟨-, h1, -⟩ := vOne_facts vA
  have hl := gr_len vA ho
  have hg : (grM A B s)[i]? = some ((grM A B s).getD i 0) := by simp [List.getD_eq_getElem?_getD, show i < (grM A B s).length by omega]
  obtain ⟨q1, -, q3, q4⟩ := greedy_ok (runsM A B s) (fun i => (mq A i).z) (fun k => (mq B k).z) A.length B.length tones (fun i hi => tones_mem (h1 i hi).2) A.length 0 (fun _ => false) (Nat.zero_add _) ho i _ hg
  rw [Nat.zero_add] at q3
  refine ⟨q1, q3, ?_⟩
  unfold sofar
  exact decide_eq_false q4

theorem runs1_parts {a b : M3} {s : Int} (h : runs1 a b s = true) : a.z = b.z ∧ a.y + b.y - 16 ≤ s ∧ -s ≤ a.y + b.y - 16 := by
  unfold runs1 wi at h
  simp at h
  omega

end Go.Proofs.Ytiebbbeijlfedaa
