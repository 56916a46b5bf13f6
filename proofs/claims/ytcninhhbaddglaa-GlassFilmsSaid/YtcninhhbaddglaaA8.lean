/- Walks: law 8. -/
import Derived.Test.YtcninhhbaddglaaA7
import Derived.Test.YtcninhhbaddglaaAwake
import Derived.BigQuiet
namespace Go.Proofs.Ytcninhhbaddglaa
open Go Go.RowKit Go.Proofs

set_option maxRecDepth 100000 in
set_option maxHeartbeats 2000000 in
theorem colours_bad (id : Int) (v : Value) (L : List Int) (lo hi : Int) (w : World) (h : SlI w v L) (hv : vFilm id L = false) :
    Calls Try.prog 30 #[film id v, spn lo hi] w fun e w' => e = .returned (.tuple #[.slice none 0 0, .int .i64 32]) ∧ Below w.heap.size w w' := by
  have b0 : Below w.heap.size w ((w.alloc (filmObj id v)).alloc (spnObj lo hi)) := ((Below.refl _ _).alloc (Nat.le_refl _) _).alloc (by simp) _
  have C1 := validFilm_any id v L _ (h.keep b0)
  rw [hv] at C1
  go_enter Try.func30, Try.ntmps30
  go_wp2_with fail
  refine C1.mono ?_
  rintro e w1 ⟨rfl, hb⟩
  go_wp2
  go_ret2
  exact ⟨rfl, keep_below b0 hb⟩

def colsI (L : List Int) (lo hi : Int) : List Int := ((List.range 16).filter (seen L lo hi)).map fun (j : Nat) => (j : Int) + 1

theorem cols_eq (L : List Int) (lo hi : Int) : colsTo L lo hi 16 = (colsI L lo hi).map fun x => .int .i64 x := by
  unfold colsTo colsI
  rw [List.map_map]
  rfl

theorem SlI.own {w : World} {base : Nat} {v : Value} {LL : List Int} (h : w.ownsRow base 3 1 v LL.length (LL.map fun x => .int .i64 x)) (hs : LL.length ≤ 100) : SlI w v LL := by
  rcases h.2 with ⟨rfl, h0⟩ | ⟨g, cap, cur, rfl, -, hg, hn, -, hsz, ht⟩
  · exact ⟨none, 0, by rw [h0], by omega, fun k hk => by omega⟩
  · refine ⟨_, cap, rfl, by omega, fun k hk => ⟨g, 0, rfl, ?_⟩⟩
    rw [Nat.zero_add]
    refine cell_of hg ?_
    have h1 : (LL.map fun x => Value.int .i64 x)[k]? = some (.int .i64 (iz LL k)) := by
      rw [List.getElem?_map, List.getElem?_eq_getElem hk]
      unfold iz
      rw [List.getD_eq_getElem?_getD, List.getElem?_eq_getElem hk]
      rfl
    rw [← ht, List.getElem?_take_of_lt (by omega)] at h1
    rwa [Array.getElem?_toList] at h1

theorem colsI_len (L : List Int) (lo hi : Int) : (colsI L lo hi).length ≤ 16 := by
  have := cols_len L lo hi 16
  rwa [cols_eq, List.length_map] at this

def fnd (LL : List Int) (x : Int) (k : Nat) : Bool := (List.range k).any fun j => iz LL j == x
def allf (LL cs : List Int) (i : Nat) : Bool := (List.range i).all fun t => fnd LL (iz cs t) LL.length

theorem fnd_succ (LL : List Int) (x : Int) (k : Nat) : fnd LL x (k + 1) = (fnd LL x k || (iz LL k == x)) := by
  unfold fnd
  rw [List.range_succ, List.any_append]
  simp

theorem allf_succ (LL cs : List Int) (i : Nat) : allf LL cs (i + 1) = (allf LL cs i && fnd LL (iz cs i) LL.length) := by
  unfold allf
  rw [List.range_succ, List.all_append]
  simp

theorem fnd_iff (L : List Int) (lo hi : Int) (m : Nat) (hm : m < 16) : fnd (colsI L lo hi) ((m : Int) + 1) (colsI L lo hi).length = seen L lo hi m := by
  rw [Bool.eq_iff_iff]
  unfold fnd
  rw [List.any_eq_true]
  constructor
  · rintro ⟨k, hk, he⟩
    have hk := List.mem_range.1 hk
    have e1 : iz (colsI L lo hi) k = (m : Int) + 1 := by simpa using he
    have e2 : (colsI L lo hi)[k] = (m : Int) + 1 := by
      rw [← e1]; unfold iz; rw [List.getD_eq_getElem?_getD, List.getElem?_eq_getElem hk]; rfl
    have e3 : (colsI L lo hi)[k] ∈ colsI L lo hi := List.getElem_mem hk
    rw [e2] at e3
    unfold colsI at e3
    rw [List.mem_map] at e3
    obtain ⟨j, hj, ej⟩ := e3
    have : j = m := by omega
    subst this
    exact (List.mem_filter.1 hj).2
  · intro hs
    have : ((m : Int) + 1) ∈ colsI L lo hi := by
      unfold colsI
      rw [List.mem_map]
      exact ⟨m, List.mem_filter.2 ⟨List.mem_range.2 hm, hs⟩, rfl⟩
    obtain ⟨k, hk, e⟩ := List.getElem_of_mem this
    refine ⟨k, List.mem_range.2 hk, ?_⟩
    unfold iz
    rw [List.getD_eq_getElem?_getD, List.getElem?_eq_getElem hk, e]
    simp

/-- Adjoint: all colours are found if and only if their least span lies in the span. -/
theorem adjoint {L cs : List Int} {lo hi slo shi : Int} (hG : Got L cs cs.length slo shi) (hc : ∀ i, i < cs.length → 1 ≤ iz cs i ∧ iz cs i ≤ 16) :
    slo ≤ shi ∧ (allf (colsI L lo hi) cs cs.length = true ↔ lo ≤ slo ∧ shi ≤ hi) := by
  obtain ⟨h1, ⟨i1, hi1, e1⟩, ⟨i2, hi2, e2⟩, h4⟩ := hG
  have key : ∀ i, i < cs.length → (fnd (colsI L lo hi) (iz cs i) (colsI L lo hi).length = true ↔ lo ≤ gr L (mz cs i) ∧ gr L (mz cs i) ≤ hi) := by
    intro i hi'
    obtain ⟨e, hm⟩ := mz_spec (hc i hi')
    rw [e, fnd_iff _ _ _ _ hm]
    have hg := (h4 i hi').1
    unfold gr at hg ⊢
    unfold seen wi
    by_cases hl : mz cs i < L.length
    · simp [hl]
    · rw [if_neg hl] at hg
      exact absurd rfl hg
  refine ⟨h1, ?_⟩
  unfold allf
  rw [List.all_eq_true]
  constructor
  · intro h
    have a1 := (key i1 hi1).1 (h i1 (List.mem_range.2 hi1))
    have a2 := (key i2 hi2).1 (h i2 (List.mem_range.2 hi2))
    omega
  · intro h i hi'
    have hi' := List.mem_range.1 hi'
    have := h4 i hi'
    exact (key i hi').2 (by omega)

end Go.Proofs.Ytcninhhbaddglaa
