/- The abstract machine, part GA. -/
import Derived.Test.YtiebbbeijlfedaaWA
import Derived.Lib.Hide
/- Settings: the plain law. -/
namespace Go.Plain

/-- The edge on which a setting lays an edge. -/
def ed (sh : Int) (b : Bool) (n i : Int) : Int :=
  if b then (if sh - i < 0 then sh - i + n else sh - i) else (if sh + i < n then sh + i else sh + i - n)

theorem ed_range {sh n i : Int} {b : Bool} (h1 : 0 ≤ sh) (h2 : sh < n) (h3 : 0 ≤ i) (h4 : i < n) : 0 ≤ ed sh b n i ∧ ed sh b n i < n := by
  unfold ed; cases b <;> simp <;> split <;> omega

theorem mod_lo {x n : Int} (h0 : 0 ≤ x) (h : x < n) : x % n = x := Int.emod_eq_of_lt h0 h

theorem mod_hi {x n : Int} (h0 : n ≤ x) (h : x < 2 * n) : x % n = x - n := by
  have e : x = (x - n) + n := by omega
  rw [e, Int.add_emod_right, Int.emod_eq_of_lt (by omega) (by omega)]
  omega

theorem ed_back {sh n i : Int} (h1 : 0 ≤ sh) (h2 : sh < n) (h3 : 0 ≤ i) (h4 : i < n) : (sh - i + n) % n = ed sh true n i := by
  unfold ed
  simp only [if_true]
  split
  · rw [mod_lo] <;> omega
  · rw [mod_hi] <;> omega

theorem ed_forth {sh n i : Int} (h1 : 0 ≤ sh) (h2 : sh < n) (h3 : 0 ≤ i) (h4 : i < n) : (sh + i) % n = ed sh false n i := by
  unfold ed
  simp only [Bool.false_eq_true, if_false]
  split
  · rw [mod_lo] <;> omega
  · rw [mod_hi] <;> omega

theorem ed_ed {s t n i : Int} {b c : Bool} (_h1 : 0 ≤ s) (_h2 : s < n) (h3 : 0 ≤ t) (h4 : t < n) (h5 : 0 ≤ i) (h6 : i < n) :
    ed t c n (ed s b n i) = ed (ed t c n s) (b != c) n i := by
  unfold ed
  cases b <;> cases c <;> simp <;> (repeat' split) <;> omega

theorem ed_zero {s n : Int} {b : Bool} (h1 : 0 ≤ s) (h2 : s < n) : ed s b n 0 = s := by
  unfold ed
  cases b <;> simp <;> (intros; omega)

theorem zero_ed {s n : Int} (_h1 : 0 ≤ s) (h2 : s < n) : ed 0 false n s = s := by
  unfold ed
  simp; omega

def inv (s : Int) (b : Bool) (n : Int) : Int := if b then s else (if s = 0 then 0 else n - s)

theorem inv_range {s n : Int} {b : Bool} (h1 : 0 ≤ s) (h2 : s < n) : 0 ≤ inv s b n ∧ inv s b n < n := by
  unfold inv; cases b <;> simp <;> (try split) <;> omega

theorem inv_forth {s n : Int} (h1 : 0 ≤ s) (h2 : s < n) : (n - s) % n = inv s false n := by
  unfold inv
  simp only [Bool.false_eq_true, if_false]
  split
  · rw [mod_hi] <;> omega
  · rw [mod_lo] <;> omega

theorem inv_ed {s n : Int} {b : Bool} (_h1 : 0 ≤ s) (h2 : s < n) : ed (inv s b n) b n s = 0 := by
  unfold ed inv
  cases b <;> simp <;> (repeat' split) <;> omega

end Go.Plain

/- Walks: settings. -/
namespace Go.Proofs.Ytiebbbeijlfedaa
open Go Go.RowKit Go.Proofs

abbrev st (s : Int) (b : Bool) : Value := .agg #[.int .i64 s, .bool b]

def vset (s n : Int) : Bool := decide (3 ≤ n) && decide (n ≤ 24) && decide (0 ≤ s) && decide (s < n)

abbrev stObj (s : Int) (b : Bool) : Obj := .cells #[.int .i64 s, .bool b] 85

theorem st_new (w : World) (s : Int) (b : Bool) : (w.alloc (stObj s b)).cell? ⟨w.heap.size, 0, none⟩ = some (.int .i64 s) ∧ (w.alloc (stObj s b)).cell? ⟨w.heap.size, 1, none⟩ = some (.bool b) := by
  constructor <;> go_simp

theorem ret_intP {k : IntKind} {a b : Int} (h : a = b) : Ending.returned (.int k a) = .returned (.int k b) := by rw [h]

end Go.Proofs.Ytiebbbeijlfedaa
