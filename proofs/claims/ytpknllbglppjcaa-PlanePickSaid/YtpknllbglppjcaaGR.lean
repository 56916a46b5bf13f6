/- Texts merged: GR. -/
import Derived.Test.YtpknllbglppjcaaGQ
import Derived.Test.YtpknllbglppjcaaAwake
import Derived.OpenShut
import Derived.Deep.SlicePairs
import Derived.Test.YtpknllbglppjcaaKE
/- The abstract machine, part XD. -/
/- Walks: the reference's picked, blocks. -/
namespace Go.Proofs.Ytpknllbglppjcaa
open Go Go.RowKit Go.Proofs Go.Abs Go.Plain

end Go.Proofs.Ytpknllbglppjcaa

/- Walks: the reference's blocked. -/
namespace Go.Proofs.Ytpknllbglppjcaa
open Go Go.RowKit Go.Proofs Go.Abs Go.Plain

end Go.Proofs.Ytpknllbglppjcaa

/- Walks: the reference's Exit. -/
namespace Go.Proofs.Ytpknllbglppjcaa
open Go Go.RowKit Go.Proofs Go.Abs Go.Plain

end Go.Proofs.Ytpknllbglppjcaa

/- Walks: SameInts of equal lists; the law PlaneExits. -/
namespace Go.Proofs.Ytpknllbglppjcaa
open Go Go.RowKit Go.Proofs Go.Abs Go.Plain

end Go.Proofs.Ytpknllbglppjcaa

/- The law PlaneExits. -/
namespace Go.Proofs.Ytpknllbglppjcaa
open Go Go.RowKit Go.Proofs Go.Abs Go.Plain

end Go.Proofs.Ytpknllbglppjcaa

/- A slice of points that came in, opened. -/
namespace Go.Proofs.Ytpknllbglppjcaa
open Go Go.RowKit Go.Proofs Go.WideShapes Go.ChangeShapes Go.Deep

set_option maxRecDepth 100000 in
theorem slice_spot {W : World} {base : Nat} {a : Addr} {len cap : Nat} (hok : Value.okWide Try.prog W .any base 32 (.slice (some a) len cap)) : a.spot = none := by
  simp only [Value.okWide, Try.underlying32, Cell.okWide, Cell.ok] at hok
  exact hok.2.2.2.1

set_option maxRecDepth 100000 in
theorem slv_of {H : Type} {enc : TypeId × Value → H} {W : World} {base : Nat} {sp : Nat → Bool} {held : Bool} {v : Value} {d : DataW H} {p : List MemPlace} (hok : Value.okWide Try.prog W .any base 32 v)
    (h : DataW.Trod enc Try.prog W 0 sp held 32 v d p) : ∃ L, SlV W v L := by
  obtain ⟨a, len, cap, rfl⟩ := okWide_slice Try.underlying32 hok
  obtain ⟨m, hm⟩ := h
  rcases open_slice_pairs Try.underlying32 Try.underlying23 (by kernel_rfl) rfl rfl (by kernel_rfl) (by kernel_rfl) hm with ⟨hcs, -⟩ | ⟨a', len', cap', m', n', V0, V1, D0, D1, P0, P1, hcs, -, hl, hcap, hmm, -, hall⟩
  · have e : Value.slice a len cap = .slice none 0 0 := by simpa [Value.cells] using hcs
    simp only [Value.slice.injEq] at e
    obtain ⟨rfl, rfl, rfl⟩ := e
    exact ⟨[], none, 0, rfl, by simp, .inr ⟨rfl, rfl, rfl⟩⟩
  · have e : Value.slice a len cap = .slice (some a') len' cap' := by simpa [Value.cells] using hcs
    simp only [Value.slice.injEq] at e
    obtain ⟨rfl, rfl, rfl⟩ := e
    have hsp := slice_spot hok
    obtain ⟨b, off, s⟩ := a'
    simp only at hsp
    subst hsp
    have hlm : len ≤ m' := by rw [hmm]; split <;> omega
    have hlen : ((List.range len).map fun i => (intOf (V0 i), intOf (V1 i))).length = len := by simp
    refine ⟨(List.range len).map fun i => (intOf (V0 i), intOf (V1 i)), some ⟨b, off, none⟩, cap, by rw [hlen], by rw [hlen]; unfold maxLen at hcap; omega, .inl ⟨b, off, rfl, fun k hk => ?_⟩⟩
    rw [hlen] at hk
    obtain ⟨c0, c1, t0, t1⟩ := hall k (by omega)
    obtain ⟨x, ex, -, -⟩ := DataW.trod_int Try.underlying3 t0
    obtain ⟨y, ey, -, -⟩ := DataW.trod_int Try.underlying3 t1
    simp only [List.cons.injEq, and_true] at ex ey
    have hx : px ((List.range len).map fun i => (intOf (V0 i), intOf (V1 i))) k = x := by simp [px, hk, ex, intOf]
    have hy : py ((List.range len).map fun i => (intOf (V0 i), intOf (V1 i))) k = y := by simp [py, hk, ey, intOf]
    rw [hx, hy]
    rw [ex] at c0
    rw [ey] at c1
    rw [add_plain] at c0 c1
    exact ⟨c0, by simpa [Nat.add_assoc] using c1⟩

end Go.Proofs.Ytpknllbglppjcaa

/- The abstract machine, part XE. -/
/- Lists without one point; slices with room. -/
namespace Go.Proofs.Ytpknllbglppjcaa
open Go Go.RowKit Go.Proofs Go.Abs Go.Plain Go.WideShapes Go.ChangeShapes Go.Deep

def sk (i j : Nat) : Nat := if j < i then j else j + 1

theorem px_erase {A : List (Int × Int)} {i j : Nat} : px (A.eraseIdx i) j = px A (sk i j) ∧ py (A.eraseIdx i) j = py A (sk i j) := by
  unfold px py sk
  rw [List.getD_eq_getElem?_getD, List.getElem?_eraseIdx]
  split <;> simp [List.getD_eq_getElem?_getD]

end Go.Proofs.Ytpknllbglppjcaa

/- The law PlaneDirections: its parts. -/
namespace Go.Proofs.Ytpknllbglppjcaa
open Go Go.RowKit Go.Proofs Go.Abs Go.Plain

end Go.Proofs.Ytpknllbglppjcaa

/- The abstract machine, part RA. -/
/- Walks: the reference's points, at, less. -/
namespace Go.Proofs.Ytpknllbglppjcaa
open Go Go.RowKit Go.Proofs

/-- Less: by x, then by y. -/
def lessS (ax ay bx b_y : Int) : Bool := decide (ax < bx) || (decide (ax = bx) && decide (ay < b_y))

end Go.Proofs.Ytpknllbglppjcaa

/- Walks: the reference's sum. -/
namespace Go.Proofs.Ytpknllbglppjcaa
open Go Go.RowKit Go.Proofs

end Go.Proofs.Ytpknllbglppjcaa

/- The abstract machine, part RB. -/
/- Walks: the reference's simple. -/
namespace Go.Proofs.Ytpknllbglppjcaa
open Go Go.RowKit Go.Proofs

end Go.Proofs.Ytpknllbglppjcaa

/- Walks: the reference's ValidOutline. -/
namespace Go.Proofs.Ytpknllbglppjcaa
open Go Go.RowKit Go.Proofs

end Go.Proofs.Ytpknllbglppjcaa

/- The two tests of an outline are one. -/
namespace Go.Proofs.Ytpknllbglppjcaa
open Go Go.RowKit Go.Proofs

theorem firstS_neg {xs ys : Nat → Int} {n : Nat} : firstS xs ys n < 0 ↔ ∀ x, x < n → strK xs ys n x = false := by
  constructor
  · intro h x hx
    unfold firstS at h
    cases hf : (List.range n).find? (strK xs ys n) with
    | none => simpa using List.find?_eq_none.1 hf x (List.mem_range.2 hx)
    | some k => rw [hf] at h; simp at h; omega
  · intro h
    rw [firstS_none (fun x hx => h x (List.mem_range.1 hx))]
    omega

theorem cmpP_less (px py qx qy : Int) : cmpP px py qx qy < 0 ↔ lessS px py qx qy = true := by
  unfold cmpP lessS Lib.compareInt
  simp only [Bool.or_eq_true, Bool.and_eq_true, decide_eq_true_eq]
  repeat' split
  all_goals omega

theorem cross_same (ax ay bx b_y : Int) : cross ax ay bx b_y bx b_y = 0 := by
  unfold cross
  rw [Int.mul_comm (b_y - ay) (bx - ax)]
  omega

theorem meetS_shared (ax ay bx b_y dx dy : Int) : meetS ax ay bx b_y ax ay dx dy ≠ 0 := by
  have e : 1 ≤ (comUpto (both ax ay bx b_y ax ay dx dy) 4).length := by
    unfold both comUpto
    rw [onSeg_head, onSeg_last, onSeg_head, onSeg_last]
    simp only [List.take, List.foldl, Bool.and_self, Bool.and_true, Bool.true_and]
    cases onSeg bx b_y ax ay dx dy <;> cases onSeg dx dy ax ay bx b_y <;> simp [comStep] <;> grind
  rw [meetS_com]
  split
  · omega
  · rw [if_pos (by omega)]
    omega

end Go.Proofs.Ytpknllbglppjcaa

/- The abstract machine, part SA. -/
/- Walks: the reference's Laid, cornerLaid. -/
namespace Go.Proofs.Ytpknllbglppjcaa
open Go Go.RowKit Go.Proofs

end Go.Proofs.Ytpknllbglppjcaa

/- Walks: the reference's congruent. -/
namespace Go.Proofs.Ytpknllbglppjcaa
open Go Go.RowKit Go.Proofs

/-- How a corner bends: 1, 0 or -1. -/
def sgC (xs ys : Nat → Int) (n i : Nat) : Int := Lib.compareInt (cross (xs ((i + n - 1) % n)) (ys ((i + n - 1) % n)) (xs i) (ys i) (xs ((i + 1) % n)) (ys ((i + 1) % n))) 0

def congSg (xp yp xq yq : Nat → Int) (n s : Nat) (b : Bool) (i : Nat) : Prop := sgC xp yp n i = sgC xq yq n (layN n s b i)
instance (xp yp xq yq : Nat → Int) (n s : Nat) (b : Bool) (i : Nat) : Decidable (congSg xp yp xq yq n s b i) := by unfold congSg; infer_instance
end Go.Proofs.Ytpknllbglppjcaa

/- Both tests of congruence are one, for outlines. -/
namespace Go.Proofs.Ytpknllbglppjcaa
open Go Go.RowKit Go.Proofs

theorem vOut_str {L : List (Int × Int)} (h : vOut L = true) : ∀ i, i < L.length → strK (px L) (py L) L.length i = false := by
  unfold vOut at h
  simp only [Bool.and_eq_true, decide_eq_true_eq] at h
  exact firstS_neg.1 h.2.2.2.1

end Go.Proofs.Ytpknllbglppjcaa

