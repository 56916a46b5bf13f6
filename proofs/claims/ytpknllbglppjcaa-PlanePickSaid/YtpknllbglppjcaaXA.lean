/- The abstract machine, part XA. -/
import Derived.Test.YtpknllbglppjcaaWC
import Derived.Test.YtpknllbglppjcaaDA
import Derived.Test.YtpknllbglppjcaaQB
import Derived.Lib.Hide
import Derived.BigQuiet
import Derived.Deep.QuietTactic
import Derived.Test.YtpknllbglppjcaaKA
import Derived.Deep.MidRow
import Derived.Test.YtpknllbglppjcaaK4
/- Walks: gcd, within, validNormal; the reference's abs, gcd, Normal. -/
namespace Go.Proofs.Ytpknllbglppjcaa
open Go Go.RowKit Go.Proofs

theorem ret_num1 {k : IntKind} {a b : Int} (h : a = b) : Ending.returned (.int k a) = .returned (.int k b) := by rw [h]

theorem tmod_small {a b : Int} (ha : Small a) (_ : Small b) : Small (a.tmod b) := by
  unfold Small at *
  have h := Int.natAbs_tmod a b
  have h2 := Nat.mod_le a.natAbs b.natAbs
  omega

theorem below_dn {B : Nat} {a w : World} (h : Below B a w) (n : Nat) : Below B a (w.drewN n) := h.trans ⟨rfl, rfl, rfl, Nat.le_refl _, fun _ _ => rfl⟩

set_option maxHeartbeats 1000000 in
theorem gcd_any (x y : Int) (w : World) (hx : Small x) (hy : Small y) :
    Calls Try.prog 99 #[.int .i64 x, .int .i64 y] w fun e w' => e = .returned (.int .i64 (Int.gcd x y)) ∧ Below w.heap.size w w' := by
  go_enter Try.func99, Try.ntmps99
  go_wp2_with fail
  go_loopw [0, 1] (fun p q wr => ∃ a b : Int, p = .int .i64 a ∧ q = .int .i64 b ∧ Small a ∧ Small b ∧ Below w.heap.size w wr ∧ Int.gcd a b = Int.gcd x y) (fun _ q _ => (intOf q).natAbs)
  case atStart => exact ⟨x, y, rfl, rfl, hx, hy, Below.refl _ _, rfl⟩
  case round =>
    obtain ⟨a, b, rfl, rfl, ha, hb, hbel, hg⟩ := hrel
    have HG := Lib.hid hg
    clear hg
    have M0 := Lib.hid (tmod_small ha hb)
    have HA := Lib.hid ha
    have HB := Lib.hid hb
    unfold Small at ha hb
    obtain ⟨a1, a2⟩ := ha
    obtain ⟨b1, b2⟩ := hb
    by_cases hz : b = 0
    · subst hz
      have hm : Hid ((Int.gcd x y : Int) = max a (-a)) := Lib.hid (by rw [← HG.out]; exact Plain.gcd_zero a)
      go_wp2
      all_goals
        go_ret
        refine ⟨ret_num1 ?_, hbel⟩
        rw [hm.out]
        omega
    · have HM := Lib.hid (Plain.gcd_step a b)
      have HL := Lib.hid (Plain.tmod_less (a := a) hz)
      go_wp2_with fail
      go_quiet (fail)
      go_wp2
      refine ⟨⟨b, a.tmod b, rfl, rfl, HB.out, M0.out, below_dn hbel _, by rw [HM.out, HG.out]⟩, ?_⟩
      simpa [intOf] using HL.out

end Go.Proofs.Ytpknllbglppjcaa

/- A point in a block of its own; results that lie in a cell. -/
namespace Go.Proofs.Ytpknllbglppjcaa
open Go Go.RowKit Go.Proofs

theorem put_heap {w : World} {b k : Nat} {c : Array Value} {t : TypeId} {fr : Nat × Nat} (v : Value) (h : w.heap[b]? = some (.cells c t fr)) :
    (w.setCell ⟨b, k, none⟩ v).heap[b]? = some (.cells (c.setIfInBounds k v) t fr) := by
  obtain ⟨hlt, hk⟩ := Array.getElem?_eq_some_iff.1 h
  show (w.heap.modify b _)[b]? = _
  rw [Array.getElem?_eq_getElem (by rw [Array.size_modify]; exact hlt), Array.getElem_modify_self, hk]
  rfl

theorem cell_at {w : World} {b k : Nat} {c : Array Value} {t : TypeId} {fr : Nat × Nat} {v : Value} (h : w.heap[b]? = some (.cells c t fr)) (hv : c[k]? = some v) : w.cell? ⟨b, k, none⟩ = some v := by
  unfold World.cell?
  simp [h, hv]

theorem thaw_at {w : World} {b k : Nat} {c : Array Value} {t : TypeId} (h : w.heap[b]? = some (.cells c t (0, 0))) : w.frozen? ⟨b, k, none⟩ = false := by
  unfold World.frozen?
  simp [h]

theorem heap_old (w : World) (o : Obj) {k : Nat} (h : k < w.heap.size) : (w.alloc o).heap[k]? = w.heap[k]? := by
  show (w.heap.push o)[k]? = _
  rw [Array.getElem?_push_lt h, Array.getElem?_eq_getElem h]

/-- A point lies in a block of its own. -/
def Pb (w : World) (b : Nat) (x y : Int) : Prop := w.heap[b]? = some (.cells #[.int .i64 x, .int .i64 y] 23 (0, 0))

theorem Pb.c0 {w : World} {b : Nat} {x y : Int} (h : Pb w b x y) : w.cell? ⟨b, 0, none⟩ = some (.int .i64 x) := cell_at h rfl
theorem Pb.c1 {w : World} {b : Nat} {x y : Int} (h : Pb w b x y) : w.cell? ⟨b, 1, none⟩ = some (.int .i64 y) := cell_at h rfl
theorem Pb.f {w : World} {b : Nat} {x y : Int} (h : Pb w b x y) (k : Nat) : w.frozen? ⟨b, k, none⟩ = false := thaw_at h
theorem Pb.lt {w : World} {b : Nat} {x y : Int} (h : Pb w b x y) : b < w.heap.size := (Array.getElem?_eq_some_iff.1 h).1
theorem Pb.keep {w w' : World} {b : Nat} {x y : Int} (h : Pb w b x y) (hb : Below w.heap.size w w') : Pb w' b x y := (hb.block b h.lt).trans h
theorem Pb.set {w : World} {b : Nat} {x y : Int} (h : Pb w b x y) (x' y' : Int) : Pb ((w.setCell ⟨b, 0, none⟩ (.int .i64 x')).setCell ⟨b, 1, none⟩ (.int .i64 y')) b x' y' :=
  put_heap _ (put_heap _ h)
theorem Pb.other {w : World} {b c k : Nat} {x y : Int} (h : Pb w b x y) (v : Value) (hn : b ≠ c) : Pb (w.setCell ⟨c, k, none⟩ v) b x y := (Below.heap_setCell _ _ _ _ hn).trans h
theorem Pb.new (w : World) (x y : Int) : Pb (w.alloc (.cells #[.int .i64 x, .int .i64 y] 23)) w.heap.size x y := World.alloc_heap_new _ _
theorem Pb.alloc {w : World} {b : Nat} {x y : Int} (h : Pb w b x y) (o : Obj) : Pb (w.alloc o) b x y := (heap_old w o h.lt).trans h

theorem range_at {w : World} {b : Nat} {cs : List Value} {t : TypeId} (h : w.heap[b]? = some (.cells cs.toArray t (0, 0))) : w.rangeAt b 0 cs := by
  intro j v hv
  rw [Nat.zero_add]
  exact cell_at h (by simpa using hv)

theorem Pb.load {w : World} {b : Nat} {x y : Int} (h : Pb w b x y) : (loadVar 23 ⟨b, 0, none⟩).run Try.prog w = .ok (pt x y) w :=
  run_loadVar_mid (P := Try.prog) w b 0 23 [.int .i64 x, .int .i64 y] _ (range_at h) Try.underlying23 rfl (by kernel_rfl)

end Go.Proofs.Ytpknllbglppjcaa

/- Walks: freeDirection. -/
namespace Go.Proofs.Ytpknllbglppjcaa
open Go Go.RowKit Go.Proofs

end Go.Proofs.Ytpknllbglppjcaa
