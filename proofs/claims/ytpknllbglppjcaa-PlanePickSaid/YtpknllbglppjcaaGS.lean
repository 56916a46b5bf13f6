/- Texts merged: GS. -/
import Derived.Test.YtpknllbglppjcaaMA
import Derived.Test.YtpknllbglppjcaaMC
import Derived.Test.YtpknllbglppjcaaGR
import Derived.Test.YtpknllbglppjcaaWB
import Derived.Test.YtpknllbglppjcaaKA
import Derived.Test.YtpknllbglppjcaaQB
import Derived.Deep.RegionLaw
import Derived.Test.YtpknllbglppjcaaMD
import Derived.Test.YtpknllbglppjcaaG2
import Derived.Test.YtpknllbglppjcaaAwake
import Derived.Deep.AppendLies
import Derived.Test.YtpknllbglppjcaaGQ
/- The abstract machine, part NB. -/
/- Walks: flat. -/
namespace Go.Proofs.Ytpknllbglppjcaa
open Go Go.RowKit Go.Proofs Go.Abs Go.Plain

/-- A slice in a block of its own. -/
def Sl1 (w : World) (b : Nat) (v : Value) : Prop := w.heap[b]? = some (.cells #[v] 32 (0, 0))
theorem Sl1.lt {w : World} {b : Nat} {v : Value} (h : Sl1 w b v) : b < w.heap.size := (Array.getElem?_eq_some_iff.1 h).1
theorem Sl1.c0 {w : World} {b : Nat} {v : Value} (h : Sl1 w b v) : w.cell? ⟨b, 0, none⟩ = some v := cell_at h rfl
theorem Sl1.keep {w w' : World} {b : Nat} {v : Value} (h : Sl1 w b v) (hb : Below w.heap.size w w') : Sl1 w' b v := (hb.block b h.lt).trans h
theorem Sl1.new (w : World) (v : Value) : Sl1 (w.alloc (.cells #[v] 32)) w.heap.size v := World.alloc_heap_new _ _

end Go.Proofs.Ytpknllbglppjcaa

/- Walks: flat, the program's and the reference's. -/
namespace Go.Proofs.Ytpknllbglppjcaa
open Go Go.RowKit Go.Proofs Go.Abs Go.Plain

end Go.Proofs.Ytpknllbglppjcaa

/- Walks: the reference's flat. -/
namespace Go.Proofs.Ytpknllbglppjcaa
open Go Go.RowKit Go.Proofs Go.Abs Go.Plain

end Go.Proofs.Ytpknllbglppjcaa

/- Walks: repeated, first at repeated. -/
namespace Go.Proofs.Ytpknllbglppjcaa
open Go Go.RowKit Go.Proofs Go.Shelf

attribute [local go_sem] Oper.semAt_some

end Go.Proofs.Ytpknllbglppjcaa

/- The abstract machine, part NC. -/
/- Walks: Delete of one point out of a row of one's own. -/
namespace Go.Proofs.Ytpknllbglppjcaa
open Go Go.RowKit Go.Proofs Go.Abs Go.Plain

end Go.Proofs.Ytpknllbglppjcaa

/- Walks: leaveOut. -/
namespace Go.Proofs.Ytpknllbglppjcaa
open Go Go.RowKit Go.Proofs Go.Abs Go.Plain

theorem AllSm.erase {L : Pl} (h : AllSm L) (i : Nat) : AllSm (L.eraseIdx i) := fun j => by
  have e := px_erase (A := L) (i := i) (j := j)
  rw [e.1, e.2]
  exact h _

end Go.Proofs.Ytpknllbglppjcaa

/- The abstract machine, part SB. -/
/- Walks: the reference's All. -/
namespace Go.Proofs.Ytpknllbglppjcaa
open Go Go.RowKit Go.Proofs

end Go.Proofs.Ytpknllbglppjcaa

/- Walks: the reference's Settings. -/
namespace Go.Proofs.Ytpknllbglppjcaa
open Go Go.RowKit Go.Proofs

end Go.Proofs.Ytpknllbglppjcaa

/- Walks: SameSettings of equal lists. -/
namespace Go.Proofs.Ytpknllbglppjcaa
open Go Go.RowKit Go.Proofs

end Go.Proofs.Ytpknllbglppjcaa

/- The abstract machine, part SC. -/
/- Walks: the reference's Compose, Inverse, Edge of valid settings. -/
namespace Go.Proofs.Ytpknllbglppjcaa
open Go Go.RowKit Go.Proofs

end Go.Proofs.Ytpknllbglppjcaa

/- Walks: Compose, Inverse, Edge of any settings, the program's and the reference's. -/
namespace Go.Proofs.Ytpknllbglppjcaa
open Go Go.RowKit Go.Proofs

end Go.Proofs.Ytpknllbglppjcaa

/- The law of settings. -/
namespace Go.Proofs.Ytpknllbglppjcaa
open Go Go.RowKit Go.Proofs

structure St2 (w : World) (s : Int) (b : Bool) (t : Int) (c : Bool) (w' : World) : Prop where
  bel : Below w.heap.size w w'
  n : w.heap.size + 2 ≤ w'.heap.size
  c0 : w'.cell? ⟨w.heap.size, 0, none⟩ = some (.int .i64 s)
  c1 : w'.cell? ⟨w.heap.size, 1, none⟩ = some (.bool b)
  c2 : w'.cell? ⟨w.heap.size + 1, 0, none⟩ = some (.int .i64 t)
  c3 : w'.cell? ⟨w.heap.size + 1, 1, none⟩ = some (.bool c)

theorem St2.keep {w w1 w2 : World} {s t : Int} {b c : Bool} (h : St2 w s b t c w1) (hb : Below w1.heap.size w1 w2) : St2 w s b t c w2 :=
  ⟨keep_below h.bel hb, Nat.le_trans h.n hb.size, keep_cell hb h.c0, keep_cell hb h.c1, keep_cell hb h.c2, keep_cell hb h.c3⟩

theorem St2.start (w : World) (s : Int) (b : Bool) (t : Int) (c : Bool) : St2 w s b t c ((w.alloc (stObj s b)).alloc (stObj t c)) := by
  have s1 : ∀ (v : World) (o : Obj), (v.alloc o).heap.size = v.heap.size + 1 := fun v o => by simp
  have n1 := st_new w s b
  have n2 := st_new (w.alloc (stObj s b)) t c
  simp only [s1] at n2
  exact ⟨((Below.refl _ _).alloc (by simp) _).alloc (by simp) _, by simp, pt_old _ _ n1.1, pt_old _ _ n1.2, n2.1, n2.2⟩

end Go.Proofs.Ytpknllbglppjcaa

/- The abstract machine, part ME. -/
/- Walks: the reference's placed. -/
namespace Go.Proofs.Ytpknllbglppjcaa
open Go Go.RowKit Go.Proofs Go.Abs Go.Plain

end Go.Proofs.Ytpknllbglppjcaa

/- Walks: the reference's Move. -/
namespace Go.Proofs.Ytpknllbglppjcaa
open Go Go.RowKit Go.Proofs Go.Abs Go.Plain

end Go.Proofs.Ytpknllbglppjcaa

/- Walks: Outline. -/
namespace Go.Proofs.Ytpknllbglppjcaa
open Go Go.RowKit Go.Proofs Go.Abs Go.Plain

theorem Two.eraseN : ∀ (f : Nat) {L : Pl}, Two L → Two (eraseN repK f L)
  | 0, _, h => h
  | f + 1, L, h => by
    show Two (match (List.range L.length).find? (repK L) with | none => L | some k => Go.Proofs.Ytpknllbglppjcaa.eraseN repK f (L.eraseIdx k))
    cases hf : (List.range L.length).find? (repK L) with
    | none => exact h
    | some k =>
      have h1 := List.find?_some hf
      have h2 := List.mem_range.1 (List.mem_of_find?_eq_some hf)
      exact Two.eraseN f (h.erase h2 h1)

theorem Two.leave {L : Pl} (h : Two L) : Two (leaveL repK L) := Two.eraseN _ h

end Go.Proofs.Ytpknllbglppjcaa

/- Walks: the reference's without, straight. -/
namespace Go.Proofs.Ytpknllbglppjcaa
open Go Go.RowKit Go.Proofs Go.Abs Go.Plain

end Go.Proofs.Ytpknllbglppjcaa

/- Walks: the reference's straight. -/
namespace Go.Proofs.Ytpknllbglppjcaa
open Go Go.RowKit Go.Proofs Go.Abs Go.Plain

end Go.Proofs.Ytpknllbglppjcaa

/- Walks: the reference's Outline. -/
namespace Go.Proofs.Ytpknllbglppjcaa
open Go Go.RowKit Go.Proofs Go.Abs Go.Plain

end Go.Proofs.Ytpknllbglppjcaa

/- Walks: Area, Bends. -/
namespace Go.Proofs.Ytpknllbglppjcaa
open Go Go.RowKit Go.Proofs Go.Abs Go.Plain

/-- What Area answers. -/
def arV (L : Pl) : Value := if vOut L then .tuple #[.int .i64 (sumL L), .int .i64 0] else .tuple #[.int .i64 0, .int .i64 1]

theorem vOut_pts {w : World} {v : Value} {L : Pl} (h : SlV w v L) (hv : vOut L = true) : ∃ b off cap, v = .slice (some ⟨b, off, none⟩) L.length cap ∧ PtsAt w b off L := by
  obtain ⟨a, cap, rfl, hl, ⟨b, off, rfl, hp⟩ | ⟨rfl, rfl, rfl⟩⟩ := h
  · exact ⟨b, off, cap, rfl, hp⟩
  · cases hv

set_option maxRecDepth 100000 in
set_option maxHeartbeats 2000000 in
theorem area_sl {w : World} {v : Value} {L : Pl} (h : SlV w v L) : Calls Try.prog 31 #[v] w fun e w' => e = .returned (arV L) ∧ Below w.heap.size w w' := by
  have C1 := vOut_sl h
  cases hv : vOut L
  · rw [hv] at C1
    have HV : Hid (arV L = .tuple #[.int .i64 0, .int .i64 1]) := Lib.hid (by unfold arV; rw [hv]; rfl)
    clear h hv
    go_enter Try.func31, Try.ntmps31
    go_wp2_with fail
    refine C1.mono ?_
    rintro e w1 ⟨rfl, hb⟩
    go_wp2
    go_ret2
    exact ⟨by rw [HV.out]; rfl, hb⟩
  · rw [hv] at C1
    have HV : Hid (arV L = .tuple #[.int .i64 (sumL L), .int .i64 0]) := Lib.hid (by unfold arV; rw [hv]; rfl)
    obtain ⟨b, off, cap, rfl, hp⟩ := vOut_pts h hv
    obtain ⟨h3, h24, hvp⟩ := vOut_n hv
    have hsm := vPts_small hvp
    have C2 := fun w' (hb : Below w.heap.size w w') => calls_wide_doubled b off L.length cap (px L) (py L) (by omega) hsm w' (hp.keep hb) ((hp.keep hb).lt (by omega))
    rw [show sumD (px L) (py L) L.length (List.range L.length) = sumL L from rfl] at C2
    obtain ⟨s, hs⟩ : ∃ s, sumL L = s := ⟨_, rfl⟩
    rw [hs] at C2 HV
    clear h hv hp hs hsm hvp
    go_enter Try.func31, Try.ntmps31
    go_wp2_with fail
    refine C1.mono ?_
    rintro e w1 ⟨rfl, hb⟩
    go_wp2_with fail
    refine (C2 w1 hb).mono ?_
    rintro e w2 ⟨rfl, hb2⟩
    have b2 := keep_below hb hb2
    go_wp2
    go_ret2
    exact ⟨by rw [HV.out]; rfl, b2⟩

end Go.Proofs.Ytpknllbglppjcaa

