/- The abstract machine, part GrB5. -/
import Derived.Test.YtcgmmfcphfkdhaaGreatB4
import Derived.Test.YtcgmmfcphfkdhaaGreatVG
import Derived.RegionTactic
import Derived.BigQuiet
import Derived.WalkMore
import Derived.Maps.AppendAt
import Derived.Test.YtcgmmfcphfkdhaaGreatT1
/- Walks: checked. -/
namespace Go.Proofs.YtcgmmfcphfkdhaaGreat
open Go Go.RowKit Go.Proofs Go.Torn Go.Abs

end Go.Proofs.YtcgmmfcphfkdhaaGreat

/- Walks: Scan: slices of slices. -/
namespace Go.Proofs.YtcgmmfcphfkdhaaGreat
open Go Go.RowKit Go.Proofs Go.Torn Go.Abs

theorem own_SlB {w : World} {base : Nat} {v : Value} {x : List Nat} (h : w.ownsRow base 5 1 v x.length (bc x)) (hl : x.length ≤ 1000000000) : SlB w v x ∧ (∀ j, v.ownBlock = some j → base ≤ j ∧ j < w.heap.size) ∧ v.oneCell' = true := by
 refine ⟨?_, h.lt, ?_⟩
 ·rcases h.2 with ⟨rfl, h0⟩ | ⟨g, cap, cur, rfl, -⟩
  ·exact ⟨none, 0, by rw [h0], ⟨by omega, fun _ => rfl⟩, fun hp => by omega⟩
  ·refine ⟨some ⟨g, 0, none⟩, cap, rfl, ⟨Nat.le_trans hl (by decide), fun hh => by cases hh⟩, fun _ => ⟨g, 0, rfl, fun k hk => ?_⟩⟩
   rw [Nat.zero_add, h.cellAt k (by omega)]
   simp [bc, List.getD, hk]
 ·rcases h.2 with ⟨rfl, -⟩ | ⟨g, cap, cur, rfl, -⟩ <;> rfl

end Go.Proofs.YtcgmmfcphfkdhaaGreat

/- Walks: Scan. -/
namespace Go.Proofs.YtcgmmfcphfkdhaaGreat
open Go Go.RowKit Go.Proofs Go.Torn Go.Abs

end Go.Proofs.YtcgmmfcphfkdhaaGreat

/- Walks: SameBytes. -/
namespace Go.Proofs.YtcgmmfcphfkdhaaGreat
open Go Go.RowKit Go.Proofs Go.Torn Go.Abs

end Go.Proofs.YtcgmmfcphfkdhaaGreat

/- Journals, plainly: what a scan of a journal finds, whole and with one bit inverted. -/
namespace Go.Torn

end Go.Torn

/- Walks: the journal that grows, and where its records end. -/
namespace Go.Proofs.YtcgmmfcphfkdhaaGreat
open Go Go.RowKit Go.Proofs Go.Torn Go.Abs

structure Jr (base : Nat) (W : World) (d e : Value) (D : List Nat) (E : List Nat) : Prop where
 data : W.ownsRow base 5 1 d D.length (bc D)
 ends : W.ownsRow base 3 1 e E.length (E.map fun n => Value.int .i64 (n : Nat))
 far : e.ownBlock = none ∨ e.ownBlock ≠ d.ownBlock

theorem own_keep {base e size n : Nat} {W W' : World} {v : Value} {xs : List Value} (h : W.ownsRow base e size v n xs) (hb : Below W.heap.size W W') : W'.ownsRow base e size v n xs := by
 refine h.kept (row := none) ⟨hb.os, hb.tape, hb.output, hb.size, fun k hk _ => hb.block k hk⟩ ?_
 cases hv : v.ownBlock with
 | none => exact .inl rfl
 | some _ => exact .inr (by simp)

theorem info3 : (Tryz.prog.info? 3).map (fun i => (i.zero, i.size, i.bytes)) = some (some (.int .i64 0), 1, 8) := by kernel_rfl

end Go.Proofs.YtcgmmfcphfkdhaaGreat

/- Walks: Scan of a journal of one's own; one byte of it stored into. -/
namespace Go.Proofs.YtcgmmfcphfkdhaaGreat
open Go Go.RowKit Go.Proofs Go.Torn Go.Abs

end Go.Proofs.YtcgmmfcphfkdhaaGreat
