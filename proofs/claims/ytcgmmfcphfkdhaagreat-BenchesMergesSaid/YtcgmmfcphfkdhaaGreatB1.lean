/- Walks: bytes: two bytes of a number, the check of bytes. -/
import Derived.Test.YtcgmmfcphfkdhaaGreatProg
import Derived.WalkKit
import Derived.WalkSpells
import Derived.Lib.Small
import Derived.Lib.Hide
import Derived.Laws.AppendOwn
import Derived.Laws.OwnMore
import Derived.Test.YtcgmmfcphfkdhaaGreatT1
namespace Go.Proofs.YtcgmmfcphfkdhaaGreat
open Go Go.RowKit Go.Proofs Go.Torn

theorem lt_of_cell {w : World} {b o : Nat} {v : Value} (h : w.cell? ⟨b, o, none⟩ = some v) : b < w.heap.size := World.block_lt_of_cell? w _ h

theorem keep_cell {w w' : World} {b o : Nat} {v : Value} (hb : Below w.heap.size w w') (h : w.cell? ⟨b, o, none⟩ = some v) : w'.cell? ⟨b, o, none⟩ = some v := (hb.cell (lt_of_cell h)).trans h

theorem keep_below {a w w' : World} (h : Below a.heap.size a w) (hb : Below w.heap.size w w') : Below a.heap.size a w' := h.trans (hb.mono h.size)

theorem w64 (n : Int) (h : -9223372036854775808 ≤ n ∧ n ≤ 9223372036854775807) : wrap64 n = n := by unfold wrap64; omega

theorem wi64 (n : Int) (h : -9223372036854775808 ≤ n ∧ n ≤ 9223372036854775807) : IntKind.i64.wrap n = n := by
 rw [IntKind.wrap_i64]; omega

def BtAt (w : World) (b off : Nat) (L : List Nat) : Prop := ∀ k, k < L.length → w.cell? ⟨b, off + k, none⟩ = some (.int .u8 ((L.getD k 0 : Nat) : Int))

theorem BtAt.keep {w w' : World} {b off : Nat} {L : List Nat} (h : BtAt w b off L) (hb : Below w.heap.size w w') : BtAt w' b off L := fun k hk => keep_cell hb (h k hk)

def SlB (w : World) (v : Value) (L : List Nat) : Prop := ∃ a cap, v = .slice a L.length cap ∧ (L.length ≤ 9223372036854775807 ∧ (a = none → cap = 0)) ∧ (0 < L.length → ∃ b off, a = some ⟨b, off, none⟩ ∧ BtAt w b off L)

theorem SlB.keep {w w' : World} {v : Value} {L : List Nat} (h : SlB w v L) (hb : Below w.heap.size w w') : SlB w' v L := by
 obtain ⟨a, cap, rfl, hl, hc⟩ := h
 refine ⟨a, cap, rfl, hl, fun hp => ?_⟩
 obtain ⟨b, off, rfl, h⟩ := hc hp
 exact ⟨b, off, rfl, h.keep hb⟩

def By (L : List Nat) : Prop := ∀ v ∈ L, v < 256

end Go.Proofs.YtcgmmfcphfkdhaaGreat
