/- Walks: Grow and Concat of slices of bytes. -/
import Derived.Test.YtcgmmfcphfkdhaaGreatB1
import Derived.Lib.AppendZeros
import Derived.Deep.Draws
import Derived.RangeFuncRecord
namespace Go.Proofs.YtcgmmfcphfkdhaaGreat
open Go Go.RowKit Go.Proofs Go.Torn

theorem info_parts {P : Program} {t : TypeId} {z : Value} {n m : Nat} (h : (P.info? t).map (fun i => (i.zero, i.size, i.bytes)) = some (some z, n, m)) : ∃ i, P.info? t = some i ∧ i.zero = some z ∧ i.size = n ∧ i.bytes = m := by
 cases hi : P.info? t with
 | none => rw [hi] at h; cases h
 | some i =>
  rw [hi] at h
  simp only [Option.map_some, Option.some.injEq, Prod.mk.injEq] at h
  exact ⟨i, rfl, h.1, h.2.1, h.2.2⟩

theorem info5 : (Tryz.prog.info? 5).map (fun i => (i.zero, i.size, i.bytes)) = some (some (.int .u8 0), 1, 1) := by kernel_rfl

theorem below_drewN {B : Nat} {a w : World} (h : Below B a w) (n : Nat) : Below B a (w.drewN n) := h.trans ⟨rfl, rfl, rfl, Nat.le_refl _, fun _ _ => rfl⟩

def bc (L : List Nat) : List Value := L.map fun n => .int .u8 ((n : Nat) : Int)

theorem bc_len (L : List Nat) : (bc L).length = L.length := by simp [bc]
theorem bc_append (L M : List Nat) : bc (L ++ M) = bc L ++ bc M := by simp [bc]
theorem bc_one (L : List Nat) : ∀ u ∈ bc L, u.oneCell' = true := by
 intro u hu
 simp only [bc, List.mem_map] at hu
 obtain ⟨n, -, rfl⟩ := hu
 rfl

theorem bc_cells {W : World} {b off : Nat} {L : List Nat} (h : BtAt W b off L) : ∀ j u, (bc L)[j]? = some u → W.cell? ((⟨b, off, none⟩ : Addr).add j) = some u := by
 intro j u hu
 have hj : j < L.length := by
  have := (List.getElem?_eq_some_iff.1 hu).1
  rwa [bc_len] at this
 have e : (⟨b, off, none⟩ : Addr).add j = ⟨b, off + j, none⟩ := by unfold Addr.add; split <;> simp_all
 rw [e, h j hj]
 simp only [bc, List.getElem?_map] at hu
 rw [List.getElem?_eq_getElem hj] at hu
 simp only [Option.map_some] at hu
 rw [← hu]
 simp [List.getD, hj]

end Go.Proofs.YtcgmmfcphfkdhaaGreat
