/- Walks: law 3 (GlassFits). -/
import Derived.Test.YtiommdfelnkibaaGreatLP
import Derived.Test.YtiommdfelnkibaaGreatAwake
import Derived.Deep.Cut
namespace Go.Proofs.YtiommdfelnkibaaGreat
open Go Go.RowKit Go.Proofs Go.Abs

theorem SetAt.shape {W : World} {v : Value} {F : List (Nat × Bool)} (h : SetAt W v F) : ∃ a cap, v = .slice a F.length cap := by
  rcases h with ⟨rfl, rfl⟩ | ⟨g, cap, rfl, -⟩
  · exact ⟨_, _, rfl⟩
  · exact ⟨_, _, rfl⟩

theorem SetAt.pos {W : World} {a : Option Addr} {cap : Nat} {F : List (Nat × Bool)} (h : SetAt W (.slice a F.length cap) F) {i : Nat} {p : Nat × Bool} (hp : F[i]? = some p) :
    ∃ g, a = some ⟨g, 0, none⟩ ∧ W.cell? ⟨g, i * 2, none⟩ = some (.int .i64 p.1) ∧ W.cell? ⟨g, i * 2 + 1, none⟩ = some (.bool p.2) := by
  rcases h with ⟨rfl, -⟩ | ⟨g, cap', e, hr⟩
  · simp at hp
  · simp only [Value.slice.injEq] at e
    obtain ⟨rfl, _, rfl⟩ := e
    exact ⟨g, rfl, hr.cell hp⟩

theorem setsV_len (p : Bool) (G : List G5) (L : List (Int × Int)) : (setsV p G L).length ≤ 1000 := by
  unfold setsV
  split
  · rename_i h
    have h1 := (vOut_n h.2.1).2.1
    have h2 := List.length_filter_le (fun q : Nat × Bool => fitP G L L.length q.1 q.2) (allS L.length)
    rw [allS_len] at h2
    omega
  · simp

end Go.Proofs.YtiommdfelnkibaaGreat
