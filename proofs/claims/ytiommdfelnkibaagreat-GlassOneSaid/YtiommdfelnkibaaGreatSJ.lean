/- The abstract machine, part SJ. -/
import Derived.Test.YtiommdfelnkibaaGreatSI
import Derived.Test.YtiommdfelnkibaaGreatLP
/- What the region of the reference's Agree yields. -/
namespace Go.Proofs.YtiommdfelnkibaaGreat
open Go Go.RowKit Go.Proofs Go.Abs

def AgV (n : Nat) (p q D : PcD) (agp amp agq amq : Option Addr) (gcp mcp gcq mcq ga nq acap k sh X : Nat) (b u : Bool) (listed : Array Bool) : Nat → Value → World → Prop
  | 0, v, _ => v = pcs p.id p.c p.r p.m p.s (.slice agp n gcp) (.slice amp p.M.length mcp)
  | 1, v, _ => v = pcs q.id q.c q.r q.m q.s (.slice agq n gcq) (.slice amq q.M.length mcq)
  | 2, v, _ => v = .slice (some ⟨ga, 0, none⟩) nq acap
  | 3, v, _ => v = .int .i64 (k : Nat)
  | 4, v, _ => v = .pointer (some ⟨ga, k * 2, none⟩)
  | 5, v, _ => v = st (sh : Nat) b
  | 6, v, _ => ∃ ag gc am mc, v = .tuple #[pcs D.id D.c D.r D.m D.s (.slice ag D.G.length gc) (.slice am D.M.length mc), .bool u]
  | 7, v, _ => ∃ ag gc am mc, v = .tuple #[pcs D.id D.c D.r D.m D.s (.slice ag D.G.length gc) (.slice am D.M.length mc), .bool u]
  | 8, v, _ => ∃ ag gc am mc, v = pcs D.id D.c D.r D.m D.s (.slice ag D.G.length gc) (.slice am D.M.length mc)
  | 9, v, _ => v = .bool u
  | 10, v, W => ∃ p, v = .pointer (some ⟨p, 0, none⟩) ∧ X ≤ p ∧ (isIn listed 11 = false → W.heap[p]? = some (.cells #[.int .i64 0, .int .i64 0, .int .i64 0, .int .i64 0, .int .i64 0, .slice none 0 0, .slice none 0 0] 25 (0, 0)))
  | 11, _, _ => True
  | _, v, _ => v = .bool u

/-- What an operation does to the world. -/
def AgR (X : Nat) (j : Nat) (_ : Act) (W W' : World) : Prop := if j = 11 then Below X W W' else Below W.heap.size W W'

theorem AgV.step {n : Nat} {p q D : PcD} {agp amp agq amq : Option Addr} {gcp mcp gcq mcq ga nq acap k sh X : Nat} {b u : Bool} {listed : Array Bool} {a : Act} {i j : Nat} {v : Value} {W W' : World} (hs : listed.size = 13)
    (h : AgV n p q D agp amp agq amq gcp mcp gcq mcq ga nq acap k sh X b u listed i v W) (hR : AgR X j a W W') : AgV n p q D agp amp agq amq gcp mcp gcq mcq ga nq acap k sh X b u (listed.setIfInBounds j true) i v W' := by
  match i, h with
  | 0, h => exact h
  | 1, h => exact h
  | 2, h => exact h
  | 3, h => exact h
  | 4, h => exact h
  | 5, h => exact h
  | 6, h => exact h
  | 7, h => exact h
  | 8, h => exact h
  | 9, h => exact h
  | 10, ⟨p', h1, h2, h3⟩ =>
    refine ⟨p', h1, h2, fun hn => ?_⟩
    unfold AgR at hR
    by_cases e : j = 11
    · subst e
      rw [isIn_set (by omega)] at hn
      simp at hn
    · rw [if_neg e] at hR
      have hn2 : isIn (listed.setIfInBounds j true) 11 = isIn listed 11 := by
        unfold isIn
        rw [Array.getD_eq_getD_getElem?, Array.getD_eq_getD_getElem?, Array.getElem?_setIfInBounds_ne e]
      rw [hn2] at hn
      have h4 := h3 hn
      exact (hR.block _ (Array.getElem?_eq_some_iff.1 h4).1).trans h4
  | 11, _ => trivial
  | _ + 12, h => exact h

end Go.Proofs.YtiommdfelnkibaaGreat

/- Agree of the reference, put together; what both answer has at most 48 settings. -/
namespace Go.Proofs.YtiommdfelnkibaaGreat
open Go Go.RowKit Go.Proofs Go.Abs

theorem agS_len (p q : PcD) : (agS p q).length ≤ 1000 := by
  unfold agS
  split
  · rename_i h
    obtain ⟨h3, -, -⟩ := ok_parts h.1
    have h2 := List.length_filter_le (fun s : Nat × Bool => alk (rsD p s.1 s.2) q) (allS p.G.length)
    rw [allS_len] at h2
    omega
  · simp

end Go.Proofs.YtiommdfelnkibaaGreat

/- Walks: law 5 (GlassMerges). -/
namespace Go.Proofs.YtiommdfelnkibaaGreat
open Go Go.RowKit Go.Proofs Go.Abs

end Go.Proofs.YtiommdfelnkibaaGreat
