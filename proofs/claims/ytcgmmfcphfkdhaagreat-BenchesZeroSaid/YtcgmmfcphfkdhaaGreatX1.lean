/- One bit inverted, as the model says it. -/
import Derived.Test.YtcgmmfcphfkdhaaGreatB9s
namespace Go.Proofs.YtcgmmfcphfkdhaaGreat
open Go Go.RowKit Go.Proofs Go.Torn Go.Abs

set_option maxRecDepth 100000 in
theorem xor_fin : ∀ (x : Fin 256) (j : Fin 8), bits BinOp.xor IntKind.u8 ((x.val : Nat) : Int) (IntKind.u8.wrap (2 ^ j.val)) = ((x.val ^^^ 2 ^ j.val : Nat) : Int) := by decide +kernel

theorem xor_val {x jj : Nat} (hx : x < 256) (hj : jj < 8) : bits BinOp.xor IntKind.u8 (x : Int) (IntKind.u8.wrap (2 ^ jj)) = ((x ^^^ 2 ^ jj : Nat) : Int) := xor_fin ⟨x, hx⟩ ⟨jj, hj⟩

theorem own_setfar {W : World} {B e size n g o : Nat} {v u : Value} {xs : List Value} (h : W.ownsRow B e size v n xs) (hg : v.ownBlock = none ∨ v.ownBlock ≠ some g) : (W.setCell ⟨g, o, none⟩ u).ownsRow B e size v n xs := by
  obtain ⟨h1, h2⟩ := h
  refine ⟨h1, ?_⟩
  rcases h2 with h2 | ⟨g', cap, cur, e1, e2, e3, e4⟩
  · exact .inl h2
  · refine .inr ⟨g', cap, cur, e1, e2, ?_, e4⟩
    rw [e1] at hg
    have hne : g ≠ g' := by
      rintro rfl
      rcases hg with hg | hg
      · cases hg
      · exact hg rfl
    unfold World.setCell
    rw [Array.getElem?_modify, if_neg (by exact hne)]
    exact e3

end Go.Proofs.YtcgmmfcphfkdhaaGreat
