/- The abstract machine, part RK. -/
import Derived.Test.YtiommdfelnkibaaGreatRH
import Derived.Test.YtiommdfelnkibaaGreatZA
/- Walks: law 7 (GlassComposes). -/
namespace Go.Proofs.YtiommdfelnkibaaGreat
open Go Go.RowKit Go.Proofs Go.Abs

theorem PcV.pcs {W : World} {B : Nat} {v : Value} {d : PcD} (h : PcV W B v d) : ∃ ag gc am mc, v = pcs d.id d.c d.r d.m d.s (.slice ag d.G.length gc) (.slice am d.M.length mc) ∧ PcV W B v d := by
  obtain ⟨ag, gc, am, mc, h1, -⟩ := h.shape
  exact ⟨ag, gc, am, mc, h1, h⟩

end Go.Proofs.YtiommdfelnkibaaGreat

/- Law 7 (GlassComposes), put together. -/
namespace Go.Proofs.YtiommdfelnkibaaGreat
open Go Go.RowKit Go.Proofs Go.Abs

theorem PcD.ext' {a b : PcD} (h1 : a.id = b.id) (h2 : a.c = b.c) (h3 : a.r = b.r) (h4 : a.m = b.m) (h5 : a.s = b.s) (h6 : a.G = b.G) (h7 : a.M = b.M) : a = b := by
  obtain ⟨_, _, _, _, _, _, _⟩ := a
  obtain ⟨_, _, _, _, _, _, _⟩ := b
  simp only at h1 h2 h3 h4 h5 h6 h7
  subst h1 h2 h3 h4 h5 h6 h7
  rfl

theorem ok_parts {d : PcD} (h : d.ok = true) : (3 ≤ d.G.length ∧ d.G.length ≤ 24) ∧ vGs d.G = true ∧ vMs 0 ((d.G.length : Int) - 1) d.M = true := by
  obtain ⟨h1, h2⟩ := vP_marks h
  have h3 := vGs_ok h1
  exact ⟨⟨h3.1, h3.2.1⟩, h1, h2⟩

theorem rsD_ok {d : PcD} {s : Nat} (b : Bool) (h : d.ok = true) (hs : s < d.G.length) : (rsD d s b).ok = true := by
  obtain ⟨-, hg, hm⟩ := ok_parts h
  have g2 := layL_ok d.G b hg hs
  have m2 := shM_ok (s := (s : Int)) b (by omega) (by omega) hm
  unfold PcD.ok vP rsD at *
  simp only [Bool.and_eq_true] at h ⊢
  obtain ⟨⟨⟨⟨⟨⟨i1, i2⟩, i3⟩, i4⟩, i5⟩, i6⟩, i7⟩ := h
  rw [layL_len]
  cases b
  · exact ⟨⟨⟨⟨⟨⟨i1, i2⟩, i3⟩, i4⟩, i5⟩, g2⟩, m2⟩
  · exact ⟨⟨⟨⟨⟨⟨i1, i3⟩, i2⟩, i4⟩, i5⟩, g2⟩, m2⟩

theorem rsD_len (d : PcD) (s : Nat) (b : Bool) : (rsD d s b).G.length = d.G.length := layL_len _ _ _ _

theorem rsD_rsD {d : PcD} {s t : Nat} (b c : Bool) (h : d.ok = true) (hs : s < d.G.length) (ht : t < d.G.length) : rsD (rsD d s b) t c = rsD d (ld d.G.length t c s) (b != c) := by
  obtain ⟨-, -, hm⟩ := ok_parts h
  refine PcD.ext' rfl ?_ ?_ rfl rfl ?_ ?_
  · cases b <;> cases c <;> rfl
  · cases b <;> cases c <;> rfl
  · show layL (layL d.G d.G.length s b) (layL d.G d.G.length s b).length t c = layL d.G d.G.length (ld d.G.length t c s) (b != c)
    rw [layL_len]
    exact layL_layL d.G b c hs ht
  · show shM ((layL d.G d.G.length s b).length : Nat) t c (shM d.G.length s b d.M) = shM d.G.length (ld d.G.length t c s : Nat) (b != c) d.M
    rw [layL_len, shM_shM b c d.M (by omega) (by omega) (by omega) (by omega) (vMs_range hm), ed_ld c ht hs]

theorem rsD_zero {d : PcD} (h : d.ok = true) : rsD d 0 false = d := by
  obtain ⟨-, -, hm⟩ := ok_parts h
  refine PcD.ext' rfl rfl rfl rfl rfl ?_ ?_
  · exact layL_zero d.G rfl
  · exact shM_zero (vMs_rises hm) (vMs_range hm)

theorem vset_nat {sh : Int} {n : Nat} (h : vset sh n = true) : ((sh.toNat : Nat) : Int) = sh ∧ sh.toNat < n := by
  simp only [vset, Bool.and_eq_true, decide_eq_true_eq] at h
  omega
theorem vset_of {s n : Nat} (h3 : 3 ≤ n ∧ n ≤ 24) (h : s < n) : vset (s : Nat) (n : Nat) = true := by
  simp only [vset, Bool.and_eq_true, decide_eq_true_eq]
  omega

end Go.Proofs.YtiommdfelnkibaaGreat
