/- The abstract machine, part RG. -/
import Derived.Test.YtiommdfelnkibaaGreatRE
import Derived.Test.YtiommdfelnkibaaGreatRF
import Derived.Test.YtiommdfelnkibaaGreatLP
/- The reset of a piece, by both: one answer, whatever the setting's sense. -/
namespace Go.Proofs.YtiommdfelnkibaaGreat
open Go Go.RowKit Go.Proofs Go.Abs

/-- A piece, told plainly. -/
structure PcD where
  id : Int
  c : Int
  r : Int
  m : Int
  s : Int
  G : List G5
  M : List M3

/-- The value is that piece; its lists lie in no block older than B. -/
def PcV (W : World) (B : Nat) (v : Value) (d : PcD) : Prop :=
  ∃ vg vm, v = pcs d.id d.c d.r d.m d.s vg vm ∧ SlG W vg d.G ∧ SlM W vm d.M ∧ Fr B vg ∧ Fr B vm

def zeroD : PcD := ⟨0, 0, 0, 0, 0, [], []⟩
/-- The piece reset. -/
def rsD (d : PcD) (sh : Nat) (b : Bool) : PcD := ⟨d.id, if b then d.r else d.c, if b then d.c else d.r, d.m, d.s, layL d.G d.G.length sh b, shM d.G.length sh b d.M⟩
def PcD.ok (d : PcD) : Bool := vP d.id d.c d.r d.m d.s d.G d.M
theorem Fr.mono {B C : Nat} {v : Value} (h : Fr B v) (hc : C ≤ B) : Fr C v := fun a n c e => Nat.le_trans hc (h a n c e)

theorem PcV.keep {W W' : World} {B : Nat} {v : Value} {d : PcD} (h : PcV W B v d) (hb : Below W.heap.size W W') : PcV W' B v d := by
  obtain ⟨vg, vm, h1, h2, h3, h4, h5⟩ := h
  exact ⟨vg, vm, h1, h2.keep hb, h3.keep hb, h4, h5⟩

theorem PcV.mono {W : World} {B C : Nat} {v : Value} {d : PcD} (h : PcV W B v d) (hc : C ≤ B) : PcV W C v d := by
  obtain ⟨vg, vm, h1, h2, h3, h4, h5⟩ := h
  exact ⟨vg, vm, h1, h2, h3, h4.mono hc, h5.mono hc⟩

theorem PcV.zero (W : World) (B : Nat) : PcV W B (pcs 0 0 0 0 0 (.slice none 0 0) (.slice none 0 0)) zeroD :=
  ⟨_, _, rfl, ⟨none, 0, rfl, by simp [zeroD], fun k hk => absurd hk (by simp [zeroD])⟩, slm_nil _, (fun a n c h => by cases h), (fun a n c h => by cases h)⟩

theorem slg_set {W : World} {v u : Value} {D : List G5} {B o : Nat} (h : SlG W v D) (hn : ∀ a n c, v = .slice (some a) n c → B ≠ a.block) : SlG (W.setCell ⟨B, o, none⟩ u) v D := by
  obtain ⟨a, cap, rfl, hl, hc⟩ := h
  refine ⟨a, cap, rfl, hl, fun k hk => ?_⟩
  obtain ⟨b, off, rfl, h0, h1, h2, h3, h4⟩ := hc k hk
  have hb : B ≠ b := hn _ _ _ rfl
  have e : ∀ p, (W.setCell ⟨B, o, none⟩ u).cell? ⟨b, p, none⟩ = W.cell? ⟨b, p, none⟩ := fun p => World.cell?_setCell_other (h := fun x => hb (by cases x; rfl)) ..
  exact ⟨b, off, rfl, (e _).trans h0, (e _).trans h1, (e _).trans h2, (e _).trans h3, (e _).trans h4⟩

theorem PcV.set {W : World} {C B o : Nat} {v u : Value} {d : PcD} (h : PcV W C v d) (hB : B < C) : PcV (W.setCell ⟨B, o, none⟩ u) C v d := by
  obtain ⟨vg, vm, h1, h2, h3, h4, h5⟩ := h
  exact ⟨vg, vm, h1, slg_set h2 (fun a n c e => by have := h4 a n c e; omega), slm_set h3 (fun a n c e => by have := h5 a n c e; omega), h4, h5⟩

theorem reset50_any (d : PcD) (vg vm : Value) (sh : Int) (b : Bool) (w : World) (hG : SlG w vg d.G) (hM : SlM w vm d.M) (hok : d.ok = true) (hs : vset sh d.G.length = true) :
    Calls Tryz.prog 50 #[pcs d.id d.c d.r d.m d.s vg vm, st sh b] w fun e w' => ∃ v, e = .returned v ∧ PcV w' w.heap.size v (rsD d sh.toNat b) ∧ Below w.heap.size w w' := by
  have hh := hs
  simp only [vset, Bool.and_eq_true, decide_eq_true_eq] at hh
  obtain ⟨⟨⟨a1, a2⟩, a3⟩, a4⟩ := hh
  obtain ⟨s, rfl⟩ : ∃ s : Nat, sh = s := ⟨sh.toNat, by omega⟩
  have fin : ∀ (w' : World) (vg' : Value), w'.ownsRow (w.heap.size + 4) 83 5 vg' d.G.length (rowG (fun x => lay d.G d.G.length s b x) d.G.length) → SlG w' vg' (layL d.G d.G.length s b) ∧ Fr w.heap.size vg' := fun w' vg' h =>
    ⟨own_slg h (layL_len _ _ _ _) (by omega) (by omega) (fun i hi => (layL_gz d.G b hi).symm), fun a n c e => by
      subst e
      have := (h.lt a.block rfl).1
      omega⟩
  cases b
  · refine (reset50_F d.id d.c d.r d.m d.s vg vm d.G d.M s w hG hM hok hs).mono ?_
    rintro e w' ⟨vg', vm', rfl, h1, h2, h3, h4⟩
    exact ⟨_, rfl, ⟨vg', vm', rfl, (fin w' vg' h1).1, h2, (fin w' vg' h1).2, h3⟩, h4⟩
  · refine (reset50_T d.id d.c d.r d.m d.s vg vm d.G d.M s w hG hM hok hs).mono ?_
    rintro e w' ⟨vg', vm', rfl, h1, h2, h3, h4⟩
    exact ⟨_, rfl, ⟨vg', vm', rfl, (fin w' vg' h1).1, h2, (fin w' vg' h1).2, h3⟩, h4⟩

end Go.Proofs.YtiommdfelnkibaaGreat

/- Walks: Reset of the program and of the reference. -/
namespace Go.Proofs.YtiommdfelnkibaaGreat
open Go Go.RowKit Go.Proofs Go.Abs

theorem PcV.shape {W : World} {B : Nat} {v : Value} {d : PcD} (h : PcV W B v d) : ∃ ag gc am mc, v = pcs d.id d.c d.r d.m d.s (.slice ag d.G.length gc) (.slice am d.M.length mc) ∧ SlG W (.slice ag d.G.length gc) d.G ∧ SlM W (.slice am d.M.length mc) d.M ∧ Fr B (.slice ag d.G.length gc) ∧ Fr B (.slice am d.M.length mc) := by
  obtain ⟨vg, vm, h1, h2, h3, h4, h5⟩ := h
  obtain ⟨ag, gc, rfl, -⟩ := _root_.id h2
  obtain ⟨am, mc, rfl, -⟩ := _root_.id h3
  exact ⟨ag, gc, am, mc, h1, h2, h3, h4, h5⟩

end Go.Proofs.YtiommdfelnkibaaGreat

/- Walks: Reset of the reference. -/
namespace Go.Proofs.YtiommdfelnkibaaGreat
open Go Go.RowKit Go.Proofs Go.Abs

end Go.Proofs.YtiommdfelnkibaaGreat

/- Walks: Shows and Marks of the reference. -/
namespace Go.Proofs.YtiommdfelnkibaaGreat
open Go Go.RowKit Go.Proofs Go.Abs

end Go.Proofs.YtiommdfelnkibaaGreat
