/- Walks: the program's disk: NewDisk, within, Pending, Sync, Write. -/
import Derived.Test.YtcgmmfcphfkdhaaGreatD1
import Derived.WalkMore
import Derived.Great.Walk
namespace Go.Proofs.YtcgmmfcphfkdhaaGreat
open Go Go.RowKit Go.Proofs Go.Torn Go.Abs

theorem own_slice {base e size n : Nat} {W : World} {v : Value} {xs : List Value} (h : W.ownsRow base e size v n xs) : ∃ a c, v = .slice a n c ∧ n ≤ c ∧ c ≤ maxLen := by
 rcases h.2 with ⟨e, h0⟩ | ⟨g, cap, cur, e, -, -, h1, h2, -⟩
 ·exact ⟨none, 0, by rw [e, h0], by omega, Nat.zero_le _⟩
 ·exact ⟨_, _, e, h1, h2⟩

set_option maxRecDepth 100000 in
theorem clone_nil (w : World) : Calls Tryz.prog 83 #[.slice none 0 0] w fun e w' => e = .returned (.slice none 0 0) ∧ w' = w := by
 have NE : ∀ w, (binOp .eql 46 (.slice none 0 0) (.slice none 0 0)).run Tryz.prog w = .ok (.bool true) w := fun w => by kernel_rfl
 go_enter Tryz.func83, Tryz.ntmps83
 go_wp2
 go_ret
 exact ⟨rfl, rfl⟩

theorem clone_own {base : Nat} {v : Value} {L : List Nat} (w : World) (h : w.ownsRow base 5 1 v L.length (bc L)) (hl : L.length ≤ 100000000) :
  Calls Tryz.prog 83 #[v] w fun e w' => ∃ v, e = .returned v ∧ w'.ownsRow w.heap.size 5 1 v L.length (bc L) ∧ Below w.heap.size w w' := by
 have hs := (own_SlB h (Nat.le_trans hl (by decide))).1
 rcases h.2 with ⟨rfl, h0⟩ | ⟨g, cap, cur, rfl, -⟩
 ·refine (clone_nil w).mono ?_
  rintro e w' ⟨rfl, rfl⟩
  have : L = [] := List.eq_nil_of_length_eq_zero h0
  subst this
  exact ⟨_, rfl, World.ownsRow_nil _ _ _ _, Below.refl _ _⟩
 ·exact clone_any _ cap L hl w hs

theorem push_any {base : Nat} {v u : Value} {D L : List Nat} (w : World) (hbw : base ≤ w.heap.size) (h : w.ownsRow base 5 1 v D.length (bc D)) (hs : SlB w u L) (hl : D.length + L.length ≤ 10000000) :
  ∃ v' w', (Builtin.append_ #[46, 46] 46 #[v, u]).run Tryz.prog w = .ok v' w' ∧ w'.ownsRow base 5 1 v' (D ++ L).length (bc (D ++ L)) ∧ w.grownBy w' v.ownBlock ∧ (v'.ownBlock = v.ownBlock ∨ v'.ownBlock = some w.heap.size) := by
 obtain ⟨i0, hi, hz0, hz1, hz2⟩ := info_parts info5
 obtain ⟨a, cap, rfl, ⟨-, hz⟩, hd⟩ := hs
 cases a with
 | none =>
  obtain rfl := hz rfl
  have h0 : L.length = 0 := by
   rcases Nat.eq_zero_or_pos L.length with e | e
   ·exact e
   ·obtain ⟨_, _, hh, -⟩ := hd e
    cases hh
  have hL : L = [] := List.eq_nil_of_length_eq_zero h0
  subst hL
  exact ⟨v, w, run_append_owned_none (P := Tryz.prog) (w := w) base 46 46 5 i0 1 Tryz.underlying46 hi _ _ _ h, by simpa using h, ⟨rfl, rfl, rfl, Nat.le_refl _, fun _ _ _ => rfl⟩, .inl rfl⟩
 | some ad =>
  obtain ⟨v', W', r1, r2, r3, -, r5⟩ := run_append_own_at (P := Tryz.prog) w base 46 46 5 i0 (.int .u8 0) 1 1 Tryz.underlying46 hi hz0 hz1 hz2 rfl (by decide) v D.length (bc D) h ad L.length cap (bc L) (by rw [bc_len]; omega)
   (fun j x hx => by
    have hj : j < L.length := by
     have := (List.getElem?_eq_some_iff.1 hx).1
     rwa [bc_len] at this
    obtain ⟨b, off, hh, hdat⟩ := hd (by omega)
    cases hh
    exact bc_cells hdat j x hx) (bc_one L) (by unfold maxLen; omega) (by omega) hbw
  exact ⟨v', W', r1, by rw [List.length_append, bc_append]; exact r2, r3, r5⟩

end Go.Proofs.YtcgmmfcphfkdhaaGreat
