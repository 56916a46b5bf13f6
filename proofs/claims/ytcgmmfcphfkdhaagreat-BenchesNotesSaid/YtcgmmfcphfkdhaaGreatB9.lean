/- Walks: the journal that grows, and where its records end. -/
import Derived.Test.YtcgmmfcphfkdhaaGreatB8
import Derived.Test.YtcgmmfcphfkdhaaGreatT2
namespace Go.Proofs.YtcgmmfcphfkdhaaGreat
open Go Go.RowKit Go.Proofs Go.Torn Go.Abs

/-- A journal of one's own and the ends of its records, apart. -/
structure Jr (base : Nat) (W : World) (d e : Value) (D : List Nat) (E : List Nat) : Prop where
  data : W.ownsRow base 5 1 d D.length (bc D)
  ends : W.ownsRow base 3 1 e E.length (E.map fun n => Value.int .i64 (n : Nat))
  far : e.ownBlock = none ∨ e.ownBlock ≠ d.ownBlock

theorem own_keep {base e size n : Nat} {W W' : World} {v : Value} {xs : List Value} (h : W.ownsRow base e size v n xs) (hb : Below W.heap.size W W') : W'.ownsRow base e size v n xs := by
  refine h.kept (row := none) ⟨hb.os, hb.tape, hb.output, hb.size, fun k hk _ => hb.block k hk⟩ ?_
  cases hv : v.ownBlock with
  | none => exact .inl rfl
  | some _ => exact .inr (by simp)

theorem Jr.keep {base : Nat} {W W' : World} {d e : Value} {D E : List Nat} (h : Jr base W d e D E) (hb : Below W.heap.size W W') : Jr base W' d e D E := ⟨own_keep h.data hb, own_keep h.ends hb, h.far⟩

theorem info3 : (Tryz.prog.info? 3).map (fun i => (i.zero, i.size, i.bytes)) = some (some (.int .i64 0), 1, 8) := by kernel_rfl

theorem Jr.pushD {base b2 : Nat} {W : World} {d e v : Value} {D E x : List Nat} (ty : TypeId) (h : Jr base W d e D E) (hb : base ≤ W.heap.size) (hx : W.ownsRow b2 5 1 v x.length (bc x)) (hx0 : 0 < x.length) (hl : D.length + x.length ≤ 1000000) :
    ∃ d' W', (Builtin.append_ #[46, 46] ty #[d, v]).run Tryz.prog W = .ok d' W' ∧ Jr base W' d' e (D ++ x) E ∧ W.grownBy W' d.ownBlock ∧ (∀ j, d.ownBlock = some j → base ≤ j) := by
  obtain ⟨i0, hi, hz0, hz1, hz2⟩ := info_parts info5
  obtain ⟨g, cap, rfl⟩ : ∃ g cap, v = .slice (some ⟨g, 0, none⟩) x.length cap := by
    rcases hx.2 with ⟨_, h0⟩ | ⟨g, cap, cur, e, -⟩
    · omega
    · exact ⟨g, cap, e⟩
  obtain ⟨d', W', r1, r2, r3, -, r5⟩ := run_append_own_at (P := Tryz.prog) W base 46 ty 5 i0 (.int .u8 0) 1 1 Tryz.underlying46 hi hz0 hz1 hz2 rfl (by decide) d D.length (bc D) h.data ⟨g, 0, none⟩ x.length cap (bc x) (by rw [bc_len]; omega)
    (hx.cells rfl) (bc_one x) (by unfold maxLen; omega) (by omega) hb
  refine ⟨d', W', r1, ⟨by rw [List.length_append, bc_append]; exact r2, h.ends.kept r3 h.far, ?_⟩, r3, fun j hj => (h.data.lt j hj).1⟩
  cases he : e.ownBlock with
  | none => exact .inl rfl
  | some j =>
    right
    have h1 := (h.ends.lt j he).2
    have h2 := h.far
    rw [he] at h2
    rcases h2 with h2 | h2
    · cases h2
    · rcases r5 with r5 | r5
      · rw [r5]; exact h2
      · rw [r5]; intro e; simp only [Option.some.injEq] at e; omega

theorem Jr.pushE {base g n : Nat} {W : World} {d e : Value} {D E : List Nat} (ty : TypeId) (h : Jr base W d e D E) (hb : base ≤ W.heap.size) (hc : W.cell? ⟨g, 0, none⟩ = some (.int .i64 (n : Nat))) (hl : E.length ≤ 1000000) :
    ∃ e' W', (Builtin.append_ #[32, 32] ty #[e, .slice (some ⟨g, 0, none⟩) 1 1]).run Tryz.prog W = .ok e' W' ∧ Jr base W' d e' D (E ++ [n]) ∧ W.grownBy W' e.ownBlock ∧ (∀ j, e.ownBlock = some j → base ≤ j) := by
  obtain ⟨i0, hi, hz0, hz1, hz2⟩ := info_parts info3
  obtain ⟨e', W', r1, r2, r3, -, r5⟩ := run_append_own_at (P := Tryz.prog) W base 32 ty 3 i0 (.int .i64 0) 1 8 Tryz.underlying32 hi hz0 hz1 hz2 rfl (by decide) e E.length _ h.ends ⟨g, 0, none⟩ 1 1 [.int .i64 (n : Nat)] rfl (fun j z hz => by
      rw [Addr.add_lit]
      cases j with
      | zero => simp only [List.getElem?_cons_zero, Option.some.injEq] at hz; rw [← hz]; exact hc
      | succ j => simp at hz) (fun z hz => by
      simp only [List.mem_cons, List.not_mem_nil, or_false] at hz
      rw [hz]; rfl) (by unfold maxLen; omega) (by omega) hb
  have hne : d.ownBlock = none ∨ d.ownBlock ≠ e.ownBlock := by
    cases hd : d.ownBlock with
    | none => exact .inl rfl
    | some j =>
      right
      intro he
      have := h.far
      rw [hd, ← he] at this
      rcases this with h | h
      · cases h
      · exact h rfl
  refine ⟨e', W', r1, ⟨h.data.kept r3 hne, by simpa using r2, ?_⟩, r3, fun j hj => (h.ends.lt j hj).1⟩
  cases hd : d.ownBlock with
  | none =>
    cases he : e'.ownBlock with
    | none => exact .inl rfl
    | some _ => exact .inr (by simp)
  | some j =>
    right
    have h1 := (h.data.lt j hd).2
    rw [hd] at hne
    rcases hne with h2 | h2
    · cases h2
    · rcases r5 with r5 | r5
      · rw [r5]; exact fun e => h2 e.symm
      · rw [r5]; intro e; simp only [Option.some.injEq] at e; omega

end Go.Proofs.YtcgmmfcphfkdhaaGreat
