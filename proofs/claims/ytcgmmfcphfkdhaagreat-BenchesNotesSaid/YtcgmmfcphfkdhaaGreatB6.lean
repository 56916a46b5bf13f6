/- Walks: Scan: slices of slices. -/
import Derived.Test.YtcgmmfcphfkdhaaGreatB5
import Derived.WalkMore
import Derived.Maps.AppendAt
namespace Go.Proofs.YtcgmmfcphfkdhaaGreat
open Go Go.RowKit Go.Proofs Go.Torn Go.Abs

theorem checked_any (b off cap n : Nat) (L : List Nat) (hN : L.length ≤ 1000000) (hcap : L.length ≤ cap) (hn : n ≤ 65536) (hy : By L) (w : World) (hd : BtAt w b off L) :
    Calls Tryz.prog 82 #[.slice (some ⟨b, off, none⟩) L.length cap, .int .i64 n] w fun e w' => e = .returned (.bool (ckd L n)) ∧ Below w.heap.size w w' := by
  by_cases h : n + 2 ≤ L.length
  · exact checked_yes b off cap n L hN hcap hn h hy w hd
  · have e : ckd L n = false := by unfold ckd; rw [decide_eq_false h, Bool.false_and]
    rw [e]
    exact checked_no b off cap L.length n hN hn h w

theorem slice_lo (b o n c lo : Nat) (h : lo ≤ n) (hc : n ≤ c) : ∃ o', (∀ (w : World) (R : List Nat), R.length = n → BtAt w b o R → BtAt w b o' (R.drop lo)) ∧
    ∀ w, (Instr.sliceAt 46 (.slice (some ⟨b, o, none⟩) n c) (some (.int .i64 (lo : Int))) none none).run Tryz.prog w = .ok (.slice (some ⟨b, o', none⟩) (n - lo) (c - lo)) w := by
  refine ⟨if c = lo then o else o + lo, fun w R hR hw k hk => ?_, fun w => ?_⟩
  · rw [List.length_drop] at hk
    rw [if_neg (by omega)]
    have := hw (lo + k) (by omega)
    rw [show o + lo + k = o + (lo + k) by omega, this]
    simp [List.getD, List.getElem?_drop]
  · go_simp
    split <;> rfl

theorem slice_hi (b o n c hi : Nat) (h : hi ≤ c) :
    ∀ w, (Instr.sliceAt 46 (.slice (some ⟨b, o, none⟩) n c) none (some (.int .i64 (hi : Int))) none).run Tryz.prog w = .ok (.slice (some ⟨b, o, none⟩) hi c) w := by
  intro w
  go_simp

/-- A row of slices that one owns, each with its own bytes. -/
def RowsB (w : World) (base : Nat) (v : Value) (Rs : List (List Nat)) : Prop := ∃ xs : List Value, w.ownsRow base 46 1 v Rs.length xs ∧
  ∀ k, k < Rs.length → ∃ u, xs[k]? = some u ∧ SlB w u (Rs.getD k []) ∧ (u.ownBlock = none ∨ u.ownBlock ≠ v.ownBlock) ∧ (∀ j, u.ownBlock = some j → j < w.heap.size) ∧ u.oneCell' = true

theorem RowsB.keep {w w' : World} {base : Nat} {v : Value} {Rs : List (List Nat)} (h : RowsB w base v Rs) (hb : Below w.heap.size w w') : RowsB w' base v Rs := by
  obtain ⟨xs, h1, h2⟩ := h
  refine ⟨xs, h1.kept (row := none) ⟨hb.os, hb.tape, hb.output, hb.size, fun k hk _ => hb.block k hk⟩ ?_, fun k hk => ?_⟩
  · cases hv : v.ownBlock with
    | none => exact .inl rfl
    | some _ => exact .inr (by simp)
  · obtain ⟨u, g1, g2, g3, g4, g5⟩ := h2 k hk
    exact ⟨u, g1, g2.keep hb, g3, fun j hj => Nat.lt_of_lt_of_le (g4 j hj) hb.size, g5⟩

theorem own_SlB {w : World} {base : Nat} {v : Value} {x : List Nat} (h : w.ownsRow base 5 1 v x.length (bc x)) (hl : x.length ≤ 1000000000) : SlB w v x ∧ (∀ j, v.ownBlock = some j → base ≤ j ∧ j < w.heap.size) ∧ v.oneCell' = true := by
  refine ⟨?_, h.lt, ?_⟩
  · rcases h.2 with ⟨rfl, h0⟩ | ⟨g, cap, cur, rfl, -⟩
    · exact ⟨none, 0, by rw [h0], ⟨by omega, fun _ => rfl⟩, fun hp => by omega⟩
    · refine ⟨some ⟨g, 0, none⟩, cap, rfl, ⟨Nat.le_trans hl (by decide), fun hh => by cases hh⟩, fun _ => ⟨g, 0, rfl, fun k hk => ?_⟩⟩
      rw [Nat.zero_add, h.cellAt k (by omega)]
      simp [bc, List.getD, hk]
  · rcases h.2 with ⟨rfl, -⟩ | ⟨g, cap, cur, rfl, -⟩ <;> rfl

theorem info46 : (Tryz.prog.info? 46).map (fun i => (i.zero, i.size, i.bytes)) = some (some (.slice none 0 0), 1, 24) := by kernel_rfl

theorem SlB.far {W W' : World} {u : Value} {L : List Nat} {row : Option Nat} (h : SlB W u L) (hg : W.grownBy W' row) (hr : u.ownBlock = none ∨ u.ownBlock ≠ row) : SlB W' u L := by
  obtain ⟨a, cap, rfl, h1, h2⟩ := h
  refine ⟨a, cap, rfl, h1, fun h => ?_⟩
  obtain ⟨b, off, rfl, hd⟩ := h2 h
  refine ⟨b, off, rfl, fun k hk => ?_⟩
  have hc := hd k hk
  rw [← hc]
  refine World.cell?_of_block (hg.block b (lt_of_cell hc) ?_)
  rcases hr with hr | hr
  · cases hr
  · exact hr

/-- A row of slices and the slice that comes to it. -/
theorem RowsB.push {W : World} {base g : Nat} {v u : Value} {Rs : List (List Nat)} {x : List Nat} (ty : TypeId) (h : RowsB W base v Rs) (hu : SlB W u x) (hne : u.ownBlock = none ∨ u.ownBlock ≠ v.ownBlock) (hlt : ∀ j, u.ownBlock = some j → j < W.heap.size) (h1 : u.oneCell' = true)
    (hc : W.cell? ⟨g, 0, none⟩ = some u) (hb : base ≤ W.heap.size) (hk : Rs.length ≤ 100000) :
    ∃ v' W', (Builtin.append_ #[52, 52] ty #[v, .slice (some ⟨g, 0, none⟩) 1 1]).run Tryz.prog W = .ok v' W' ∧ RowsB W' base v' (Rs ++ [x]) ∧ W.grownBy W' v.ownBlock ∧ (∀ j, v.ownBlock = some j → base ≤ j) := by
  obtain ⟨i0, hi, hz0, hz1, hz2⟩ := info_parts info46
  obtain ⟨xs, hown, hx⟩ := h
  obtain ⟨v', W', r1, r2, r3, -, r5⟩ := run_append_own_at (P := Tryz.prog) W base 52 ty 46 i0 (.slice none 0 0) 1 24 Tryz.underlying52 hi hz0 hz1 hz2 rfl (by decide) v Rs.length xs hown ⟨g, 0, none⟩ 1 1 [u] rfl (fun j z hz => by
      rw [Addr.add_lit]
      cases j with
      | zero => simp only [List.getElem?_cons_zero, Option.some.injEq] at hz; rw [← hz]; exact hc
      | succ j => simp at hz) (fun z hz => by
      simp only [List.mem_cons, List.not_mem_nil, or_false] at hz
      rw [hz]; exact h1) (by unfold maxLen; omega) (by omega) hb
  have hlen : xs.length = Rs.length := by have := hown.1; omega
  refine ⟨v', W', r1, ⟨xs ++ [u], by simpa using r2, fun k hk => ?_⟩, r3, fun j hj => (hown.lt j hj).1⟩
  have far : ∀ (y : Value), (y.ownBlock = none ∨ y.ownBlock ≠ v.ownBlock) → (∀ j, y.ownBlock = some j → j < W.heap.size) → (y.ownBlock = none ∨ y.ownBlock ≠ v'.ownBlock) := by
    intro y ha hb
    cases hy : y.ownBlock with
    | none => exact .inl rfl
    | some j =>
      right
      have hj := hb j hy
      rw [hy] at ha
      rcases ha with ha | ha
      · cases ha
      · rcases r5 with r5 | r5
        · rw [r5]; exact ha
        · rw [r5]; intro e; simp only [Option.some.injEq] at e; omega
  rw [List.length_append, List.length_singleton] at hk
  by_cases hkk : k < Rs.length
  · obtain ⟨y, g1, g2, g3, g4, g5⟩ := hx k hkk
    refine ⟨y, by rw [List.getElem?_append_left (by omega)]; exact g1, ?_, far y g3 g4, fun j hj => Nat.lt_of_lt_of_le (g4 j hj) r3.size, g5⟩
    have : (Rs ++ [x]).getD k [] = Rs.getD k [] := by simp [List.getD, List.getElem?_append_left hkk]
    rw [this]
    exact g2.far r3 g3
  · have hke : k = Rs.length := by omega
    subst hke
    refine ⟨u, by rw [List.getElem?_append_right (by omega), hlen]; simp, ?_, far u hne hlt, fun j hj => Nat.lt_of_lt_of_le (hlt j hj) r3.size, h1⟩
    have : (Rs ++ [x]).getD Rs.length [] = x := by simp [List.getD]
    rw [this]
    exact hu.far r3 hne

theorem scan_step {mx : Nat} {L R x R' : List Nat} {Rs : List (List Nat)} (h : ∀ n, scan mx (Rs.length + n) L = (Rs ++ (scan mx n R).1, (scan mx n R).2)) (hg : good mx R = true) (hx : x = (R.drop 4).take (len0 R)) (hR : R' = (R.drop 4).drop (len0 R + 2)) :
    ∀ n, scan mx ((Rs ++ [x]).length + n) L = ((Rs ++ [x]) ++ (scan mx n R').1, (scan mx n R').2) := by
  intro n
  rw [show (Rs ++ [x]).length + n = Rs.length + (n + 1) by simp; omega, h (n + 1), scan_good hg, ← hx, ← hR]
  simp

theorem scan_end {mx : Nat} {L R : List Nat} {Rs : List (List Nat)} (h : ∀ n, scan mx (Rs.length + n) L = (Rs ++ (scan mx n R).1, (scan mx n R).2)) (hg : good mx R = false) : ∀ n, scan mx (Rs.length + n) L = (Rs, R) := by
  intro n
  rw [h n, scan_bad hg]
  simp

def lenV : Value → Nat
  | .slice _ n _ => n
  | _ => 0

end Go.Proofs.YtcgmmfcphfkdhaaGreat
