/- The abstract machine, part GrLK. -/
import Derived.Test.YtkmcboincjohlaaGreatGrLJ
import Derived.ArgAppend
/- Walks: the reference's measures and Gauges. -/
namespace Go.Proofs.YtkmcboincjohlaaGreat
open Go Go.RowKit Go.Proofs Go.Abs

theorem BoxS.frozen {t : TypeId} {W : World} {B : Nat} {v : Value} (h : BoxS t W B v) (o : Nat) : W.frozen? ⟨B, o, none⟩ = false := by
  obtain ⟨c, e, hb⟩ := h
  unfold World.frozen?
  simp [hb]

theorem BoxS.set {t : TypeId} {W : World} {B : Nat} {c : Array Value} (h : BoxS t W B (.agg c)) (k : Nat) (v : Value) : BoxS t (W.setCell ⟨B, k, none⟩ v) B (.agg (c.setIfInBounds k v)) := by
  obtain ⟨c', e, hb⟩ := h
  cases e
  exact ⟨_, rfl, setCell_heap _ hb⟩

theorem BoxS.keep {t : TypeId} {w w' : World} {b : Nat} {v : Value} (h : BoxS t w b v) (hb : Below w.heap.size w w') : BoxS t w' b v := by
  obtain ⟨c, e, h⟩ := h
  exact ⟨c, e, (hb.block b (Array.getElem?_eq_some_iff.1 h).1).trans h⟩

end Go.Proofs.YtkmcboincjohlaaGreat

/- Walks: Clone of gauges, wider. -/
namespace Go.Proofs.YtkmcboincjohlaaGreat
open Go Go.RowKit Go.Proofs Go.Abs

/-- The cell j of a row of gauges. -/
def cG (G : Nat → G5) (j : Nat) : Value := if j % 5 = 0 then .int .i64 (G (j / 5)).a else if j % 5 = 1 then .int .i64 (G (j / 5)).b else if j % 5 = 2 then .int .i64 (G (j / 5)).c else if j % 5 = 3 then .int .i64 (G (j / 5)).d else .int .i64 (G (j / 5)).e
def rowG (G : Nat → G5) (n : Nat) : List Value := (List.range (n * 5)).map (cG G)

theorem rowG_get (G : Nat → G5) {n j : Nat} (h : j < n * 5) : (rowG G n)[j]? = some (cG G j) := by
  unfold rowG
  rw [List.getElem?_map, List.getElem?_range h]
  rfl

theorem cG_0 (G : Nat → G5) (k : Nat) : cG G (k * 5) = .int .i64 (G k).a := by
  unfold cG; rw [if_pos (by omega), show k * 5 / 5 = k by omega]
theorem cG_1 (G : Nat → G5) (k : Nat) : cG G (k * 5 + 1) = .int .i64 (G k).b := by
  unfold cG; rw [if_neg (by omega), if_pos (by omega), show (k * 5 + 1) / 5 = k by omega]
theorem cG_2 (G : Nat → G5) (k : Nat) : cG G (k * 5 + 2) = .int .i64 (G k).c := by
  unfold cG; rw [if_neg (by omega), if_neg (by omega), if_pos (by omega), show (k * 5 + 2) / 5 = k by omega]
theorem cG_3 (G : Nat → G5) (k : Nat) : cG G (k * 5 + 3) = .int .i64 (G k).d := by
  unfold cG; rw [if_neg (by omega), if_neg (by omega), if_neg (by omega), if_pos (by omega), show (k * 5 + 3) / 5 = k by omega]
theorem cG_4 (G : Nat → G5) (k : Nat) : cG G (k * 5 + 4) = .int .i64 (G k).e := by
  unfold cG; rw [if_neg (by omega), if_neg (by omega), if_neg (by omega), if_neg (by omega), show (k * 5 + 4) / 5 = k by omega]

theorem SlG.cell {w : World} {v : Value} {G : List G5} (h : SlG w v G) (hn : 0 < G.length) : ∃ b off cap, v = .slice (some ⟨b, off, none⟩) G.length cap ∧ ∀ j, j < G.length * 5 → w.cell? ⟨b, off + j, none⟩ = some (cG (gz G) j) := by
  obtain ⟨a, cap, rfl, hl, hc⟩ := h
  obtain ⟨b, off, rfl, -⟩ := hc 0 hn
  refine ⟨b, off, cap, rfl, fun j hj => ?_⟩
  obtain ⟨b', off', e, h0, h1, h2, h3, h4⟩ := hc (j / 5) (by omega)
  cases e
  rcases (show j = j / 5 * 5 ∨ j = j / 5 * 5 + 1 ∨ j = j / 5 * 5 + 2 ∨ j = j / 5 * 5 + 3 ∨ j = j / 5 * 5 + 4 by omega) with e | e | e | e | e
  all_goals rw [e]
  · rw [cG_0]; exact h0
  · rw [cG_1]; exact h1
  · rw [cG_2]; exact h2
  · rw [cG_3]; exact h3
  · rw [cG_4]; exact h4

end Go.Proofs.YtkmcboincjohlaaGreat

/- Walks: Widen. -/
namespace Go.Proofs.YtkmcboincjohlaaGreat
open Go Go.RowKit Go.Proofs Go.Abs

theorem vGs_ok {G : List G5} (h : vGs G = true) : 3 ≤ G.length ∧ G.length ≤ 24 ∧ ∀ k, k < G.length → (0 ≤ (gz G k).a ∧ (gz G k).a ≤ 33554432) ∧ (0 ≤ (gz G k).b ∧ (gz G k).b ≤ 33554432) ∧ (0 ≤ (gz G k).c ∧ (gz G k).c ≤ 33554432) ∧ (0 ≤ (gz G k).d ∧ (gz G k).d ≤ 33554432) := by
  unfold vGs at h
  rw [Bool.and_eq_true] at h
  obtain ⟨h1, h2⟩ := h
  unfold wi at h1
  simp at h1
  refine ⟨by omega, by omega, fun k hk => ?_⟩
  have h3 : badG G = false := by simpa using h2
  unfold badG at h3
  rw [List.any_eq_false] at h3
  have h4 := h3 k (List.mem_range.2 hk)
  simp only [Bool.not_eq_true, Bool.not_eq_false'] at h4
  unfold G5.ok vG at h4
  simp only [Bool.and_eq_true, decide_eq_true_eq] at h4
  omega

theorem slg_box {w : World} {g n cap : Nat} {cur : Array Value} {G : List G5} (hb : BoxS 82 w g (.agg cur)) (hn : G.length = n) (hl : n ≤ 1000000) (hc : ∀ j, j < n * 5 → cur[j]? = some (cG (gz G) j)) : SlG w (.slice (some ⟨g, 0, none⟩) n cap) G := by
  subst hn
  refine ⟨_, cap, rfl, by omega, fun k hk => ⟨g, 0, rfl, ?_, ?_, ?_, ?_, ?_⟩⟩
  · rw [Nat.zero_add]; exact hb.cell (by rw [hc _ (by omega), cG_0])
  · rw [Nat.zero_add]; exact hb.cell (by rw [hc _ (by omega), cG_1])
  · rw [Nat.zero_add]; exact hb.cell (by rw [hc _ (by omega), cG_2])
  · rw [Nat.zero_add]; exact hb.cell (by rw [hc _ (by omega), cG_3])
  · rw [Nat.zero_add]; exact hb.cell (by rw [hc _ (by omega), cG_4])

theorem own_box {w : World} {base g n cap : Nat} {G : Nat → G5} (h : w.ownsRow base 82 5 (.slice (some ⟨g, 0, none⟩) n cap) n (rowG G n)) : ∃ cur, BoxS 82 w g (.agg cur) ∧ ∀ j, j < n * 5 → cur[j]? = some (cG G j) := by
  have hc := fun j (hj : j < n * 5) => (h.cellAt j hj).trans (rowG_get G hj)
  rcases h.2 with ⟨h, -⟩ | ⟨g', cap2, cur, h, -, h2, -⟩
  · cases h
  · simp only [Value.slice.injEq, Option.some.injEq, Addr.mk.injEq] at h
    obtain ⟨⟨rfl, -⟩, -, -⟩ := h
    refine ⟨cur, ⟨cur, rfl, h2⟩, fun j hj => ?_⟩
    have := hc j hj
    simpa [World.cell?, h2] using this

theorem cG_congr {G G' : Nat → G5} {j : Nat} (h : G (j / 5) = G' (j / 5)) : cG G j = cG G' j := by
  unfold cG
  rw [h]

end Go.Proofs.YtkmcboincjohlaaGreat

/- Walks: the reference's Widen. -/
namespace Go.Proofs.YtkmcboincjohlaaGreat
open Go Go.RowKit Go.Proofs Go.Abs

theorem rowG_succ (F : Nat → G5) (k : Nat) : rowG F (k + 1) = rowG F k ++ [.int .i64 (F k).a, .int .i64 (F k).b, .int .i64 (F k).c, .int .i64 (F k).d, .int .i64 (F k).e] := by
  unfold rowG
  rw [show (k + 1) * 5 = k * 5 + 1 + 1 + 1 + 1 + 1 by omega, List.range_succ, List.range_succ, List.range_succ, List.range_succ, List.range_succ]
  simp only [List.map_append, List.map_cons, List.map_nil, List.append_assoc, List.cons_append, List.nil_append]
  rw [show k * 5 + 1 + 1 = k * 5 + 2 by omega, show k * 5 + 2 + 1 = k * 5 + 3 by omega, show k * 5 + 3 + 1 = k * 5 + 4 by omega, cG_0, cG_1, cG_2, cG_3, cG_4]

theorem own_slg {w : World} {base n : Nat} {v : Value} {F : Nat → G5} {G : List G5} (h : w.ownsRow base 82 5 v n (rowG F n)) (hn : G.length = n) (h0 : 0 < n) (hl : n ≤ 1000000) (hF : ∀ i, i < n → F i = gz G i) : SlG w v G := by
  obtain ⟨g, cap, rfl⟩ : ∃ g cap, v = .slice (some ⟨g, 0, none⟩) n cap := by
    rcases h.2 with ⟨-, h⟩ | ⟨g, cap', cur, h, -⟩
    · omega
    · exact ⟨g, cap', h⟩
  obtain ⟨cur, bx, hcur⟩ := own_box h
  exact slg_box bx hn hl (fun j hj => (hcur j hj).trans (congrArg some (cG_congr (hF _ (by omega)))))

end Go.Proofs.YtkmcboincjohlaaGreat

/- Walks: SameGauges of equal lists. -/
namespace Go.Proofs.YtkmcboincjohlaaGreat
open Go Go.RowKit Go.Proofs Go.Abs

theorem SlG.shape {w : World} {v : Value} {G : List G5} (h : SlG w v G) : ∃ a cap, v = .slice a G.length cap := by
  obtain ⟨a, cap, rfl, _⟩ := h
  exact ⟨a, cap, rfl⟩

theorem SlG.at {w : World} {a : Option Addr} {cap : Nat} {G : List G5} (h : SlG w (.slice a G.length cap) G) {k : Nat} (hk : k < G.length) :
    ∃ b off, a = some ⟨b, off, none⟩ ∧ w.cell? ⟨b, off + k * 5, none⟩ = some (.int .i64 (gz G k).a) ∧ w.cell? ⟨b, off + k * 5 + 1, none⟩ = some (.int .i64 (gz G k).b) ∧ w.cell? ⟨b, off + k * 5 + 2, none⟩ = some (.int .i64 (gz G k).c) ∧
    w.cell? ⟨b, off + k * 5 + 3, none⟩ = some (.int .i64 (gz G k).d) ∧ w.cell? ⟨b, off + k * 5 + 4, none⟩ = some (.int .i64 (gz G k).e) := by
  obtain ⟨a', cap', e, -, hc⟩ := h
  simp only [Value.slice.injEq] at e
  obtain ⟨rfl, -, rfl⟩ := e
  exact hc k hk

end Go.Proofs.YtkmcboincjohlaaGreat
