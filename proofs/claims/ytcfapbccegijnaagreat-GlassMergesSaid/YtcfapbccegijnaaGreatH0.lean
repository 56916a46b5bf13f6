/- Rows of marks of one's own. -/
import Derived.Test.YtcfapbccegijnaaGreatLB
import Derived.Test.YtcfapbccegijnaaGreatLA
import Derived.Laws.OwnMore
namespace Go.Proofs.YtcfapbccegijnaaGreat
open Go Go.RowKit Go.Proofs

theorem info61 : (Tryz.prog.info? 78).map (fun i => (i.zero, i.size, i.bytes)) = some (some (mk 0 0 0), 3, 24) := by kernel_rfl

/-- The cells of marks. -/
def mv1 (m : M3) : List Value := [.int .i64 m.x, .int .i64 m.y, .int .i64 m.z]
def mv (L : List M3) : List Value := L.flatMap mv1

theorem mv_len (L : List M3) : (mv L).length = L.length * 3 := by
  induction L with
  | nil => rfl
  | cons a L ih =>
    have : mv (a :: L) = mv1 a ++ mv L := rfl
    rw [this, List.length_append, ih]
    simp [mv1]; omega

theorem mv_get : ∀ (L : List M3) (k : Nat), k < L.length → (mv L)[k * 3]? = some (.int .i64 (mq L k).x) ∧ (mv L)[k * 3 + 1]? = some (.int .i64 (mq L k).y) ∧ (mv L)[k * 3 + 2]? = some (.int .i64 (mq L k).z)
  | [], k, h => absurd h (Nat.not_lt_zero _)
  | a :: L, 0, _ => ⟨rfl, rfl, rfl⟩
  | a :: L, k + 1, h => by
    obtain ⟨h0, h1, h2⟩ := mv_get L k (by simpa using h)
    have e : mv (a :: L) = mv1 a ++ mv L := rfl
    have q : mq (a :: L) (k + 1) = mq L k := rfl
    rw [e, q]
    refine ⟨?_, ?_, ?_⟩
    · rw [List.getElem?_append_right (by simp [mv1]; omega), ← h0]; congr 1; simp [mv1]; omega
    · rw [List.getElem?_append_right (by simp [mv1]; omega), ← h1]; congr 1; simp [mv1]; omega
    · rw [List.getElem?_append_right (by simp [mv1]; omega), ← h2]; congr 1; simp [mv1]; omega

theorem slm_nil (w : World) : SlM w (.slice none 0 0) [] := ⟨none, 0, rfl, by simp, fun k hk => absurd hk (Nat.not_lt_zero _)⟩

theorem own_slm {w : World} {base n : Nat} {v : Value} {L : List M3} (h : w.ownsRow base 78 3 v n (mv L)) (hn : L.length = n) (hl : n ≤ 1000000) : SlM w v L := by
  subst hn
  rcases h.2 with ⟨rfl, h0⟩ | ⟨g, cap, cur, rfl, -⟩
  · have : L = [] := List.eq_nil_of_length_eq_zero h0
    subst this
    exact slm_nil w
  · refine ⟨_, cap, rfl, by omega, fun k hk => ⟨g, 0, rfl, ?_, ?_, ?_⟩⟩
    · rw [Nat.zero_add, h.cellAt _ (by omega)]; exact (mv_get L k hk).1
    · rw [Nat.zero_add, h.cellAt _ (by omega)]; exact (mv_get L k hk).2.1
    · rw [Nat.zero_add, h.cellAt _ (by omega)]; exact (mv_get L k hk).2.2

theorem three_cells (a b c : Int) : ∀ u ∈ [Value.int .i64 a, .int .i64 b, .int .i64 c], u.oneCell' = true := by
  intro u hu
  simp only [List.mem_cons, List.not_mem_nil, or_false] at hu
  rcases hu with rfl | rfl | rfl <;> rfl

theorem three_new (w : World) (a b c : Int) : ∀ j u, [Value.int .i64 a, .int .i64 b, .int .i64 c][j]? = some u → (w.alloc (mkObj a b c)).cell? ((⟨w.heap.size, 0, none⟩ : Addr).add j) = some u := by
  intro j u h
  have h1 := World.alloc_heap_new w (mkObj a b c)
  have e1 : (⟨w.heap.size, 0, none⟩ : Addr).add j = ⟨w.heap.size, j, none⟩ := by unfold Addr.add; split <;> simp_all
  rw [e1]
  unfold World.cell?
  rw [h1]
  simpa using h

theorem three_at (w : World) (a b c : Int) (B : Nat) (h : w.heap.size = B) : ∀ j u, [Value.int .i64 a, .int .i64 b, .int .i64 c][j]? = some u → (w.alloc (mkObj a b c)).cell? ((⟨B, 0, none⟩ : Addr).add j) = some u := by
  subst h
  exact three_new w a b c

theorem vMs_len {lo hi : Int} {M : List M3} (h : vMs lo hi M = true) : M.length ≤ 32 := by
  unfold vMs at h
  rw [Bool.and_eq_true, Bool.and_eq_true] at h
  exact of_decide_eq_true h.1.1

end Go.Proofs.YtcfapbccegijnaaGreat
