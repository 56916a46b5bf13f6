/- The abstract machine, part SH. -/
import Derived.Test.YtiommdfelnkibaaGreatSG
import Derived.Lib.AppendZeros
/- What the region of united yields; appends of marks and of gauges. -/
namespace Go.Proofs.YtiommdfelnkibaaGreat
open Go Go.RowKit Go.Proofs Go.Abs

theorem SlM.keepB {W W' : World} {v : Value} {M : List M3} {B : Nat} (h : SlM W v M) (hb : Below B W W') (hl : ∀ p n c, v = .slice (some p) n c → p.block < B) : SlM W' v M := by
  obtain ⟨a, cap, rfl, hn, hc⟩ := h
  refine ⟨a, cap, rfl, hn, fun k hk => ?_⟩
  obtain ⟨b, off, rfl, h0, h1, h2⟩ := hc k hk
  have hbB : b < B := hl _ _ _ rfl
  exact ⟨b, off, rfl, (hb.cell (p := ⟨b, _, none⟩) hbB).trans h0, (hb.cell (p := ⟨b, _, none⟩) hbB).trans h1, (hb.cell (p := ⟨b, _, none⟩) hbB).trans h2⟩

/-- What the operations of the region yield. -/
def UnV (R8 Q n k X c8 cq : Nat) (a8 aq : Addr) (r8 gk F : G5) (cb : Bool) (listed : Array Bool) : Nat → Value → World → Prop
  | 0, v, _ => v = .pointer (some ⟨R8, 5, none⟩)
  | 1, v, _ => v = .slice (some a8) n c8
  | 2, v, _ => v = .int .i64 k
  | 3, v, _ => v = .pointer (some ⟨a8.block, a8.off + k * 5, none⟩)
  | 4, v, _ => v = gg r8.a r8.b r8.c r8.d r8.e
  | 5, v, _ => v = .pointer (some ⟨Q, 5, none⟩)
  | 6, v, _ => v = .slice (some aq) n cq
  | 7, v, _ => v = .int .i64 k
  | 8, v, _ => v = .pointer (some ⟨aq.block, aq.off + k * 5, none⟩)
  | 9, v, _ => v = gg gk.a gk.b gk.c gk.d gk.e
  | 10, v, _ => v = .tuple #[gg F.a F.b F.c F.d F.e, .bool cb]
  | 11, v, _ => v = .tuple #[gg F.a F.b F.c F.d F.e, .bool cb]
  | 12, v, _ => v = gg F.a F.b F.c F.d F.e
  | 13, v, _ => v = .bool cb
  | 14, v, W => ∃ p, v = .pointer (some ⟨p, 0, none⟩) ∧ X ≤ p ∧ W.heap[p]? = some (if isIn listed 15 = true then .cells #[.int .i64 F.a, .int .i64 F.b, .int .i64 F.c, .int .i64 F.d, .int .i64 F.e] 83 (0, 0) else .cells #[.int .i64 0, .int .i64 0, .int .i64 0, .int .i64 0, .int .i64 0] 83 (0, 0))
  | 15, _, _ => True
  | _, v, _ => v = .bool cb

def st5G (W : World) (p : Nat) (F : G5) : World := ((((W.setCell ⟨p, 0, none⟩ (.int .i64 F.a)).setCell ⟨p, 1, none⟩ (.int .i64 F.b)).setCell ⟨p, 2, none⟩ (.int .i64 F.c)).setCell ⟨p, 3, none⟩ (.int .i64 F.d)).setCell ⟨p, 4, none⟩ (.int .i64 F.e)

/-- What an operation does to the world. -/
def UnR (X : Nat) (F : G5) (j : Nat) (a : Act) (W W' : World) : Prop :=
  if j = 15 then ∃ p, a.tmps.getD 11 undef = .pointer (some ⟨p, 0, none⟩) ∧ X ≤ p ∧ W' = st5G W p F else Below W.heap.size W W'

theorem st5G_heap {W : World} {p : Nat} {F : G5} (h : W.heap[p]? = some (.cells #[.int .i64 0, .int .i64 0, .int .i64 0, .int .i64 0, .int .i64 0] 83 (0, 0))) : (st5G W p F).heap[p]? = some (.cells #[.int .i64 F.a, .int .i64 F.b, .int .i64 F.c, .int .i64 F.d, .int .i64 F.e] 83 (0, 0)) := resG h

theorem UnV.step {R8 Q n k X c8 cq : Nat} {a8 aq : Addr} {r8 gk F : G5} {cb : Bool} {listed : Array Bool} {a : Act} {i j : Nat} {v : Value} {W W' : World} (hs : listed.size = 17) (hv : i = 14 → v = a.tmps.getD 11 undef) (hj : isIn listed j = false)
    (h : UnV R8 Q n k X c8 cq a8 aq r8 gk F cb listed i v W) (hR : UnR X F j a W W') : UnV R8 Q n k X c8 cq a8 aq r8 gk F cb (listed.setIfInBounds j true) i v W' := by
  match i, h with
  | 0, h => exact h
  | 1, h => exact h
  | 2, h => exact h
  | 3, h => exact h
  | 4, h => exact h
  | 5, h => exact h
  | 6, h => exact h
  | 7, h => exact h
  | 8, h => exact h
  | 9, h => exact h
  | 10, h => exact h
  | 11, h => exact h
  | 12, h => exact h
  | 13, h => exact h
  | 14, ⟨p, h1, h2, h3⟩ =>
    refine ⟨p, h1, h2, ?_⟩
    have hpl := (Array.getElem?_eq_some_iff.1 h3).1
    unfold UnR at hR
    by_cases e : j = 15
    · subst e
      rw [if_pos rfl] at hR
      obtain ⟨p', e1, -, rfl⟩ := hR
      rw [← hv rfl, h1] at e1
      cases e1
      rw [isIn_set (by omega)]
      simp only [BEq.rfl, Bool.or_true, if_true]
      rw [hj] at h3
      exact st5G_heap h3
    · rw [if_neg e] at hR
      have hn : isIn (listed.setIfInBounds j true) 15 = isIn listed 15 := by
        unfold isIn
        rw [Array.getD_eq_getD_getElem?, Array.getD_eq_getD_getElem?, Array.getElem?_setIfInBounds_ne e]
      rw [hn]
      exact (hR.block _ hpl).trans h3
  | 15, _ => trivial
  | _ + 16, h => exact h

end Go.Proofs.YtiommdfelnkibaaGreat

/- Walks: united, where the pieces are alike but for their gauges. -/
namespace Go.Proofs.YtiommdfelnkibaaGreat
open Go Go.RowKit Go.Proofs Go.Abs

end Go.Proofs.YtiommdfelnkibaaGreat
