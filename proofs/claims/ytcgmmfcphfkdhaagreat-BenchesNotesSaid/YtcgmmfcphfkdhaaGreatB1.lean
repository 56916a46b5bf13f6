/- Walks: bytes: two bytes of a number, the check of bytes. -/
import Derived.Test.YtcgmmfcphfkdhaaGreatProg
import Derived.WalkKit
import Derived.WalkSpells
import Derived.Lib.Small
import Derived.Lib.Hide
import Derived.Laws.AppendOwn
import Derived.Laws.OwnMore
import Derived.Test.YtcgmmfcphfkdhaaGreatT1
namespace Go.Proofs.YtcgmmfcphfkdhaaGreat
open Go Go.RowKit Go.Proofs Go.Torn

theorem lt_of_cell {w : World} {b o : Nat} {v : Value} (h : w.cell? ⟨b, o, none⟩ = some v) : b < w.heap.size := World.block_lt_of_cell? w _ h

theorem keep_cell {w w' : World} {b o : Nat} {v : Value} (hb : Below w.heap.size w w') (h : w.cell? ⟨b, o, none⟩ = some v) : w'.cell? ⟨b, o, none⟩ = some v := (hb.cell (lt_of_cell h)).trans h

theorem keep_below {a w w' : World} (h : Below a.heap.size a w) (hb : Below w.heap.size w w') : Below a.heap.size a w' := h.trans (hb.mono h.size)

theorem w64 (n : Int) (h : -9223372036854775808 ≤ n ∧ n ≤ 9223372036854775807) : wrap64 n = n := by unfold wrap64; omega

theorem wi64 (n : Int) (h : -9223372036854775808 ≤ n ∧ n ≤ 9223372036854775807) : IntKind.i64.wrap n = n := by
  rw [IntKind.wrap_i64]; omega

/-- The bytes of L, from an offset on. -/
def BtAt (w : World) (b off : Nat) (L : List Nat) : Prop := ∀ k, k < L.length → w.cell? ⟨b, off + k, none⟩ = some (.int .u8 ((L.getD k 0 : Nat) : Int))

theorem BtAt.keep {w w' : World} {b off : Nat} {L : List Nat} (h : BtAt w b off L) (hb : Below w.heap.size w w') : BtAt w' b off L := fun k hk => keep_cell hb (h k hk)

/-- A slice of bytes, nil or not. -/
def SlB (w : World) (v : Value) (L : List Nat) : Prop := ∃ a cap, v = .slice a L.length cap ∧ (L.length ≤ 9223372036854775807 ∧ (a = none → cap = 0)) ∧ (0 < L.length → ∃ b off, a = some ⟨b, off, none⟩ ∧ BtAt w b off L)

theorem SlB.keep {w w' : World} {v : Value} {L : List Nat} (h : SlB w v L) (hb : Below w.heap.size w w') : SlB w' v L := by
  obtain ⟨a, cap, rfl, hl, hc⟩ := h
  refine ⟨a, cap, rfl, hl, fun hp => ?_⟩
  obtain ⟨b, off, rfl, h⟩ := hc hp
  exact ⟨b, off, rfl, h.keep hb⟩

set_option maxHeartbeats 400000 in
theorem two_any (n : Nat) (hn : n < 65536) (w : World) :
    Calls Tryz.prog 148 #[.int .i64 n] w fun e w' => ∃ v, e = .returned v ∧ SlB w' v (two n) ∧ Below w.heap.size w w' := by
  go_enter Tryz.func148, Tryz.ntmps148
  go_wp2
  go_ret
  refine ⟨_, rfl, ⟨_, _, rfl, ⟨by simp [two], fun h => by cases h⟩, fun _ => ⟨w.heap.size, 0, rfl, fun k hk => ?_⟩⟩, (Below.refl _ w).alloc (Nat.le_refl _) _⟩
  match k, hk with
  | 0, _ => simp [two]
  | 1, _ => simp [two]

theorem ws_take (b : List Nat) : ∀ (k q : Nat), q < b.length → ws k (b.take (q + 1)) = ws k (b.take q) + (k + q) * b.getD q 0 := by
  induction b with
  | nil => intro k q h; simp at h
  | cons x l ih =>
    intro k q h
    cases q with
    | zero => simp [ws]
    | succ q =>
      have := ih (k + 1) q (by simpa using h)
      simp only [List.take_succ_cons, ws, List.getD_cons_succ] at this ⊢
      rw [this, show k + 1 + q = k + (q + 1) by omega]
      omega

theorem ws_bound : ∀ (b : List Nat) (k : Nat), (∀ v ∈ b, v < 256) → ws k b ≤ (k + b.length) * 256 * b.length
  | [], k, _ => by simp [ws]
  | x :: l, k, h => by
    have ih := ws_bound l (k + 1) (fun v hv => h v (by simp [hv]))
    have hx : x < 256 := h x (by simp)
    simp only [ws, List.length_cons]
    have h1 : k * x ≤ k * 256 := Nat.mul_le_mul_left _ (by omega)
    have h2 : k * 256 ≤ (k + (l.length + 1)) * 256 := Nat.mul_le_mul_right _ (by omega)
    rw [show k + 1 + l.length = k + (l.length + 1) by omega] at ih
    rw [Nat.mul_succ]
    omega

/-- The bytes are bytes. -/
def By (L : List Nat) : Prop := ∀ v ∈ L, v < 256

set_option maxRecDepth 100000 in
set_option maxHeartbeats 1000000 in
theorem check_any (v : Value) (L : List Nat) (hl : L.length ≤ 1000000) (hy : By L) (w : World) (hs : SlB w v L) :
    Calls Tryz.prog 150 #[v] w fun e w' => e = .returned (.int .i64 (chk L : Nat)) ∧ w' = w := by
  obtain ⟨a, cap, rfl, -, hc⟩ := hs
  obtain ⟨n, hn⟩ : ∃ n, L.length = n := ⟨_, rfl⟩
  have B := Lib.hid (fun q (hq : q ≤ L.length) => (show ws 1 (L.take q) ≤ 1000000 * 1000000 * 257 from by
    have h1 := ws_bound (L.take q) 1 (fun x hx => hy x (List.mem_of_mem_take hx))
    have h2 : (L.take q).length ≤ 1000000 := by rw [List.length_take]; omega
    have h3 : (1 + (L.take q).length) * 256 * (L.take q).length ≤ (1 + 1000000) * 256 * 1000000 := Nat.mul_le_mul (Nat.mul_le_mul_right _ (by omega)) h2
    omega))
  have S := Lib.hid (ws_take L 1)
  have hfin := Lib.hid (show chk L = (1 + ws 1 (L.take L.length)) % 65521 by rw [List.take_length]; rfl)
  have Y := Lib.hid (fun q (hq : q < L.length) => hy (L.getD q 0) (by
    have : L.getD q 0 = L[q] := by simp [List.getD, hq]
    rw [this]; exact List.getElem_mem hq))
  have hN : Hid (∀ q, q < n → q < L.length) := Lib.hid (fun q h => by omega)
  rw [hn] at hl B hfin Y hc S ⊢
  clear hn
  go_enter Tryz.func150, Tryz.ntmps150
  go_wp2_with fail
  go_loopw [3, 8] (fun s i wr => ∃ q : Nat, q ≤ n ∧ i = .int .i64 q ∧ s = .int .i64 (((1 + ws 1 (L.take q) : Nat)) : Int) ∧ wr = w) (fun _ i _ => n - (intOf i).toNat)
  case atStart => exact ⟨0, by omega, rfl, by simp [ws], rfl⟩
  case round =>
    obtain ⟨q, hq, rfl, rfl, rfl⟩ := hrel
    by_cases hqn : q < n
    · obtain ⟨b, off, rfl, hb⟩ := hc (by omega)
      have hcell := hb q (hN.out q hqn)
      have hS := Lib.hid (S.out q hqn)
      have hB := Lib.hid (B.out (q + 1) hqn)
      have hY := Lib.hid (Y.out q hqn)
      clear S B Y hfin
      have hq2 : Hid (∃ A x : Nat, ws 1 (L.take q) = A ∧ L.getD q 0 = x) := Lib.hid ⟨_, _, rfl, rfl⟩
      obtain ⟨A, x, hA, hx⟩ := hq2.out
      rw [hx] at hcell
      rw [hA]
      have j1 : decide ((q : Int) < (n : Int)) = true := by simp; omega
      have H := Lib.hid (show wrap64 ((q : Int) + 1) = (q : Int) + 1 ∧ wrap64 (((q : Int) + 1) * (x : Int)) = ((q : Int) + 1) * (x : Int) ∧ wrap64 (1 + (A : Int) + ((q : Int) + 1) * (x : Int)) = 1 + (A : Int) + ((q : Int) + 1) * (x : Int) ∧
          1 + (A : Int) + ((q : Int) + 1) * (x : Int) = ((1 + ws 1 (L.take (q + 1)) : Nat) : Int) ∧ wrap64 (x : Int) = (x : Int) from by
        have hY := hY.out
        rw [hx] at hY
        have hS := hS.out
        have hB := hB.out
        rw [hA, hx] at hS
        rw [hS] at hB
        obtain ⟨z, hz⟩ : ∃ z, (1 + q) * x = z := ⟨_, rfl⟩
        have e0 : ((q : Int) + 1) * (x : Int) = (z : Int) := by rw [← hz]; push_cast; rw [Int.add_comm]
        rw [hz] at hB hS
        rw [e0, hS]
        have e1 := w64 ((q : Int) + 1) (by omega)
        have e2 := w64 (z : Int) (by omega)
        have e3 := w64 (1 + (A : Int) + (z : Int)) (by omega)
        have e5 := w64 (x : Int) (by omega)
        exact ⟨e1, e2, e3, by simp; omega, e5⟩)
      clear hS hB hY hA hx hq2 hN
      go_wp2
      obtain ⟨-, e2, e3, e4, e5⟩ := H.out
      rw [e5, e2, e3, e4]
      exact ⟨⟨q + 1, hqn, by simp, rfl, trivial⟩, by simp [intOf]; omega⟩
    · have : q = n := by omega
      subst this
      have j1 : decide ((q : Int) < (q : Int)) = false := by simp
      go_wp2
      go_ret
      refine ⟨?_, rfl⟩
      rw [hfin.out]
      simp

end Go.Proofs.YtcgmmfcphfkdhaaGreat
