/- Walks: Held, the program's and the reference's. -/
import Derived.Test.YtiebbbeijlfedaaB4
import Derived.BigQuiet
namespace Go.Proofs.Ytiebbbeijlfedaa
open Go Go.RowKit Go.Proofs

def heldBad (s : Int) (F : List Int) : Bool := !wi s (-64) 64 || decide (400 < F.length) || anyI (fun x => decide (x < 0)) F
def heldB (s : Int) (F : List Int) : Bool := !heldBad s F && !anyI (fun x => decide (x < -s)) F
def heldE (s : Int) (F : List Int) : Int := if heldBad s F = true then 1 else 0

theorem box_new (w : World) (s : Int) : (w.alloc (.cells #[.int .i64 s] 3)).cell? ⟨w.heap.size, 0, none⟩ = some (.int .i64 s) := by go_simp

set_option maxRecDepth 100000 in
set_option maxHeartbeats 2000000 in
theorem held_any (s : Int) (v : Value) (F : List Int) (w : World) (h : SlI w v F) :
    Calls Try.prog 34 #[.int .i64 s, v] w fun e w' => e = .returned (.tuple #[.bool (heldB s F), .int .i64 (heldE s F)]) ∧ Below w.heap.size w w' := by
  have b0 : Below w.heap.size w (w.alloc (.cells #[.int .i64 s] 3)) := (Below.refl _ _).alloc (Nat.le_refl _) _
  have c0 := box_new w s
  have C1 := fun w => within_any s (-64) 64 w
  have C2 := contains62_any v F _ (h.keep b0)
  have C3 := fun hs => contains63_any v F s w.heap.size _ c0 hs (h.keep b0)
  unfold heldB heldE heldBad
  obtain ⟨p, hp⟩ : ∃ p, wi s (-64) 64 = p := ⟨_, rfl⟩
  simp only [hp] at C1
  rw [hp]
  generalize anyI (fun x => decide (x < 0)) F = q at C2 ⊢
  generalize anyI (fun x => decide (x < -s)) F = r at C3 ⊢
  obtain ⟨a, cap, rfl, hl, -⟩ := h
  obtain ⟨n, hn⟩ : ∃ n, F.length = n := ⟨_, rfl⟩
  rw [hn] at C2 C3 hl ⊢
  clear hn
  cases p
  · clear hp
    go_enter Try.func34, Try.ntmps34
    go_wp2_with (go_at_call 36; with_reducible refine (C1 _).mono ?_; rintro e w1 ⟨rfl, rfl⟩)
    go_ret2
    exact ⟨by simp, b0⟩
  · have hs : -64 ≤ s ∧ s ≤ 64 := by unfold wi at hp; simp at hp; omega
    have C4 := C3 hs
    clear C3 hs hp
    by_cases h4 : 400 < n
    · have j1 : (400 : Int) < (n : Int) := by omega
      have HH : decide (400 < n) = true := by simpa using h4
      rw [HH]
      clear h4 HH
      go_enter Try.func34, Try.ntmps34
      go_wp2_with (go_at_call 36; with_reducible refine (C1 _).mono ?_; rintro e w1 ⟨rfl, rfl⟩)
      go_ret2
      exact ⟨by simp, b0⟩
    · have j1 : ¬ (400 : Int) < (n : Int) := by omega
      have HH : decide (400 < n) = false := by simpa using h4
      rw [HH]
      clear h4 HH
      cases q
      · go_enter Try.func34, Try.ntmps34
        go_wp2_with (first
          | (go_at_call 36; with_reducible refine (C1 _).mono ?_; rintro e w1 ⟨rfl, rfl⟩)
          | (go_at_call 43; with_reducible refine C2.mono ?_; rintro e w1 ⟨rfl, rfl⟩)
          | (go_at_call 43; with_reducible refine C4.mono ?_; rintro e w1 ⟨rfl, rfl⟩))
        go_ret2
        exact ⟨by simp, b0⟩
      · go_enter Try.func34, Try.ntmps34
        go_wp2_with (first
          | (go_at_call 36; with_reducible refine (C1 _).mono ?_; rintro e w1 ⟨rfl, rfl⟩)
          | (go_at_call 43; with_reducible refine C2.mono ?_; rintro e w1 ⟨rfl, rfl⟩))
        go_ret2
        exact ⟨by simp, b0⟩

end Go.Proofs.Ytiebbbeijlfedaa
