/- Walks: lists of numbers by a test; valid films. -/
import Derived.Test.YtiebbbeijlfedaaA1
namespace Go.Proofs.Ytiebbbeijlfedaa
open Go Go.RowKit Go.Proofs

abbrev film (id : Int) (v : Value) : Value := .agg #[.int .i64 id, v]
abbrev filmObj (id : Int) (v : Value) : Obj := .cells #[.int .i64 id, v] 28

def vFilm (id : Int) (L : List Int) : Bool := wi id 1 65535 && wi L.length 1 16 && !anyI (fun x => !wi x 0 255) L

theorem film_new (w : World) (id : Int) (v : Value) : (w.alloc (filmObj id v)).cell? ⟨w.heap.size, 0, none⟩ = some (.int .i64 id) ∧ (w.alloc (filmObj id v)).cell? ⟨w.heap.size, 1, none⟩ = some v := by
  constructor <;> go_simp

set_option maxHeartbeats 1000000 in
theorem validFilm_any (id : Int) (v : Value) (L : List Int) (w : World) (h : SlI w v L) :
    Calls Try.prog 13 #[film id v] w fun e w' => e = .returned (.bool (vFilm id L)) ∧ Below w.heap.size w w' := by
  have hb : Below w.heap.size w (w.alloc (filmObj id v)) := (Below.refl _ _).alloc (Nat.le_refl _) _
  have C3 := contains42_any v L (w.alloc (filmObj id v)) (h.keep hb)
  have C1 := within_any id 1 65535 (w.alloc (filmObj id v))
  have C2 := within_any L.length 1 16 (w.alloc (filmObj id v))
  obtain ⟨a, cap, rfl, hl, -⟩ := h
  unfold vFilm
  generalize anyI (fun x => !wi x 0 255) L = r at C3 ⊢
  generalize wi id 1 65535 = p at C1 ⊢
  generalize wi L.length 1 16 = q at C2 ⊢
  generalize L.length = n at C1 C2 C3 hb hl ⊢
  cases p
  · go_enter Try.func13, Try.ntmps13
    go_wp2_with (go_at_call 36; with_reducible refine C1.mono ?_; rintro e w1 ⟨rfl, rfl⟩)
    all_goals go_ret
    exact ⟨rfl, hb⟩
  · cases q
    · go_enter Try.func13, Try.ntmps13
      go_wp2_with (first
        | (go_at_call 36; with_reducible refine C1.mono ?_; rintro e w1 ⟨rfl, rfl⟩; clear C1)
        | (go_at_call 36; with_reducible refine C2.mono ?_; rintro e w1 ⟨rfl, rfl⟩; clear C2))
      all_goals go_ret
      exact ⟨rfl, hb⟩
    · go_enter Try.func13, Try.ntmps13
      go_wp2_with (first
        | (go_at_call 36; with_reducible refine C1.mono ?_; rintro e w1 ⟨rfl, rfl⟩; clear C1)
        | (go_at_call 36; with_reducible refine C2.mono ?_; rintro e w1 ⟨rfl, rfl⟩; clear C2)
        | (go_at_call 43; with_reducible refine C3.mono ?_; rintro e w1 ⟨rfl, rfl⟩; clear C3))
      all_goals go_ret
      exact ⟨by simp, hb⟩

end Go.Proofs.Ytiebbbeijlfedaa
