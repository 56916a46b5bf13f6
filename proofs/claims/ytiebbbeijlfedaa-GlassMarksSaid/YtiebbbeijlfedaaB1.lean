/- Walks: Grey, and the reference's within, ValidFilm, Grey. -/
import Derived.Test.YtiebbbeijlfedaaA6
namespace Go.Proofs.Ytiebbbeijlfedaa
open Go Go.RowKit Go.Proofs

set_option maxHeartbeats 400000 in
theorem refWithin_any (n lo hi : Int) (w : World) :
    Calls Try.prog 39 #[.int .i64 n, .int .i64 lo, .int .i64 hi] w fun e w' => e = .returned (.bool (wi n lo hi)) ∧ w' = w := by
  obtain ⟨v, hv⟩ : ∃ v, wi n lo hi = v := ⟨_, rfl⟩
  rw [hv]
  go_enter Try.func39, Try.ntmps39
  go_wp2
  all_goals go_ret
  all_goals refine ⟨?_, rfl⟩
  all_goals rw [← hv]; unfold wi
  all_goals simp [*]
  all_goals (intros; omega)

def greyV (id : Int) (L : List Int) (c : Int) : Int × Int :=
  if vFilm id L = true then (if wi c 1 16 = true then (if (c - 1).toNat < L.length then (iz L (c - 1).toNat, 0) else (0, 3)) else (0, 1)) else (0, 32)

set_option maxRecDepth 100000 in
set_option maxHeartbeats 2000000 in
theorem grey_any (id c : Int) (v : Value) (L : List Int) (w : World) (h : SlI w v L) :
    Calls Try.prog 28 #[film id v, .int .i64 c] w fun e w' => e = .returned (.tuple #[.int .i64 (greyV id L c).1, .int .i64 (greyV id L c).2]) ∧ Below w.heap.size w w' := by
  have b0 : Below w.heap.size w (w.alloc (filmObj id v)) := (Below.refl _ _).alloc (Nat.le_refl _) _
  have f0 := film_new w id v
  have C1 := validFilm_any id v L _ (h.keep b0)
  have C2 := fun w => colour57_any c w
  obtain ⟨q, hq⟩ : ∃ q, vFilm id L = q := ⟨_, rfl⟩
  rw [hq] at C1
  cases q
  · have hV : greyV id L c = (0, 32) := by unfold greyV; rw [hq]; rfl
    rw [hV]
    clear hV hq C2
    go_enter Try.func28, Try.ntmps28
    go_wp2_with (go_at_call 13; with_reducible refine C1.mono ?_; rintro e w1 ⟨rfl, hb⟩)
    go_ret2
    exact ⟨rfl, keep_below b0 hb⟩
  · obtain ⟨p, hp⟩ : ∃ p, wi c 1 16 = p := ⟨_, rfl⟩
    simp only [hp] at C2
    cases p
    · have hV : greyV id L c = (0, 1) := by unfold greyV; rw [hq, hp]; rfl
      rw [hV]
      clear hV hq hp
      go_enter Try.func28, Try.ntmps28
      go_wp2_with (first
        | (go_at_call 13; with_reducible refine C1.mono ?_; rintro e w1 ⟨rfl, hb⟩)
        | (go_at_call 57; with_reducible refine (C2 _).mono ?_; rintro e w2 ⟨rfl, rfl⟩))
      go_ret2
      exact ⟨rfl, keep_below b0 hb⟩
    · obtain ⟨hL, -, hval⟩ := vFilm_val hq
      have hc : 1 ≤ c ∧ c ≤ 16 := by unfold wi at hp; simp at hp; omega
      obtain ⟨m, hm⟩ : ∃ m : Nat, (c - 1).toNat = m := ⟨_, rfl⟩
      obtain rfl : c = (m : Int) + 1 := by omega
      have hm16 : m < 16 := by omega
      have hix := index94 L m hm16
      have hV : greyV id L ((m : Int) + 1) = if m < L.length then (iz L m, 0) else (0, 3) := by unfold greyV; rw [hq, hp, hm]; rfl
      have e1 : IntKind.i64.wrap (m : Int) = m := wi64 _ (by omega)
      rw [hV]
      clear hV hm hc hq hp
      by_cases hl : m < L.length
      · have hct : cellT L m = .int .i64 (iz L m) := by unfold cellT; rw [if_pos hl]
        have hg := hval m hl
        rw [hct] at hix
        rw [if_pos hl]
        generalize iz L m = g at hix hg ⊢
        have hne : ¬ g = -1 := by omega
        clear hct hg hl hval
        go_enter Try.func28, Try.ntmps28
        go_wp2_with (first
          | (go_at_call 13; with_reducible refine C1.mono ?_; rintro e w1 ⟨rfl, hb⟩
             have g1 := keep_cell hb f0.1
             have g2 := keep_cell hb f0.2
             have b1 := keep_below b0 hb
             have C3 := tableOf_any id v L w1 (h.keep b1) hL
             generalize (tab L).toArray = T at hix C3)
          | (go_at_call 57; with_reducible refine (C2 _).mono ?_; rintro e w2 ⟨rfl, rfl⟩)
          | (go_at_call 58; with_reducible refine C3.mono ?_; rintro e w3 ⟨rfl, hb'⟩))
        go_ret2
        exact ⟨rfl, keep_below b1 hb'⟩
      · have hct : cellT L m = .int .i64 (-1) := by unfold cellT; rw [if_neg hl]
        rw [hct] at hix
        rw [if_neg hl]
        clear hct hl hval
        go_enter Try.func28, Try.ntmps28
        go_wp2_with (first
          | (go_at_call 13; with_reducible refine C1.mono ?_; rintro e w1 ⟨rfl, hb⟩
             have g1 := keep_cell hb f0.1
             have g2 := keep_cell hb f0.2
             have b1 := keep_below b0 hb
             have C3 := tableOf_any id v L w1 (h.keep b1) hL
             generalize (tab L).toArray = T at hix C3)
          | (go_at_call 57; with_reducible refine (C2 _).mono ?_; rintro e w2 ⟨rfl, rfl⟩)
          | (go_at_call 58; with_reducible refine C3.mono ?_; rintro e w3 ⟨rfl, hb'⟩))
        go_ret2
        exact ⟨rfl, keep_below b1 hb'⟩

end Go.Proofs.Ytiebbbeijlfedaa
