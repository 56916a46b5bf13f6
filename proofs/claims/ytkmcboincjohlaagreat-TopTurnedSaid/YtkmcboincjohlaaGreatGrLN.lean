/- The abstract machine, part GrLN. -/
import Derived.Test.YtkmcboincjohlaaGreatGrLM
import Derived.Test.YtkmcboincjohlaaGreatGrLL
import Derived.Test.YtkmcboincjohlaaGreatGrLK
/- Walks: holds. -/
namespace Go.Proofs.YtkmcboincjohlaaGreat
open Go Go.RowKit Go.Proofs Go.Abs

theorem run_ms_eql (a b c x y z : Int) (w : World) : (binOp .eql 77 (ms a b c) (ms x y z)).run Tryz.prog w = .ok (.bool (a == x && (b == y && c == z))) w := by
  by_cases h1 : a = x <;> by_cases h2 : b = y <;> by_cases h3 : c = z <;> go_simp

def near (lo hi n : Int) : Int := min (max lo n) hi

/-- What each operation of the region yields. -/
def HoldV (g : G5) (a b c : Int) (B : Nat) : Nat → Value → World → Prop
  | 0, v, _ => v = ms a b c
  | 1, v, _ => v = .pointer (some ⟨B, 0, none⟩)
  | 2, v, _ => v = spn g.a g.b
  | 3, v, _ => v = .pointer (some ⟨B + 1, 0, none⟩)
  | 4, v, _ => v = .int .i64 a
  | 5, v, _ => v = .int .i64 (near g.a g.b a)
  | 6, v, _ => v = .pointer (some ⟨B, 2, none⟩)
  | 7, v, _ => v = spn g.c g.d
  | 8, v, _ => v = .pointer (some ⟨B + 1, 1, none⟩)
  | 9, v, _ => v = .int .i64 b
  | 10, v, _ => v = .int .i64 (near g.c g.d b)
  | 11, v, _ => v = .pointer (some ⟨B, 4, none⟩)
  | 12, v, _ => v = .int .i64 g.e
  | 13, v, _ => v = .pointer (some ⟨B + 1, 2, none⟩)
  | 14, v, _ => v = .int .i64 c
  | 15, v, w => ∃ p, v = .slice (some ⟨p, 0, none⟩) 2 2 ∧ w.cell? ⟨p, 0, none⟩ = some (.int .i64 g.e) ∧ w.cell? ⟨p, 1, none⟩ = some (.int .i64 c)
  | 16, v, _ => v = .int .i64 ((if g.e = 0 then c else g.e))
  | 17, v, _ => v = ms (near g.a g.b a) (near g.c g.d b) ((if g.e = 0 then c else g.e))
  | _, v, _ => v = .bool (a == near g.a g.b a && (b == near g.c g.d b && c == (if g.e = 0 then c else g.e)))

theorem HoldV.keep {g : G5} {a b c : Int} {B : Nat} : ∀ i v W W', HoldV g a b c B i v W → Below W.heap.size W W' → HoldV g a b c B i v W'
  | 0, _, _, _, h, _ => h
  | 1, _, _, _, h, _ => h
  | 2, _, _, _, h, _ => h
  | 3, _, _, _, h, _ => h
  | 4, _, _, _, h, _ => h
  | 5, _, _, _, h, _ => h
  | 6, _, _, _, h, _ => h
  | 7, _, _, _, h, _ => h
  | 8, _, _, _, h, _ => h
  | 9, _, _, _, h, _ => h
  | 10, _, _, _, h, _ => h
  | 11, _, _, _, h, _ => h
  | 12, _, _, _, h, _ => h
  | 13, _, _, _, h, _ => h
  | 14, _, _, _, h, _ => h
  | 15, _, _, _, ⟨p, h1, h2, h3⟩, hb => ⟨p, h1, keep_cell hb h2, keep_cell hb h3⟩
  | 16, _, _, _, h, _ => h
  | 17, _, _, _, h, _ => h
  | _ + 18, _, _, _, h, _ => h

set_option maxRecDepth 100000 in
set_option maxHeartbeats 4000000 in
theorem holds94_any (g : G5) (a b c : Int) (w : World) :
    Calls Tryz.prog 59 #[gg g.a g.b g.c g.d g.e, ms a b c] w fun e w' => e = .returned (.bool (a == near g.a g.b a && (b == near g.c g.d b && c == (if g.e = 0 then c else g.e)))) ∧ Below w.heap.size w w' := by
  go_enter Tryz.func59, Tryz.ntmps59
  go_wp2_with fail
  have b0 : Below w.heap.size w ((w.alloc (.cells #[.int .i64 g.a, .int .i64 g.b, .int .i64 g.c, .int .i64 g.d, .int .i64 g.e] 82)).alloc (.cells #[.int .i64 a, .int .i64 b, .int .i64 c] 77)) := ((Below.refl _ _).alloc (Nat.le_refl _) _).alloc (by simp) _
  obtain ⟨w1, hw1⟩ : ∃ w1, (w.alloc (.cells #[.int .i64 g.a, .int .i64 g.b, .int .i64 g.c, .int .i64 g.d, .int .i64 g.e] 82)).alloc (.cells #[.int .i64 a, .int .i64 b, .int .i64 c] 77) = w1 := ⟨_, rfl⟩
  have x0 : w1.heap[w.heap.size]? = some (.cells #[.int .i64 g.a, .int .i64 g.b, .int .i64 g.c, .int .i64 g.d, .int .i64 g.e] 82) := by rw [← hw1]; exact (alloc_heap_old _ _ (by simp)).trans (alloc_heap_new _ _)
  have x1 : w1.heap[w.heap.size + 1]? = some (.cells #[.int .i64 a, .int .i64 b, .int .i64 c] 77) := by
    have := alloc_heap_new (w.alloc (.cells #[.int .i64 g.a, .int .i64 g.b, .int .i64 g.c, .int .i64 g.d, .int .i64 g.e] 82)) (.cells #[.int .i64 a, .int .i64 b, .int .i64 c] 77)
    rw [World.size_alloc] at this; rw [← hw1]; exact this
  rw [hw1] at b0
  change Code.wp _ _ _ _ ((w.alloc (.cells #[.int .i64 g.a, .int .i64 g.b, .int .i64 g.c, .int .i64 g.d, .int .i64 g.e] 82)).alloc (.cells #[.int .i64 a, .int .i64 b, .int .i64 c] 77))
  rw [hw1]
  clear hw1
  refine wp_region_vals (HoldV g a b c w.heap.size) (by kernel_rfl) (by kernel_rfl) HoldV.keep ?_ ?_
  · intro i o ho a' W hW hfr hdep
    have f2 : a'.tmps[2]?.getD undef = .pointer (some ⟨w.heap.size, 0, none⟩) := Array.getD_eq_getD_getElem?.symm.trans (hfr 2 rfl)
    have f3 : a'.tmps[3]?.getD undef = .pointer (some ⟨w.heap.size + 1, 0, none⟩) := Array.getD_eq_getD_getElem?.symm.trans (hfr 3 rfl)
    have y0 := (hW.block _ (Array.getElem?_eq_some_iff.1 x0).1).trans x0
    have y1 := (hW.block _ (Array.getElem?_eq_some_iff.1 x1).1).trans x1
    clear hfr x0 x1
    have hi : i < 20 := by have := (List.getElem?_eq_some_iff.1 ho).1; simpa using this
    obtain rfl | rfl | rfl | rfl | rfl | rfl | rfl | rfl | rfl | rfl | rfl | rfl | rfl | rfl | rfl | rfl | rfl | rfl | rfl | rfl : i = 0 ∨ i = 1 ∨ i = 2 ∨ i = 3 ∨ i = 4 ∨ i = 5 ∨ i = 6 ∨ i = 7 ∨ i = 8 ∨ i = 9 ∨ i = 10 ∨ i = 11 ∨ i = 12 ∨ i = 13 ∨ i = 14 ∨ i = 15 ∨ i = 16 ∨ i = 17 ∨ i = 18 ∨ i = 19 := by omega
    all_goals simp only [List.getElem?_cons_zero, List.getElem?_cons_succ, Option.some.injEq] at ho
    all_goals subst ho
    · have c0 : W.cell? ⟨w.heap.size + 1, 0, none⟩ = some (.int .i64 a) := cell_of y1 rfl
      have c1 : W.cell? ⟨w.heap.size + 1, 1, none⟩ = some (.int .i64 b) := cell_of y1 rfl
      have c2 : W.cell? ⟨w.heap.size + 1, 2, none⟩ = some (.int .i64 c) := cell_of y1 rfl
      clear hdep y0 y1
      refine .inl ⟨_, W, ?_, Below.refl _ _, rfl⟩
      go_simp
    · clear hdep y0 y1
      refine .inl ⟨_, W, ?_, Below.refl _ _, rfl⟩
      go_simp
    · have d1 : a'.tmps[6]?.getD undef = .pointer (some ⟨w.heap.size, 0, none⟩) := Array.getD_eq_getD_getElem?.symm.trans (hdep ⟨1, .data⟩ (by simp) rfl 6 rfl)
      have c0 : W.cell? ⟨w.heap.size, 0, none⟩ = some (.int .i64 g.a) := cell_of y0 rfl
      have c1 : W.cell? ⟨w.heap.size, 1, none⟩ = some (.int .i64 g.b) := cell_of y0 rfl
      clear hdep y0 y1
      refine .inl ⟨_, W, ?_, Below.refl _ _, rfl⟩
      go_simp
    · clear hdep y0 y1
      refine .inl ⟨_, W, ?_, Below.refl _ _, rfl⟩
      go_simp
    · have d3 : a'.tmps[8]?.getD undef = .pointer (some ⟨w.heap.size + 1, 0, none⟩) := Array.getD_eq_getD_getElem?.symm.trans (hdep ⟨3, .data⟩ (by simp) rfl 8 rfl)
      have c0 : W.cell? ⟨w.heap.size + 1, 0, none⟩ = some (.int .i64 a) := cell_of y1 rfl
      clear hdep y0 y1
      refine .inl ⟨_, W, ?_, Below.refl _ _, rfl⟩
      go_simp
    · have d2 : a'.tmps[7]?.getD undef = spn g.a g.b := Array.getD_eq_getD_getElem?.symm.trans (hdep ⟨2, .data⟩ (by simp) rfl 7 rfl)
      have d4 : a'.tmps[9]?.getD undef = .int .i64 a := Array.getD_eq_getD_getElem?.symm.trans (hdep ⟨4, .data⟩ (by simp) rfl 9 rfl)
      clear hdep y0 y1
      refine .inr ⟨96, #[spn g.a g.b, .int .i64 a], W, ?_, Below.refl _ _, (nearest_any g.a g.b a W).mono ?_⟩
      · go_simp
      · rintro e W' ⟨rfl, hb⟩
        exact ⟨_, rfl, hb, rfl⟩
    · clear hdep y0 y1
      refine .inl ⟨_, W, ?_, Below.refl _ _, rfl⟩
      go_simp
    · have d6 : a'.tmps[11]?.getD undef = .pointer (some ⟨w.heap.size, 2, none⟩) := Array.getD_eq_getD_getElem?.symm.trans (hdep ⟨6, .data⟩ (by simp) rfl 11 rfl)
      have c0 : W.cell? ⟨w.heap.size, 2, none⟩ = some (.int .i64 g.c) := cell_of y0 rfl
      have c1 : W.cell? ⟨w.heap.size, 3, none⟩ = some (.int .i64 g.d) := cell_of y0 rfl
      clear hdep y0 y1
      refine .inl ⟨_, W, ?_, Below.refl _ _, rfl⟩
      go_simp
    · clear hdep y0 y1
      refine .inl ⟨_, W, ?_, Below.refl _ _, rfl⟩
      go_simp
    · have d8 : a'.tmps[13]?.getD undef = .pointer (some ⟨w.heap.size + 1, 1, none⟩) := Array.getD_eq_getD_getElem?.symm.trans (hdep ⟨8, .data⟩ (by simp) rfl 13 rfl)
      have c0 : W.cell? ⟨w.heap.size + 1, 1, none⟩ = some (.int .i64 b) := cell_of y1 rfl
      clear hdep y0 y1
      refine .inl ⟨_, W, ?_, Below.refl _ _, rfl⟩
      go_simp
    · have d7 : a'.tmps[12]?.getD undef = spn g.c g.d := Array.getD_eq_getD_getElem?.symm.trans (hdep ⟨7, .data⟩ (by simp) rfl 12 rfl)
      have d9 : a'.tmps[14]?.getD undef = .int .i64 b := Array.getD_eq_getD_getElem?.symm.trans (hdep ⟨9, .data⟩ (by simp) rfl 14 rfl)
      clear hdep y0 y1
      refine .inr ⟨96, #[spn g.c g.d, .int .i64 b], W, ?_, Below.refl _ _, (nearest_any g.c g.d b W).mono ?_⟩
      · go_simp
      · rintro e W' ⟨rfl, hb⟩
        exact ⟨_, rfl, hb, rfl⟩
    · clear hdep y0 y1
      refine .inl ⟨_, W, ?_, Below.refl _ _, rfl⟩
      go_simp
    · have d11 : a'.tmps[16]?.getD undef = .pointer (some ⟨w.heap.size, 4, none⟩) := Array.getD_eq_getD_getElem?.symm.trans (hdep ⟨11, .data⟩ (by simp) rfl 16 rfl)
      have c0 : W.cell? ⟨w.heap.size, 4, none⟩ = some (.int .i64 g.e) := cell_of y0 rfl
      clear hdep y0 y1
      refine .inl ⟨_, W, ?_, Below.refl _ _, rfl⟩
      go_simp
    · clear hdep y0 y1
      refine .inl ⟨_, W, ?_, Below.refl _ _, rfl⟩
      go_simp
    · have d13 : a'.tmps[18]?.getD undef = .pointer (some ⟨w.heap.size + 1, 2, none⟩) := Array.getD_eq_getD_getElem?.symm.trans (hdep ⟨13, .data⟩ (by simp) rfl 18 rfl)
      have c0 : W.cell? ⟨w.heap.size + 1, 2, none⟩ = some (.int .i64 c) := cell_of y1 rfl
      clear hdep y0 y1
      refine .inl ⟨_, W, ?_, Below.refl _ _, rfl⟩
      go_simp
    · have d12 : a'.tmps[17]?.getD undef = .int .i64 g.e := Array.getD_eq_getD_getElem?.symm.trans (hdep ⟨12, .data⟩ (by simp) rfl 17 rfl)
      have d14 : a'.tmps[19]?.getD undef = .int .i64 c := Array.getD_eq_getD_getElem?.symm.trans (hdep ⟨14, .data⟩ (by simp) rfl 19 rfl)
      clear hdep y0 y1
      refine .inl ⟨.slice (some ⟨W.heap.size, 0, none⟩) 2 2, W.alloc (.cells #[.int .i64 g.e, .int .i64 c] 3), ?_, (Below.refl _ _).alloc (Nat.le_refl _) _, W.heap.size, rfl, ?_, ?_⟩
      · go_simp
      · go_simp
      · go_simp
    · obtain ⟨p, d15', p0, p1⟩ := hdep ⟨15, .data⟩ (by simp) rfl 20 rfl
      have d15 : a'.tmps[20]?.getD undef = .slice (some ⟨p, 0, none⟩) 2 2 := Array.getD_eq_getD_getElem?.symm.trans d15'
      clear hdep y0 y1
      refine .inr ⟨84, #[.slice (some ⟨p, 0, none⟩) 2 2], W, ?_, Below.refl _ _, (or2_any g.e c W p 2 p0 p1).mono ?_⟩
      · go_simp
      · rintro e W' ⟨rfl, rfl⟩
        exact ⟨_, rfl, Below.refl _ _, rfl⟩
    · have d5 : a'.tmps[10]?.getD undef = .int .i64 (near g.a g.b a) := Array.getD_eq_getD_getElem?.symm.trans (hdep ⟨5, .data⟩ (by simp) rfl 10 rfl)
      have d10 : a'.tmps[15]?.getD undef = .int .i64 (near g.c g.d b) := Array.getD_eq_getD_getElem?.symm.trans (hdep ⟨10, .data⟩ (by simp) rfl 15 rfl)
      have d16 : a'.tmps[21]?.getD undef = .int .i64 (if g.e = 0 then c else g.e) := Array.getD_eq_getD_getElem?.symm.trans (hdep ⟨16, .data⟩ (by simp) rfl 21 rfl)
      clear hdep y0 y1
      refine .inl ⟨_, W, ?_, Below.refl _ _, rfl⟩
      go_simp
    · have d0 : a'.tmps[5]?.getD undef = ms a b c := Array.getD_eq_getD_getElem?.symm.trans (hdep ⟨0, .data⟩ (by simp) rfl 5 rfl)
      have d17 : a'.tmps[22]?.getD undef = ms (near g.a g.b a) (near g.c g.d b) (if g.e = 0 then c else g.e) := Array.getD_eq_getD_getElem?.symm.trans (hdep ⟨17, .data⟩ (by simp) rfl 22 rfl)
      clear hdep y0 y1
      have rq := run_ms_eql
      refine .inl ⟨_, W, ?_, Below.refl _ _, rfl⟩
      go_simp
    · have d18 : a'.tmps[23]?.getD undef = .bool (a == near g.a g.b a && (b == near g.c g.d b && c == (if g.e = 0 then c else g.e))) := Array.getD_eq_getD_getElem?.symm.trans (hdep ⟨18, .data⟩ (by simp) rfl 23 rfl)
      clear hdep y0 y1
      refine .inl ⟨_, W, ?_, Below.refl _ _, rfl⟩
      go_simp
  · intro W hW
    simp only [List.map_cons, List.map_nil, VQ]
    rintro _ rfl _ rfl _ rfl _ rfl _ rfl _ rfl _ rfl _ rfl _ rfl _ rfl _ rfl _ rfl _ rfl _ rfl _ rfl v15 ⟨p, rfl, -, -⟩ _ rfl _ rfl _ rfl _ rfl
    go_wp2
    all_goals (go_ret; exact ⟨by simp_all, keep_below b0 hW⟩)

theorem near_wi {lo hi n : Int} (h : lo ≤ hi) : (n == near lo hi n) = wi n lo hi := by
  unfold near wi
  rw [Bool.eq_iff_iff]
  simp only [beq_iff_eq, Bool.and_eq_true, decide_eq_true_eq]
  omega

theorem holds_any (g : G5) (a b c : Int) (hg : g.ok = true) (w : World) :
    Calls Tryz.prog 59 #[gg g.a g.b g.c g.d g.e, ms a b c] w fun e w' => e = .returned (.bool (okM g a b c)) ∧ Below w.heap.size w w' := by
  have e : okM g a b c = (a == near g.a g.b a && (b == near g.c g.d b && c == (if g.e = 0 then c else g.e))) := by
    unfold G5.ok vG at hg
    simp only [Bool.and_eq_true, decide_eq_true_eq] at hg
    unfold okM
    rw [near_wi (by omega), near_wi (by omega), Bool.and_assoc]
    congr 2
    by_cases h : g.e = 0
    · simp [h]
    · rw [if_neg h]
      rw [Bool.eq_iff_iff]
      simp only [Bool.or_eq_true, decide_eq_true_eq, beq_iff_eq]
      exact ⟨fun x => x.elim (fun y => absurd y h) Eq.symm, fun x => .inr x.symm⟩
  rw [e]
  exact holds94_any g a b c w

end Go.Proofs.YtkmcboincjohlaaGreat

/- Walks: DeleteFunc of a row of settings. -/
namespace Go.Proofs.YtkmcboincjohlaaGreat
open Go Go.RowKit Go.Proofs Go.Abs

/-- The block holds the settings of the list, from its start on. -/
def RowS (W : World) (g : Nat) (D : List (Nat × Bool)) : Prop := ∃ cur, W.heap[g]? = some (.cells cur 48 (0, 0)) ∧ ∀ j, j < D.length * 2 → cur[j]? = (encS D)[j]?

theorem encS_len (D : List (Nat × Bool)) : (encS D).length = D.length * 2 := by
  induction D with
  | nil => rfl
  | cons p D ih => simp [encS] at ih ⊢; omega

theorem RowS.lt {W : World} {g : Nat} {D : List (Nat × Bool)} (h : RowS W g D) : g < W.heap.size := by
  obtain ⟨cur, h, -⟩ := h
  exact (Array.getElem?_eq_some_iff.1 h).1
theorem RowS.cell {W : World} {g : Nat} {D : List (Nat × Bool)} (h : RowS W g D) {i : Nat} {p : Nat × Bool} (hp : D[i]? = some p) : W.cell? ⟨g, i * 2, none⟩ = some (.int .i64 p.1) ∧ W.cell? ⟨g, i * 2 + 1, none⟩ = some (.bool p.2) := by
  obtain ⟨cur, h1, h2⟩ := h
  have hi : i < D.length := (List.getElem?_eq_some_iff.1 hp).1
  have e := encS_get D i p hp
  exact ⟨cell_of h1 ((h2 _ (by omega)).trans e.1), cell_of h1 ((h2 _ (by omega)).trans e.2)⟩
theorem RowS.frozen {W : World} {g : Nat} {D : List (Nat × Bool)} (h : RowS W g D) (o : Nat) : W.frozen? ⟨g, o, none⟩ = false := by
  obtain ⟨cur, h1, -⟩ := h
  exact frozen_of h1
theorem RowS.keep {W W' : World} {g : Nat} {D : List (Nat × Bool)} (h : RowS W g D) (hb : Below W.heap.size W W') : RowS W' g D := by
  obtain ⟨cur, h1, h2⟩ := h
  exact ⟨cur, (hb.block g (Array.getElem?_eq_some_iff.1 h1).1).trans h1, h2⟩

theorem encS_set : ∀ (D : List (Nat × Bool)) (i s : Nat) (b : Bool), encS (D.set i (s, b)) = if i < D.length then ((encS D).set (i * 2) (.int .i64 s)).set (i * 2 + 1) (.bool b) else encS D
  | [], i, s, b => by simp [encS]
  | q :: D, 0, s, b => by simp [encS]
  | q :: D, i + 1, s, b => by
    have ih := encS_set D i s b
    have e : ∀ (p : Nat × Bool) (L : List (Nat × Bool)), encS (p :: L) = .int .i64 p.1 :: .bool p.2 :: encS L := fun p L => by simp [encS]
    rw [List.set_cons_succ, e, ih, e]
    by_cases h : i < D.length
    · rw [if_pos h, if_pos (by simpa using h), show (i + 1) * 2 = i * 2 + 1 + 1 by omega]
      simp
    · rw [if_neg h, if_neg (by simpa using h)]

theorem RowS.set {W : World} {g : Nat} {D : List (Nat × Bool)} (h : RowS W g D) {i : Nat} (hi : i < D.length) (s : Nat) (b : Bool) :
    RowS ((W.setCell ⟨g, i * 2, none⟩ (.int .i64 s)).setCell ⟨g, i * 2 + 1, none⟩ (.bool b)) g (D.set i (s, b)) := by
  obtain ⟨cur, h1, h2⟩ := h
  refine ⟨_, setCell_heap _ (setCell_heap _ h1), fun j hj => ?_⟩
  rw [List.length_set] at hj
  rw [encS_set, if_pos hi]
  have hs : ∀ j, j < D.length * 2 → j < cur.size := fun j hj => by
    have := h2 j hj
    rw [List.getElem?_eq_getElem (by rw [encS_len]; exact hj)] at this
    exact (Array.getElem?_eq_some_iff.1 this).1
  rw [Array.getElem?_setIfInBounds, List.getElem?_set, List.length_set, encS_len]
  by_cases e1 : i * 2 + 1 = j
  · rw [if_pos e1, if_pos e1, if_pos (by simpa using hs _ (by omega)), if_pos (by omega)]
  · rw [if_neg e1, if_neg e1, Array.getElem?_setIfInBounds, List.getElem?_set, encS_len]
    by_cases e2 : i * 2 = j
    · rw [if_pos e2, if_pos e2, if_pos (hs _ (by omega)), if_pos (by omega)]
    · rw [if_neg e2, if_neg e2]
      exact h2 j hj

/-- What a round leaves: those that are kept, ahead of what was there. -/
def delState (q : Nat × Bool → Bool) (D : List (Nat × Bool)) (j : Nat) : List (Nat × Bool) := (D.take j).filter q ++ D.drop ((D.take j).filter q).length

theorem kept_le (q : Nat × Bool → Bool) (D : List (Nat × Bool)) (j : Nat) : ((D.take j).filter q).length ≤ j := Nat.le_trans (List.length_filter_le _ _) (by simp; omega)
theorem kept_len (q : Nat × Bool → Bool) (D : List (Nat × Bool)) (j : Nat) : ((D.take j).filter q).length ≤ D.length := Nat.le_trans (List.length_filter_le _ _) (by simp; omega)

theorem delState_len (q : Nat × Bool → Bool) (D : List (Nat × Bool)) (j : Nat) : (delState q D j).length = D.length := by
  have := kept_len q D j
  unfold delState
  rw [List.length_append, List.length_drop]
  omega

theorem delState_get (q : Nat × Bool → Bool) (D : List (Nat × Bool)) (j k : Nat) (h : ((D.take j).filter q).length ≤ k) : (delState q D j)[k]? = D[k]? := by
  unfold delState
  rw [List.getElem?_append_right h, List.getElem?_drop]
  congr 1
  omega

theorem kept_succ {q : Nat × Bool → Bool} {D : List (Nat × Bool)} {j : Nat} {p : Nat × Bool} (hp : D[j]? = some p) : (D.take (j + 1)).filter q = (D.take j).filter q ++ (if q p then [p] else []) := by
  rw [List.take_add_one, hp, List.filter_append]
  cases h : q p <;> simp [h]

theorem delState_yes {q : Nat × Bool → Bool} {D : List (Nat × Bool)} {j : Nat} {p : Nat × Bool} (hp : D[j]? = some p) (h : q p = true) : (delState q D j).set ((D.take j).filter q).length p = delState q D (j + 1) := by
  have hj : j < D.length := (List.getElem?_eq_some_iff.1 hp).1
  have hl := kept_le q D j
  unfold delState
  rw [kept_succ hp, if_pos h]
  generalize (D.take j).filter q = K at hl ⊢
  rw [List.set_append_right _ _ (Nat.le_refl _), Nat.sub_self, List.length_append, List.append_assoc]
  congr 1
  have e : D.drop K.length = D[K.length]'(by omega) :: D.drop (K.length + 1) := by rw [List.drop_eq_getElem_cons]
  rw [e]
  rfl

theorem delState_no {q : Nat × Bool → Bool} {D : List (Nat × Bool)} {j : Nat} {p : Nat × Bool} (hp : D[j]? = some p) (h : q p = false) : delState q D j = delState q D (j + 1) := by
  unfold delState
  rw [kept_succ hp, h]
  simp

/-- Grown but for a row. -/
theorem grown_but {W X : World} (h : Below W.heap.size W X) (row : Option Nat) : W.grownBy X row := ⟨h.os, h.tape, h.output, h.size, fun k hk _ => h.block k hk⟩

theorem kept_all {q : Nat × Bool → Bool} {D : List (Nat × Bool)} {k : Nat} (h : ∀ i p, i < k → D[i]? = some p → q p = true) : (D.take k).filter q = D.take k := by
  rw [List.filter_eq_self]
  intro p hp
  obtain ⟨i, hi⟩ := List.mem_iff_getElem?.1 hp
  have hik : i < k := by
    have := (List.getElem?_eq_some_iff.1 hi).1
    simp at this; omega
  rw [List.getElem?_take, if_pos hik] at hi
  exact h i p hik hi

end Go.Proofs.YtkmcboincjohlaaGreat

/- Walks: IndexFunc and DeleteFunc of a row of settings, by the test that fitting makes. -/
namespace Go.Proofs.YtkmcboincjohlaaGreat
open Go Go.RowKit Go.Proofs Go.Abs

/-- What the test answers, whatever has been made since, and whatever the row holds. -/
def Tests (f : Nat) (lb : Array Value) (q : Nat × Bool → Bool) (g : Nat) (w : World) (D : List (Nat × Bool)) : Prop :=
  ∀ W p, w.grownBy W (some g) → p ∈ D → Calls Tryz.prog f (#[st p.1 p.2] ++ lb) W fun e W' => e = .returned (.bool (!q p)) ∧ Below W.heap.size W W'

set_option maxRecDepth 100000 in
set_option maxHeartbeats 4000000 in
theorem indexOf93_any (l0 l1 l2 : Value) (q : Nat × Bool → Bool) (g cap : Nat) (D : List (Nat × Bool)) (hl : D.length ≤ 1000) (w : World) (hr : RowS w g D) (ht : Tests 58 #[l0, l1, l2] q g w D) :
    Calls Tryz.prog 95 #[.slice (some ⟨g, 0, none⟩) D.length cap, .func (.func 58) #[] #[l0, l1, l2]] w fun e w' =>
      ((e = .returned (.int .i64 (-1)) ∧ D.filter q = D) ∨ (∃ k p, e = .returned (.int .i64 (k : Nat)) ∧ D[k]? = some p ∧ q p = false ∧ (D.take k).filter q = D.take k)) ∧ Below w.heap.size w w' := by
  have HT := Lib.hid ht
  have HR := Lib.hid hr
  obtain ⟨n, hn⟩ : ∃ n, D.length = n := ⟨_, rfl⟩
  have HN := Lib.hid hn
  rw [hn] at hl ⊢
  clear hn ht hr
  go_enter Tryz.func95, Tryz.ntmps95
  go_wp2_with fail
  go_loopw [8] (fun i wr => ∃ k : Nat, k ≤ n ∧ i = .int .i64 k ∧ Below w.heap.size w wr ∧ Hid (∀ j p, j < k → D[j]? = some p → q p = true)) (fun i _ => n - (intOf i).toNat)
  case atStart => exact ⟨0, Nat.zero_le _, rfl, Below.refl _ _, Lib.hid (fun j p h => by omega)⟩
  case round =>
    obtain ⟨k, hk, rfl, hbel, HK⟩ := hrel
    by_cases hlt : k < n
    · have j1 : (k : Int) < (n : Int) := by omega
      obtain ⟨p, hp⟩ : ∃ p, D[k]? = some p := (⟨_, List.getElem?_eq_getElem (by rw [HN.out]; exact hlt)⟩ : ∃ p, D[k]? = some p)
      have hm : p ∈ D := List.mem_of_getElem? hp
      obtain ⟨a0, a1⟩ := (HR.out.keep hbel).cell hp
      have C := HT.out wr p (grown_but hbel _) hm
      have HP := Lib.hid hp
      clear hp hm
      obtain ⟨s, b⟩ := p
      simp only [List.append_toArray, List.cons_append, List.nil_append] at C a0 a1
      cases hq : q (s, b)
      · rw [hq] at C
        have HQ := Lib.hid hq
        clear hq
        go_wp2_with (first | (go_at_call 58; with_reducible refine C.mono ?_; rintro e w2 ⟨rfl, hb⟩))
        go_ret
        refine ⟨.inr ⟨k, (s, b), rfl, HP.out, HQ.out, kept_all HK.out⟩, keep_below hbel hb⟩
      · rw [hq] at C
        have HQ := Lib.hid hq
        clear hq
        go_wp2_with (first | (go_at_call 58; with_reducible refine C.mono ?_; rintro e w2 ⟨rfl, hb⟩))
        refine ⟨⟨k + 1, by omega, by simp, keep_below hbel hb, Lib.hid (fun j p h hj => ?_)⟩, by simp [intOf]; omega⟩
        by_cases e : j = k
        · subst e
          rw [HP.out] at hj
          cases hj
          exact HQ.out
        · exact HK.out j p (by omega) hj
    · obtain rfl : k = n := by omega
      go_wp2
      go_ret
      refine ⟨.inl ⟨rfl, ?_⟩, hbel⟩
      have := kept_all HK.out
      rwa [List.take_of_length_le (by rw [HN.out]; omega)] at this

end Go.Proofs.YtkmcboincjohlaaGreat

/- Walks: DeleteFunc of a row of settings. -/
namespace Go.Proofs.YtkmcboincjohlaaGreat
open Go Go.RowKit Go.Proofs Go.Abs

theorem RowS.setCells {g : Nat} : ∀ (vs : List Value) (o : Nat) (W : World) (D : List (Nat × Bool)), RowS W g D → D.length * 2 ≤ o → RowS (W.setCells g o vs) g D
  | [], _, _, _, h, _ => h
  | v :: r, o, W, D, h, ho => by
    refine RowS.setCells r (o + 1) _ D ?_ (by omega)
    obtain ⟨cur, h1, h2⟩ := h
    exact ⟨_, setCell_heap _ h1, fun j hj => by rw [Array.getElem?_setIfInBounds_ne (by omega)]; exact h2 j hj⟩

theorem RowS.prefix_ {W : World} {g : Nat} {A B : List (Nat × Bool)} (h : RowS W g (A ++ B)) : RowS W g A := by
  obtain ⟨cur, h1, h2⟩ := h
  refine ⟨cur, h1, fun j hj => ?_⟩
  rw [h2 j (by simp; omega)]
  have e : encS (A ++ B) = encS A ++ encS B := by simp [encS]
  rw [e, List.getElem?_append_left (by rw [encS_len]; omega)]

theorem grownS_cell (g : Nat) (W : World) (o : Nat) (v : Value) : W.grownBy (W.setCell ⟨g, o, none⟩ v) (some g) := ⟨rfl, rfl, rfl, by simp [World.setCell], fun k _ hn => Below.heap_setCell W ⟨g, o, none⟩ v k (fun e => hn (by rw [e]))⟩
theorem grown_setCellsS (g : Nat) : ∀ (vs : List Value) (o : Nat) (W : World), W.grownBy (W.setCells g o vs) (some g)
  | [], _, W => World.grownBy.refl W _
  | v :: r, o, W => (grownS_cell g W o v).trans (grown_setCellsS g r (o + 1) _)

theorem run_clear_st (w : World) (ty : TypeId) (g o m c : Nat) (hx : ∀ j, j < (m + 1) * 2 → (w.cell? ⟨g, o + j, none⟩).isSome = true) (hz : ∀ j, w.frozen? ⟨g, j, none⟩ = false) :
    ∃ Z, (Builtin.clear_ #[42] ty #[.slice (some ⟨g, o, none⟩) (m + 1) c]).run Tryz.prog w = .ok (.tuple #[]) (w.setCells g o Z) := by
  obtain ⟨Z, hZ⟩ : ∃ Z, (Builtin.zeroCells (st 0 false).cells (m + 1)).toList = Z := ⟨_, rfl⟩
  have hlen : Z.length = (m + 1) * 2 := by rw [← hZ]; unfold Builtin.zeroCells; simp; rfl
  have hst := run_storeCells_cells (P := Tryz.prog) g o Z 0 w
    (by intro j hj; simpa using hx j (by omega))
    (by intro j hj; exact hz _)
    (by intro v hv
        rw [← hZ] at hv
        unfold Builtin.zeroCells at hv
        simp only [Array.toList_map, List.mem_map] at hv
        obtain ⟨i, -, rfl⟩ := hv
        have e : i % (st 0 false).cells.size = 0 ∨ i % (st 0 false).cells.size = 1 := by
          have : (st 0 false).cells.size = 2 := rfl
          rw [this]; omega
        rcases e with e | e <;> rw [e] <;> rfl)
  simp only [Nat.add_zero] at hst
  refine ⟨Z, ?_⟩
  simp [Builtin.clear_, run_underlying Tryz.underlying42]
  rw [hZ, hst]
  rfl

set_option maxRecDepth 100000 in
set_option maxHeartbeats 8000000 in
theorem delete93_any (l0 l1 l2 : Value) (q : Nat × Bool → Bool) (g cap : Nat) (D : List (Nat × Bool)) (hl : D.length ≤ 1000) (hc : D.length ≤ cap) (w : World) (hr : RowS w g D) (ht : Tests 58 #[l0, l1, l2] q g w D) :
    Calls Tryz.prog 57 #[.slice (some ⟨g, 0, none⟩) D.length cap, .func (.func 58) #[] #[l0, l1, l2]] w fun e w' =>
      e = .returned (.slice (some ⟨g, 0, none⟩) (D.filter q).length cap) ∧ RowS w' g (D.filter q) ∧ w.grownBy w' (some g) := by
  have CI := indexOf93_any l0 l1 l2 q g cap D hl w hr ht
  have HT := Lib.hid ht
  have HR := Lib.hid hr
  have HN := Lib.hid (Eq.refl D.length)
  obtain ⟨n, hn⟩ : ∃ n, D.length = n := ⟨_, rfl⟩
  replace HN := Lib.hid hn
  rw [hn] at hl hc CI ⊢
  have hglt := hr.lt
  clear hn ht hr
  go_enter Tryz.func57, Tryz.ntmps57
  go_wp2_with fail
  refine CI.mono ?_
  rintro e w1 ⟨h | h, hb1⟩
  · obtain ⟨rfl, hf⟩ := h
    go_wp2
    go_ret
    rw [hf, HN.out]
    exact ⟨rfl, HR.out.keep hb1, grown_but hb1 _⟩
  · obtain ⟨k0, p0, rfl, hp0, hq0, hk0⟩ := h
    have hk0n : k0 < n := by rw [← HN.out]; exact (List.getElem?_eq_some_iff.1 hp0).1
    have e1 : (D.take (k0 + 1)).filter q = D.take k0 := by rw [kept_succ hp0, hq0, hk0]; simp
    have l1' : ((D.take (k0 + 1)).filter q).length = k0 := by rw [e1, List.length_take, HN.out]; omega
    have r1 : RowS w1 g (delState q D (k0 + 1)) := by
      have : delState q D (k0 + 1) = D := by unfold delState; rw [l1', e1, List.take_append_drop]
      rw [this]
      exact HR.out.keep hb1
    have HL := Lib.hid l1'
    have n0 : ((k0 : Int) == -1) = false := by
      rw [beq_eq_false_iff_ne]; omega
    have gb1 := grown_but hb1 (some g)
    have U0 : IntKind.i64.wrap ((k0 : Int) + 1) = (k0 : Int) + 1 := wi64 _ (by omega)
    clear hp0 hq0 hk0 e1 l1' hb1
    go_wp2_with fail
    go_loopw [5, 6] (fun i j wr => ∃ a k : Nat, k ≤ n ∧ a < k ∧ i = .int .i64 a ∧ j = .int .i64 k ∧ Hid (((D.take k).filter q).length = a) ∧ RowS wr g (delState q D k) ∧ w.grownBy wr (some g)) (fun _ j _ => n - (intOf j).toNat)
    case atStart => exact ⟨k0, k0 + 1, by omega, by omega, rfl, by simp, HL, r1, gb1⟩
    case round =>
      clear r1 gb1 HL U0
      obtain ⟨a, k, hk, hak, rfl, rfl, HA, hrow, hgr⟩ := hrel
      by_cases hlt : k < n
      · have j1 : (k : Int) < (n : Int) := by omega
        have j2 : (a : Int) < (n : Int) := by omega
        obtain ⟨p, hp⟩ : ∃ p, D[k]? = some p := ⟨_, List.getElem?_eq_getElem (by rw [HN.out]; exact hlt)⟩
        have hm : p ∈ D := List.mem_of_getElem? hp
        have hp' : (delState q D k)[k]? = some p := by rw [delState_get q D k k (kept_le q D k)]; exact hp
        obtain ⟨a0, a1⟩ := hrow.cell hp'
        have hal : a < (delState q D k).length := by rw [delState_len, HN.out]; omega
        have C := fun W (hb : Below wr.heap.size wr W) => HT.out W p (hgr.trans (grown_but hb _)) hm
        have HROW := Lib.hid hrow
        have HP := Lib.hid hp
        have sz := hgr.size
        clear hp hm hp' hrow
        obtain ⟨s, b⟩ := p
        simp only [List.append_toArray, List.cons_append, List.nil_append] at C a0 a1
        have B1 : Below wr.heap.size wr (wr.alloc (stObj s b)) := (Below.refl _ _).alloc (Nat.le_refl _) _
        have U1 : IntKind.i64.wrap ((k : Int) + 1) = (k : Int) + 1 := wi64 _ (by omega)
        have U2 : IntKind.i64.wrap ((a : Int) + 1) = (a : Int) + 1 := wi64 _ (by omega)
        have nb := st_new wr s b
        cases hq : q (s, b)
        · have HQ := Lib.hid hq
          rw [hq] at C
          clear hq
          go_wp2_with (first | (go_at_call 58; with_reducible refine (C _ B1).mono ?_; rintro e w2 ⟨rfl, hb⟩))
          have hb2 := keep_below B1 hb
          go_roundw
          case rel =>
            refine ⟨a, k + 1, by omega, by omega, rfl, by simp, Lib.hid ?_, ?_, hgr.trans (grown_but hb2 _)⟩
            · rw [kept_succ HP.out, HQ.out]; simpa using HA.out
            · rw [← delState_no HP.out HQ.out]
              exact HROW.out.keep hb2
          case measure => simp [intOf]; omega
        · have HQ := Lib.hid hq
          rw [hq] at C
          clear hq
          go_wp2_with (first
            | (go_at_call 58; with_reducible refine (C _ B1).mono ?_; rintro e w2 ⟨rfl, hb⟩
               have hb2 := keep_below B1 hb
               have row2 := HROW.out.keep hb2
               have m0 := keep_cell hb nb.1
               have m1 := keep_cell hb nb.2
               obtain ⟨⟨t, c⟩, ht⟩ : ∃ p, (delState q D k)[a]? = some p := ⟨_, List.getElem?_eq_getElem hal⟩
               have x0 := (row2.cell ht).1
               have x1 := (row2.cell ht).2
               have z0 := row2.frozen (a * 2)
               have z1 := row2.frozen (a * 2 + 1)
               have HR2 := Lib.hid row2
               clear row2 ht hb nb))
          go_roundw
          case rel =>
            refine ⟨a + 1, k + 1, by omega, by omega, by simp, by simp, Lib.hid ?_, ?_, ?_⟩
            · rw [kept_succ HP.out, HQ.out, if_pos rfl, List.length_append, HA.out]; rfl
            · rw [← delState_yes HP.out HQ.out, HA.out]
              exact HR2.out.set hal s b
            · exact ((hgr.trans (grown_but hb2 _)).trans (grownS_cell g _ _ _)).trans (grownS_cell g _ _ _)
          case measure => simp [intOf]; omega
      · obtain rfl : k = n := by omega
        have hF : (D.take k).filter q = D.filter q := by rw [List.take_of_length_le (by rw [HN.out]; omega)]
        have hFl : (D.filter q).length = a := by rw [← hF]; exact HA.out
        have HF := Lib.hid hFl
        obtain ⟨m, hm⟩ : ∃ m, k - a = m + 1 := ⟨k - a - 1, by omega⟩
        have RC := fun ty => run_clear_st wr ty g (a * 2) m (cap - a) (fun j hj => by
          obtain ⟨p, hp⟩ : ∃ p, (delState q D k)[a + j / 2]? = some p := ⟨_, List.getElem?_eq_getElem (by rw [delState_len, HN.out]; omega)⟩
          obtain ⟨c0, c1⟩ := hrow.cell hp
          rcases (show a * 2 + j = (a + j / 2) * 2 ∨ a * 2 + j = (a + j / 2) * 2 + 1 by omega) with e | e
          · rw [e, c0]; rfl
          · rw [e, c1]; rfl) (fun j => hrow.frozen j)
        have hrow2 : RowS wr g (D.filter q) := by
          have h := hrow
          unfold delState at h
          rw [hF] at h
          exact h.prefix_
        have HROW := Lib.hid hrow2
        clear hrow hrow2 hF hFl
        obtain ⟨Z, hZ⟩ : ∃ Z, ∀ ty, (Builtin.clear_ #[42] ty #[.slice (some ⟨g, a * 2, none⟩) (m + 1) (cap - a)]).run Tryz.prog wr = .ok (.tuple #[]) (wr.setCells g (a * 2) Z) := by
          obtain ⟨Z, h⟩ := RC 0
          exact ⟨Z, fun ty => h⟩
        clear RC
        have j1 : (a : Int) ≤ (k : Int) := by omega
        have j2 : (k : Int) ≤ (cap : Int) := by omega
        have j3 : (a : Int) ≤ (cap : Int) := by omega
        have e7 : ¬ cap = a := by omega
        go_wp2
        go_ret
        rw [HF.out]
        exact ⟨rfl, HROW.out.setCells Z _ _ _ (by rw [HF.out]; omega), hgr.trans (grown_setCellsS g Z _ _)⟩

end Go.Proofs.YtkmcboincjohlaaGreat

/- Walks: settings. -/
namespace Go.Proofs.YtkmcboincjohlaaGreat
open Go Go.RowKit Go.Proofs Go.Abs

theorem st_four_new (w : World) (k : Int) : ∀ j u, [Value.int .i64 k, .bool false, .int .i64 k, .bool true][j]? = some u → (w.alloc (.cells #[.int .i64 k, .bool false, .int .i64 k, .bool true] 48)).cell? ((⟨w.heap.size, 0, none⟩ : Addr).add j) = some u := by
  intro j u h
  match j, h with
  | 0, h => simp at h; subst h; simp [Addr.add]
  | 1, h => simp at h; subst h; simp [Addr.add]
  | 2, h => simp at h; subst h; simp [Addr.add]
  | 3, h => simp at h; subst h; simp [Addr.add]
  | j + 4, h => simp at h

theorem st_four_cells (k : Int) : ∀ u ∈ [Value.int .i64 k, .bool false, .int .i64 k, .bool true], u.oneCell' = true := by
  intro u hu
  simp only [List.mem_cons, List.not_mem_nil, or_false] at hu
  rcases hu with rfl | rfl | rfl | rfl <;> rfl

set_option maxRecDepth 100000 in
set_option maxHeartbeats 4000000 in
theorem settings48_any (n : Nat) (hn : n ≤ 24) (w : World) :
    Calls Tryz.prog 28 #[.int .i64 n] w fun e w' => ∃ v, e = .returned v ∧ w'.ownsRow w.heap.size 48 2 v (allS n).length (encS (allS n)) ∧ Below w.heap.size w w' := by
  obtain ⟨i0, hi, hz0, hz1, hz2⟩ := info_parts info28
  go_enter Tryz.func28, Tryz.ntmps28
  go_wp2_with fail
  go_loopw [3, 6] (fun v i wr => ∃ k : Nat, k ≤ n ∧ i = .int .i64 k ∧ wr.ownsRow w.heap.size 48 2 v (allS k).length (encS (allS k)) ∧ Below w.heap.size w wr) (fun _ i _ => n - (intOf i).toNat)
  case atStart => exact ⟨0, Nat.zero_le _, rfl, World.ownsRow_nil _ _ _ _, Below.refl _ _⟩
  case round =>
    obtain ⟨k, hk, rfl, hown, hbel⟩ := hrel
    by_cases hlt : k < n
    · have j1 : (k : Int) < (n : Int) := by omega
      have hl := allS_len k
      have hs := allS_succ k
      generalize allS k = L at hown hl hs
      have HS := Lib.hid hs
      clear hs
      go_wp2_with (at_builtin; refine wpList_append_own _ rfl _ _ 42 rfl w.heap.size 48 i0 (.agg #[.int .i64 0, .bool false]) 2 16 Tryz.underlying42 hi hz0 hz1 hz2 rfl (by decide) _ _ _ rfl (hown.alloc _) _ 2 2 [.int .i64 k, .bool false, .int .i64 k, .bool true] rfl rfl (st_four_new _ _) (st_four_cells _) (by unfold maxLen; omega) (by first | omega | (simp; done) | (simp; omega)) (by have := hbel.size; simp; omega) ?_; intro v1 w6 hown6 hgrow6 hnil6)
      have bel6 := (hbel.alloc hbel.size (.cells #[.int .i64 k, .bool false, .int .i64 k, .bool true] 48)).grown hgrow6 (by have := hbel.size; simp; omega) (fun j hj => (hown.lt j hj).1)
      refine ⟨⟨k + 1, by omega, by simp, ?_, bel6⟩, by simp [intOf]; omega⟩
      rw [HS.out]
      have e : encS (L ++ [(k, false), (k, true)]) = encS L ++ [.int .i64 k, .bool false, .int .i64 k, .bool true] := by simp [encS]
      rw [e]
      simpa using hown6
    · obtain rfl : k = n := by omega
      go_wp2
      go_ret
      exact ⟨_, rfl, hown, hbel⟩

end Go.Proofs.YtkmcboincjohlaaGreat
