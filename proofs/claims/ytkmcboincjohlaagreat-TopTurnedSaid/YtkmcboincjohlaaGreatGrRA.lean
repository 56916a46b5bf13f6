/- The abstract machine, part GrRA. -/
import Derived.Test.YtkmcboincjohlaaGreatHM
import Derived.Test.YtkmcboincjohlaaGreatH0
import Derived.ArgAppend
/- Marks compared, and the world behind it. -/
namespace Go.Proofs.YtkmcboincjohlaaGreat
open Go Go.RowKit Go.Proofs

set_option maxRecDepth 100000 in
set_option maxHeartbeats 2000000 in
theorem compareMarks_grow (x y z p q r : Int) (w : World) :
    Calls Tryz.prog 68 #[mk x y z, mk p q r] w fun e w' => e = .returned (.int .i64 (cmpM x y z p q r)) ∧ ∃ q os', w' = Sort.grow (w.drewN q) os' := by
  have C0 := fun w => compare_any x p w
  have C1 := fun w => compare_any y q w
  have C2 := fun w => compare_any z r w
  unfold cmpM
  generalize Lib.compareInt x p = u0 at C0 ⊢
  generalize Lib.compareInt y q = u1 at C1 ⊢
  generalize Lib.compareInt z r = u2 at C2 ⊢
  go_enter Tryz.func68, Tryz.ntmps68
  go_wp2_with fail
  obtain ⟨b0, m0, m1⟩ := mk2 w x y z p q r
  obtain ⟨W, hW⟩ : ∃ W, (w.alloc (mkObj x y z)).alloc (mkObj p q r) = W := ⟨_, rfl⟩
  simp only [hW] at b0 m0 m1
  change Code.wp _ _ _ _ ((w.alloc (mkObj x y z)).alloc (mkObj p q r))
  rw [hW]
  have HW := Lib.hid hW
  clear hW
  have d0 : ({ W with drawn := W.drawn + 1 } : World).cell? ⟨w.heap.size, 0, none⟩ = some (.int .i64 x) := m0.c0
  have d1 : ({ W with drawn := W.drawn + 1 } : World).cell? ⟨w.heap.size, 1, none⟩ = some (.int .i64 y) := m0.c1
  have d2 : ({ W with drawn := W.drawn + 1 } : World).cell? ⟨w.heap.size, 2, none⟩ = some (.int .i64 z) := m0.c2
  have d3 : ({ W with drawn := W.drawn + 1 } : World).cell? ⟨w.heap.size + 1, 0, none⟩ = some (.int .i64 p) := m1.c0
  have d4 : ({ W with drawn := W.drawn + 1 } : World).cell? ⟨w.heap.size + 1, 1, none⟩ = some (.int .i64 q) := m1.c1
  have d5 : ({ W with drawn := W.drawn + 1 } : World).cell? ⟨w.heap.size + 1, 2, none⟩ = some (.int .i64 r) := m1.c2
  have c0 := m0.c0
  have c1 := m0.c1
  have c2 := m0.c2
  have c3 := m1.c0
  have c4 := m1.c1
  have c5 := m1.c2
  go_still_tail 15, (by kernel_rfl)
  still_call (C0 _)
  repeat still_step
  still_call (C1 _)
  repeat still_step
  still_call (C2 _)
  repeat still_step
  refine wpStill_nil ?_
  clear d0 d1 d2 d3 d4 d5 m0 m1 c0 c1 c2 c3 c4 c5
  change wpList _ _ _ _ _ W.drew
  go_wp2_with fail
  have o0 : ((W.alloc (.cells #[.int .i64 u0, .int .i64 u1, .int .i64 u2] 3)).drew).cell? ⟨W.heap.size, 0, none⟩ = some (.int .i64 u0) := by go_simp
  have o1 : ((W.alloc (.cells #[.int .i64 u0, .int .i64 u1, .int .i64 u2] 3)).drew).cell? ⟨W.heap.size, 1, none⟩ = some (.int .i64 u1) := by go_simp
  have o2 : ((W.alloc (.cells #[.int .i64 u0, .int .i64 u1, .int .i64 u2] 3)).drew).cell? ⟨W.heap.size, 2, none⟩ = some (.int .i64 u2) := by go_simp
  have O := or3_any u0 u1 u2 _ W.heap.size 3 o0 o1 o2
  refine O.mono ?_
  rintro e w2 ⟨rfl, rfl⟩
  clear o0 o1 o2 O
  go_wp2
  go_ret
  exact ⟨rfl, 1, #[mkObj x y z, mkObj p q r, .cells #[.int .i64 u0, .int .i64 u1, .int .i64 u2] 3], by rw [← HW.out]; rfl⟩


end Go.Proofs.YtkmcboincjohlaaGreat

/- Rows of marks that are turned in place, and sorted. -/
namespace Go.Proofs.YtkmcboincjohlaaGreat
open Go Go.RowKit Go.Proofs

/-- A cell of marks. -/
def mcell (D : List M3) (j : Nat) : Value := if j % 3 = 0 then .int .i64 (mq D (j / 3)).x else if j % 3 = 1 then .int .i64 (mq D (j / 3)).y else .int .i64 (mq D (j / 3)).z

/-- The block holds the marks of the list, from its start on. -/
structure RowM (W : World) (g : Nat) (D : List M3) : Prop where
  lt : g < W.heap.size
  c : ∀ j, j < D.length * 3 → W.cell? ⟨g, j, none⟩ = some (mcell D j) ∧ W.frozen? ⟨g, j, none⟩ = false

theorem mcell_0 (D : List M3) (k : Nat) : mcell D (k * 3) = .int .i64 (mq D k).x := by
  unfold mcell; rw [if_pos (by omega), show k * 3 / 3 = k by omega]
theorem mcell_1 (D : List M3) (k : Nat) : mcell D (k * 3 + 1) = .int .i64 (mq D k).y := by
  unfold mcell; rw [if_neg (by omega), if_pos (by omega), show (k * 3 + 1) / 3 = k by omega]
theorem mcell_2 (D : List M3) (k : Nat) : mcell D (k * 3 + 2) = .int .i64 (mq D k).z := by
  unfold mcell; rw [if_neg (by omega), if_neg (by omega), show (k * 3 + 2) / 3 = k by omega]

theorem mcell_mv {D : List M3} {j : Nat} (h : j < D.length * 3) : (mv D)[j]? = some (mcell D j) := by
  obtain ⟨h0, h1, h2⟩ := mv_get D (j / 3) (by omega)
  rcases (show j = j / 3 * 3 ∨ j = j / 3 * 3 + 1 ∨ j = j / 3 * 3 + 2 by omega) with e | e | e
  · rw [e, h0, mcell_0]
  · rw [e, h1, mcell_1]
  · rw [e, h2, mcell_2]

theorem RowM.at {W : World} {g : Nat} {D : List M3} (h : RowM W g D) {k : Nat} (hk : k < D.length) :
    W.cell? ⟨g, k * 3, none⟩ = some (.int .i64 (mq D k).x) ∧ W.cell? ⟨g, k * 3 + 1, none⟩ = some (.int .i64 (mq D k).y) ∧ W.cell? ⟨g, k * 3 + 2, none⟩ = some (.int .i64 (mq D k).z) := by
  have a := (h.c (k * 3) (by omega)).1
  have b := (h.c (k * 3 + 1) (by omega)).1
  have c := (h.c (k * 3 + 2) (by omega)).1
  rw [mcell_0] at a
  rw [mcell_1] at b
  rw [mcell_2] at c
  exact ⟨a, b, c⟩

theorem RowM.keep {W W' : World} {g : Nat} {D : List M3} (h : RowM W g D) (hb : Below W.heap.size W W') : RowM W' g D :=
  ⟨Nat.lt_of_lt_of_le h.lt hb.size, fun j hj => ⟨keep_cell hb (h.c j hj).1, (hb.frozen h.lt).trans (h.c j hj).2⟩⟩

theorem RowM.slm {W : World} {g : Nat} {D : List M3} (h : RowM W g D) (cap : Nat) (hl : D.length ≤ 1000000) : SlM W (.slice (some ⟨g, 0, none⟩) D.length cap) D :=
  ⟨_, cap, rfl, by omega, fun k hk => ⟨g, 0, rfl, by rw [Nat.zero_add]; exact (h.at hk).1, by rw [Nat.zero_add]; exact (h.at hk).2.1, by rw [Nat.zero_add]; exact (h.at hk).2.2⟩⟩

theorem mq_set (D : List M3) (k i : Nat) (m : M3) (hk : k < D.length) : mq (D.set k m) i = if i = k then m else mq D i := by
  unfold mq
  simp only [List.getD_eq_getElem?_getD, List.getElem?_set]
  by_cases e : k = i
  · subst e; rw [if_pos rfl, if_pos hk, if_pos rfl]; rfl
  · rw [if_neg e, if_neg (fun h => e h.symm)]

theorem RowM.put {W : World} {g : Nat} {D : List M3} (h : RowM W g D) {k o : Nat} (m : M3) (v : Value)
    (hv : ∀ j, j < D.length * 3 → mcell (D.set k m) j = if j = k * 3 + o then v else mcell D j) : RowM (W.setCell ⟨g, k * 3 + o, none⟩ v) g (D.set k m) := by
  refine ⟨by simpa [World.setCell] using h.lt, fun j hj => ?_⟩
  rw [List.length_set] at hj
  refine ⟨?_, by rw [World.frozen?_setCell]; exact (h.c j hj).2⟩
  rw [hv j hj]
  by_cases e : j = k * 3 + o
  · subst e
    rw [if_pos rfl]
    exact World.cell?_setCell_same _ _ _ (h.c _ hj).1
  · rw [if_neg e, World.cell?_setCell_other (h := fun x => e (by cases x; rfl))]
    exact (h.c j hj).1

theorem RowM.setX {W : World} {g : Nat} {D : List M3} (h : RowM W g D) {k : Nat} (hk : k < D.length) (x : Int) : RowM (W.setCell ⟨g, k * 3, none⟩ (.int .i64 x)) g (D.set k ⟨x, (mq D k).y, (mq D k).z⟩) := by
  have := h.put (o := 0) ⟨x, (mq D k).y, (mq D k).z⟩ (.int .i64 x) (fun j _ => by
    unfold mcell
    rw [mq_set D k (j / 3) _ hk]
    by_cases e : j / 3 = k
    · rw [if_pos e, e]
      (repeat' split) <;> first | rfl | omega
    · rw [if_neg e]
      have e2 : ¬ j = k * 3 + 0 := by omega
      simp only [e2, if_false])
  exact this
theorem RowM.setY {W : World} {g : Nat} {D : List M3} (h : RowM W g D) {k : Nat} (hk : k < D.length) (y : Int) : RowM (W.setCell ⟨g, k * 3 + 1, none⟩ (.int .i64 y)) g (D.set k ⟨(mq D k).x, y, (mq D k).z⟩) := by
  have := h.put (o := 1) ⟨(mq D k).x, y, (mq D k).z⟩ (.int .i64 y) (fun j _ => by
    unfold mcell
    rw [mq_set D k (j / 3) _ hk]
    by_cases e : j / 3 = k
    · rw [if_pos e, e]
      (repeat' split) <;> first | rfl | omega
    · rw [if_neg e]
      have e2 : ¬ j = k * 3 + 1 := by omega
      simp only [e2, if_false])
  exact this

theorem rowM_own {W : World} {B : Nat} {v : Value} {D : List M3} (h : W.ownsRow B 59 3 v D.length (mv D)) (hD : 0 < D.length) : ∃ g cap, v = .slice (some ⟨g, 0, none⟩) D.length cap ∧ B ≤ g ∧ RowM W g D := by
  rcases h.2 with ⟨-, h2⟩ | ⟨g, cap, cur, rfl, e2, e3, e4, e5, e6, e7⟩
  · omega
  · exact ⟨g, cap, rfl, e2, (Array.getElem?_eq_some_iff.1 e3).1, fun j hj => ⟨by rw [h.cellAt j (by omega), mcell_mv hj], h.frozenAt j⟩⟩

/-! ### the order of marks, and the sort -/

def cfM (a b : M3) : Int := cmpM a.x a.y a.z b.x b.y b.z

theorem ltM_iff (a b : M3) : Go.Proofs.ltOf cfM a b = true ↔ a.x < b.x ∨ a.x = b.x ∧ (a.y < b.y ∨ a.y = b.y ∧ a.z < b.z) := by
  unfold Go.Proofs.ltOf cfM
  rw [cmpM_lt]
  by_cases h1 : a.x = b.x
  · rw [if_pos h1]
    by_cases h2 : a.y = b.y
    · rw [if_pos h2, decide_eq_true_eq]; omega
    · rw [if_neg h2, decide_eq_true_eq]; omega
  · rw [if_neg h1, decide_eq_true_eq]; omega

theorem ltM_not (a b : M3) : Go.Proofs.ltOf cfM a b = false ↔ ¬ (a.x < b.x ∨ a.x = b.x ∧ (a.y < b.y ∨ a.y = b.y ∧ a.z < b.z)) := by
  rw [← ltM_iff, Bool.not_eq_true]

theorem swoM : Go.Sort.SWO (Go.Proofs.ltOf cfM) where
  irrefl := fun a => by rw [ltM_not]; omega
  trans := fun a b c h1 h2 => by rw [ltM_iff] at *; omega
  ntrans := fun a b c h1 h2 => by rw [ltM_not] at *; omega

theorem partM (a b : M3) (h1 : Go.Proofs.ltOf cfM a b = false) (h2 : Go.Proofs.ltOf cfM b a = false) : a = b := by
  rw [ltM_not] at h1 h2
  obtain ⟨ax, ay, az⟩ := a
  obtain ⟨bx, by_, bz⟩ := b
  simp only at h1 h2
  have e1 : ax = bx := by omega
  have e2 : ay = by_ := by omega
  have e3 : az = bz := by omega
  subst e1 e2 e3
  rfl

def sortM (D : List M3) : List M3 := D.mergeSort fun x y => !Go.Proofs.ltOf cfM y x

theorem sortM_len (D : List M3) : (sortM D).length = D.length := List.length_mergeSort _

end Go.Proofs.YtkmcboincjohlaaGreat

/- Walks: Clone of marks. -/
namespace Go.Proofs.YtkmcboincjohlaaGreat
open Go Go.RowKit Go.Proofs

theorem SlM.cellM {w : World} {v : Value} {D : List M3} (h : SlM w v D) (hn : 0 < D.length) : ∃ b off cap, v = .slice (some ⟨b, off, none⟩) D.length cap ∧ ∀ j, j < D.length * 3 → w.cell? ⟨b, off + j, none⟩ = some (mcell D j) := by
  obtain ⟨a, cap, rfl, hl, hc⟩ := h
  obtain ⟨b, off, rfl, -⟩ := hc 0 hn
  refine ⟨b, off, cap, rfl, fun j hj => ?_⟩
  obtain ⟨b', off', e, h0, h1, h2⟩ := hc (j / 3) (by omega)
  cases e
  rcases (show j = j / 3 * 3 ∨ j = j / 3 * 3 + 1 ∨ j = j / 3 * 3 + 2 by omega) with e | e | e
  all_goals rw [e]
  · rw [mcell_0]; exact h0
  · rw [mcell_1]; exact h1
  · rw [mcell_2]; exact h2

theorem mcell_one (D : List M3) (j : Nat) : (mcell D j).oneCell' = true := by
  unfold mcell
  repeat' split
  all_goals rfl

theorem mv_one (D : List M3) : ∀ u ∈ mv D, u.oneCell' = true := by
  intro u hu
  obtain ⟨j, hj, rfl⟩ := List.mem_iff_getElem.1 hu
  have hj' : j < D.length * 3 := by rwa [mv_len] at hj
  have := mcell_mv hj'
  rw [List.getElem?_eq_getElem hj] at this
  rw [Option.some.inj this]
  exact mcell_one D j

theorem run_nil_eqlM (a : Addr) (n c : Nat) (w : World) : (binOp .eql 38 (.slice (some a) n c) (.slice none 0 0)).run Tryz.prog w = .ok (.bool false) w := by
  kernel_rfl

set_option maxRecDepth 100000 in
set_option maxHeartbeats 2000000 in
theorem cloneM_some (b off cap : Nat) (D : List M3) (h0 : 0 < D.length) (h1 : D.length ≤ 1000000) (w : World) (hc : ∀ j, j < D.length * 3 → w.cell? ⟨b, off + j, none⟩ = some (mcell D j)) :
    Calls Tryz.prog 65 #[.slice (some ⟨b, off, none⟩) D.length cap] w fun e w' => ∃ g cap, e = .returned (.slice (some ⟨g, 0, none⟩) D.length cap) ∧ w.heap.size ≤ g ∧ RowM w' g D ∧ Below w.heap.size w w' := by
  obtain ⟨i0, hi, hz0, hz1, hz2⟩ := info_parts info61
  have NE := run_nil_eqlM ⟨b, off, none⟩ D.length cap
  have hx : ∀ j u, (mv D)[j]? = some u → (w.alloc (Obj.cells #[] 59)).cell? ((⟨b, off, none⟩ : Addr).add j) = some u := by
    intro j u hj
    have hjl : j < D.length * 3 := by
      have := (List.getElem?_eq_some_iff.1 hj).1
      rwa [mv_len] at this
    rw [mcell_mv hjl] at hj
    cases hj
    rw [Addr.add_lit]
    exact keep_cell ((Below.refl _ _).alloc (Nat.le_refl _) _) (hc j hjl)
  clear hc
  obtain ⟨n, hn⟩ : ∃ n, D.length = n := ⟨_, rfl⟩
  rw [hn] at h0 h1 NE
  simp only [hn]
  have HN := Lib.hid hn
  clear hn
  go_enter Tryz.func65, Tryz.ntmps65
  go_wp2_with (at_builtin; refine wpList_append_grows _ rfl _ _ 38 rfl 59 i0 (mk 0 0 0) 3 24 Tryz.underlying38 hi hz0 hz1 hz2 rfl (by decide) _ 0 0 [] rfl (by simp) rfl (by simp) ⟨b, off, none⟩ n cap (mv D) rfl ((mv_len D).trans (congrArg (· * 3) HN.out)) hx (mv_one D) (by omega) (by unfold maxLen; omega) (by omega) ?_; intro v' w' hown hgr)
  go_ret
  have hz : (w.alloc (Obj.cells #[] 59)).heap.size = w.heap.size + 1 := by simp
  have hown2 : w'.ownsRow w.heap.size 59 3 v' D.length (mv D) := by
    have := own_base hown (B' := w.heap.size) (by omega)
    rw [HN.out]
    simpa using this
  obtain ⟨g, cp, e, hg, R⟩ := rowM_own hown2 (by rw [HN.out]; exact h0)
  rw [HN.out] at e
  exact ⟨g, cp, congrArg Ending.returned e, hg, R, ((Below.refl _ w).alloc (Nat.le_refl _) (Obj.cells #[] 59)).grown hgr (by omega) (fun k e => by cases e)⟩

end Go.Proofs.YtkmcboincjohlaaGreat

/- Walks: marks are sorted in place. -/
namespace Go.Proofs.YtkmcboincjohlaaGreat
open Go Go.RowKit Go.Proofs Go.Sort Go.Lib Go.Shelf

instance : Inhabited M3 := ⟨⟨0, 0, 0⟩⟩

theorem flat_mcell (D : List M3) (j : Nat) (h : j < D.length * 3) : (flatK mv1 3 D.toArray)[j]! = mcell D j := by
  rw [get_flatK _ _ _ _ (by simpa using h)]
  have hj : j / 3 < D.length := by omega
  have e : D.toArray[j / 3]! = mq D (j / 3) := by
    unfold mq
    simp [hj, List.getD_eq_getElem?_getD]
  rw [e]
  unfold mcell mv1
  rcases (show j % 3 = 0 ∨ j % 3 = 1 ∨ j % 3 = 2 by omega) with e | e | e <;> rw [e] <;> rfl

theorem RowM.holdsK {W : World} {g : Nat} {D : List M3} (h : RowM W g D) : HoldsK mv1 3 W g 0 D.toArray := by
  intro j hj
  have hj' : j < D.length * 3 := by simpa using hj
  rw [flat_mcell D j hj', Nat.zero_add]
  exact h.c j hj'

theorem rowM_holdsK {W : World} {g : Nat} {D : List M3} (hg : g < W.heap.size) (h : HoldsK mv1 3 W g 0 D.toArray) : RowM W g D := by
  refine ⟨hg, fun j hj => ?_⟩
  have := h j (by simpa using hj)
  rw [flat_mcell D j hj, Nat.zero_add] at this
  exact this

theorem heap_sortWorldK (w : World) (g m : Nat) (d : Array M3) (os : Array Obj) {k : Nat} (hk : k < w.heap.size) (hn : k ≠ g) : (sortWorldK mv1 3 w g 0 m d os).heap[k]? = w.heap[k]? := by
  unfold sortWorldK putRowK
  rw [heap_grow_old _ _ (by simpa using hk)]
  unfold putRow mapBlock
  simp only [heap_ahead, Array.getElem?_modify]
  rw [if_neg (fun e => hn e.symm)]

theorem rowM_sortWorldK {w : World} {g : Nat} {D E : List M3} (h : RowM w g D) (hl : E.length = D.length) (m : Nat) (os : Array Obj) : RowM (sortWorldK mv1 3 w g 0 m E.toArray os) g E := by
  refine rowM_holdsK (by unfold sortWorldK putRowK; simp; have := h.lt; omega) ?_
  unfold sortWorldK
  exact holdsK_grow mv1 3 _ _ _ _ _ (by unfold putRowK; simpa using h.lt) (holdsK_putRowK mv1 3 _ _ _ D.toArray _ (holdsK_ahead mv1 3 _ _ _ _ _ h.holdsK) (by simpa using hl))

theorem sortWorldK_below (w : World) (B g m : Nat) (d : Array M3) (os : Array Obj) (hB : B ≤ g) (hs : B ≤ w.heap.size) : Below B w (sortWorldK mv1 3 w g 0 m d os) :=
  ⟨rfl, rfl, rfl, by unfold sortWorldK putRowK; simp, fun k hk => heap_sortWorldK w g m d os (by omega) (by omega)⟩

set_option maxHeartbeats 1000000 in
theorem sortMk_any (D : List M3) (g cap B : Nat) (w : World) (h : RowM w g D) (hl : D.length ≤ 1000000) (hB : B ≤ g) :
    Calls Tryz.prog 99 #[.slice (some ⟨g, 0, none⟩) D.length cap, .func (.func 68) #[] #[]] w fun e w' => e = .returned (.tuple #[]) ∧ RowM w' g (sortM D) ∧ Below B w w' := by
  have eg : ∀ args w, (callFunc 68 args).run Tryz.prog w = .ok (.enter 68 args) w := enters_of Tryz.func68 (by kernel_rfl) rfl
  have hcmp : CmpLays Tryz.prog 68 #[] mv1 3 cfM g 0 D.toArray.size w := fun m os dk hs x y => compareMarks_grow x.x x.y x.z y.x y.y y.z _
  have hS := AnyQ.slices_SortFunc_total Tryz.sortK 3 (fun _ => by kernel_rfl) (fun _ => by kernel_rfl) mv1 (fun _ => rfl) (fun x v hv => by
    unfold mv1 at hv
    simp at hv
    rcases hv with rfl | rfl | rfl <;> rfl) cfM swoM 68 #[] g 0 cap D.toArray w eg hcmp h.holdsK h.lt (by simp; omega) partM
  change Calls Tryz.prog 99 _ _ _ at hS
  rw [List.size_toArray] at hS
  refine hS.mono ?_
  rintro e w' ⟨rfl, n, os, rfl⟩
  exact ⟨rfl, rowM_sortWorldK h (sortM_len D) n os, sortWorldK_below w B g n _ os hB (by have := h.lt; omega)⟩

set_option maxHeartbeats 1000000 in
theorem sortMs_any (D : List M3) (g cap B : Nat) (w : World) (h : RowM w g D) (hl : D.length ≤ 1000000) (hB : B ≤ g) :
    Calls Tryz.prog 67 #[.slice (some ⟨g, 0, none⟩) D.length cap, .func (.func 68) #[] #[]] w fun e w' => e = .returned (.slice (some ⟨g, 0, none⟩) D.length cap) ∧ RowM w' g (sortM D) ∧ Below B w w' := by
  have main := sortMk_any D g cap B w h hl hB
  generalize D.length = n at main ⊢
  clear h hl hB
  go_enter Tryz.func67, Tryz.ntmps67
  go_wp2_with (go_at_call 99; with_reducible refine main.mono ?_; rintro e w' ⟨rfl, hR, hb⟩)
  go_ret
  exact ⟨rfl, hR, hb⟩

set_option maxHeartbeats 1000000 in
theorem sortMs_nil (a : Option Addr) (cap : Nat) (w : World) :
    Calls Tryz.prog 67 #[.slice a 0 cap, .func (.func 68) #[] #[]] w fun e w' => e = .returned (.slice a 0 cap) ∧ w' = w := by
  have main : Calls Tryz.prog 99 #[.slice a 0 cap, .func (.func 68) #[] #[]] w fun e w' => e = .returned (.tuple #[]) ∧ w' = w :=
    AnyF.slices_SortFunc_none (P := Tryz.prog) (ρ := Tryz.sortK_ren) Tryz.sortK a cap (.func (.func 68) #[] #[]) w
  go_enter Tryz.func67, Tryz.ntmps67
  go_wp2_with (go_at_call 99; with_reducible refine main.mono ?_; rintro e w' ⟨rfl, rfl⟩)
  refine bodyPost_ret (v := .slice a 0 cap) ?_ rfl ⟨rfl, rfl⟩
  first | rfl | kernel_rfl

end Go.Proofs.YtkmcboincjohlaaGreat
