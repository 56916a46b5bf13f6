/- The abstract machine, part KA. -/
import Derived.Test.YtpknllbglppjcaaK1
/- Walks: straight, doubled. -/
namespace Go.Proofs.Ytpknllbglppjcaa
open Go Go.RowKit Go.Proofs Go.Shelf

attribute [local go_sem] Oper.semAt_some

/-- A block that holds a corner. -/
def Box6 (W : World) (B : Nat) (v : Value) : Prop := ∃ c, v = .agg c ∧ W.heap[B]? = some (.cells c 108 (0, 0))

theorem Box6.cell {W : World} {B : Nat} {c : Array Value} (h : Box6 W B (.agg c)) {o : Nat} {v : Value} (ho : c[o]? = some v) : W.cell? ⟨B, o, none⟩ = some v := by
  obtain ⟨c', e, hb⟩ := h
  cases e
  unfold World.cell?
  simp [hb, ho]

theorem Box6.own {W X : World} {B B' : Nat} {v : Value} {row : Option Nat} (h : Box6 W B v) (hg : W.grownBy X row) (hr : ∀ r, row = some r → B' ≤ r ∧ ∃ o : Obj, W.heap[r]? = some o ∧ o.isCells = false) : Box6 X B v := by
  obtain ⟨c, e, hb⟩ := h
  refine ⟨c, e, ?_⟩
  rw [hg.block B (Array.getElem?_eq_some_iff.1 hb).1 (fun e' => by
    obtain ⟨_, o, ho, hc⟩ := hr B e'.symm
    rw [hb] at ho; cases ho; cases hc)]
  exact hb

theorem Box6.new (W : World) (c : Array Value) : Box6 (W.alloc (.cells c 108)) W.heap.size (.agg c) := ⟨c, rfl, World.alloc_heap_new W _⟩

theorem keepC_put {n B l : Nat} {W : World} {o' : Obj} (h1 : n ≤ l) (h2 : B < l) : KeepC n B W (W.putObj l o') :=
  ⟨(grownBy_putObj' W l o').size, fun k hk => World.putObj_heap_other (by omega)⟩

theorem keepC_set {n B : Nat} {W : World} {p : Addr} {v : Value} (h1 : ¬ p.block < n) (h2 : p.block ≠ B) : KeepC n B W (W.setCell p v) :=
  ⟨(KeepsOthers.setCell W p v).size, fun k hk => Below.heap_setCell _ _ _ k (by omega)⟩

theorem ownFrom_size {β : Type} (B N : Nat) : OwnFrom B (fun (_ : β) W => N ≤ W.heap.size) := fun _ _ _ _ hs hg _ => Nat.le_trans hs hg.size

def termD (xs ys : Nat → Int) (len x : Nat) : Int := xs x * ys ((x + 1) % len) - xs ((x + 1) % len) * ys x
def sumD (xs ys : Nat → Int) (len : Nat) (pre : List Nat) : Int := (pre.map (termD xs ys len)).sum

theorem sumD_snoc (xs ys : Nat → Int) (len : Nat) (pre : List Nat) (x : Nat) : sumD xs ys len (pre ++ [x]) = sumD xs ys len pre + termD xs ys len x := by simp [sumD]

theorem termD_bound {xs ys : Nat → Int} (h : ∀ k, Small (xs k) ∧ Small (ys k)) (len x : Nat) : (-67108864 ≤ xs x * ys ((x + 1) % len) ∧ xs x * ys ((x + 1) % len) ≤ 67108864) ∧ (-67108864 ≤ xs ((x + 1) % len) * ys x ∧ xs ((x + 1) % len) * ys x ≤ 67108864) :=
  ⟨mul_le (A := 8192) (B := 8192) (h _).1 (h _).2, mul_le (A := 8192) (B := 8192) (h _).1 (h _).2⟩

theorem sumD_bound {xs ys : Nat → Int} (h : ∀ k, Small (xs k) ∧ Small (ys k)) (len : Nat) : ∀ pre : List Nat, -(134217728 * (pre.length : Int)) ≤ sumD xs ys len pre ∧ sumD xs ys len pre ≤ 134217728 * (pre.length : Int)
  | [] => by simp [sumD]
  | x :: pre => by
    have ih := sumD_bound h len pre
    have hb := termD_bound h len x
    have e : sumD xs ys len (x :: pre) = termD xs ys len x + sumD xs ys len pre := by simp [sumD]
    rw [e]
    unfold termD
    simp only [List.length_cons]
    omega

theorem sum_step {xs ys : Nat → Int} (h : ∀ k, Small (xs k) ∧ Small (ys k)) (len x : Nat) (pre : List Nat) (hp : pre.length < 1000000) :
    wrap64 (sumD xs ys len pre + wrap64 (wrap64 (xs x * ys ((x + 1) % len)) - wrap64 (xs ((x + 1) % len) * ys x))) = sumD xs ys len (pre ++ [x]) := by
  have h1 := sumD_bound h len pre
  have h2 := termD_bound h len x
  rw [sumD_snoc]
  unfold termD
  rw [w64 (xs x * ys ((x + 1) % len)) (by omega), w64 (xs ((x + 1) % len) * ys x) (by omega), w64 (_ - _) (by omega), w64 _ (by omega)]

set_option maxRecDepth 100000 in
set_option maxHeartbeats 2000000 in
theorem doubled_in (F : Fence) (n : Nat) (h93 : F.fn 93) (h98 : F.fn 98) (h140 : F.fn 140) (hro : F.round = none) (hn : 4 ≤ n) (b off len cap : Nat) (xs ys : Nat → Int) (hlen : len ≤ 1000000) (hsm : ∀ k, Small (xs k) ∧ Small (ys k)) (w : World)
    (hc : ∀ k, k < len → w.cell? ⟨b, off + k * 2, none⟩ = some (.int .i64 (xs k)) ∧ w.cell? ⟨b, off + k * 2 + 1, none⟩ = some (.int .i64 (ys k))) (hb : b < w.heap.size) :
    CallsIn F n Try.prog 93 #[.slice (some ⟨b, off, none⟩) len cap] w fun e w' => e = .returned (.int .i64 (sumD xs ys len (List.range len))) ∧ Below w.heap.size w w' := by
  have h1 : 1 ≤ n := by omega
  refine callsIn_of_wp_marks Try.func93 rfl h93 ?_ hro
  simp only [Try.ntmps93, List.size_toArray, List.length_cons, List.length_nil, Nat.reduceAdd, Nat.reduceSub, Array.replicate_succ, Array.replicate_zero, List.push_toArray, List.append_toArray, List.nil_append, List.cons_append]
  gi_wp2_with (gi_at_call 98; refine (corners_in F (n - 1) h98 hro _ _ _ _).mono ?_; rintro e w' ⟨rfl, rfl⟩)
  obtain ⟨W0, hW0⟩ : ∃ W0, (w.alloc (.cells #[.int .i64 0] 3)).alloc (.cells #[.slice (some ⟨b, off, none⟩) len cap] 32) = W0 := ⟨_, rfl⟩
  have hsz : W0.heap.size = w.heap.size + 2 := by rw [← hW0]; simp
  have bS : Boxed W0 w.heap.size 3 (.int .i64 0) := by rw [← hW0]; exact (Boxed.new w 3 _).alloc _
  have bC : Boxed W0 (w.heap.size + 1) 32 (.slice (some ⟨b, off, none⟩) len cap) := by
    rw [← hW0]; have := Boxed.new (w.alloc (.cells #[.int .i64 0] 3)) 32 (.slice (some ⟨b, off, none⟩) len cap); rwa [World.size_alloc] at this
  have hB0 : Below w.heap.size w W0 := by rw [← hW0]; exact ((Below.refl _ w).alloc (Nat.le_refl _) _).alloc (by simp) _
  rw [hW0]
  clear hW0
  refine wpIn_rangeFunc_ownH hro h1 (gf := 140) (lb := #[.pointer (some ⟨w.heap.size + 1, 0, none⟩)]) rfl h140 (enters_of Try.func140 (by kernel_rfl) rfl)
    (corners_stops F (n - 1) h140 hro (by omega) (w.heap.size + 1) w.heap.size b off len cap xs ys hlen hb W0 (by omega) (by omega) bC.cell (fun k hk => ⟨keep_cell hB0 (hc k hk).1, keep_cell hB0 (hc k hk).2⟩))
    KeepC.trans (fun W l o o' hl h _ _ => keepC_put (by omega) (by omega)) (Below.refl _ _) (fun _ => rfl)
    (fun pre W => Boxed W w.heap.size 3 (.int .i64 (sumD xs ys len pre)) ∧ Below w.heap.size w W ∧ w.heap.size + 2 ≤ W.heap.size)
    (fun _ _ _ => False)
    (OwnFrom.and (Own.from (boxed_own _ _ _) _) (OwnFrom.and (ownFrom_below (Nat.le_refl _) (by omega)) (ownFrom_size _ _)))
    (fun _ _ _ _ _ hs _ _ => hs)
    ⟨bS, hB0, by omega⟩
    (fun x a' W => ∃ Bx, w.heap.size + 1 < Bx ∧ Box6 W Bx (cnrV xs ys ((x + len - 1) % len) x ((x + 1) % len)) ∧ a' = { tmps := #[.slice (some ⟨b, off, none⟩) len cap, undef, .int .i64 0, .pointer (some ⟨w.heap.size, 0, none⟩), undef, .pointer (some ⟨Bx, 0, none⟩), .slice (some ⟨b, off, none⟩) len cap, .func (.func 140) #[] #[.pointer (some ⟨w.heap.size + 1, 0, none⟩)], .int .i64 x, cnrV xs ys ((x + len - 1) % len) x ((x + 1) % len), undef, undef, undef, undef, undef, undef, undef, undef, undef, undef, undef, undef, undef, undef, undef, undef, undef, undef], defers := [] })
    (fun x a' _ X Y row hs hg hr => by obtain ⟨Bx, h1, h2, h3⟩ := hs; exact ⟨Bx, h1, h2.own hg hr, h3⟩)
    ?assign ?body ?done ?stop
  case assign =>
    rintro l pre x W K ⟨bS1, hB1, hs1⟩ hK
    gi_wp2
    exact hK _ _ ((KeepsOthers.alloc _ _).from _) (KeepC.below ((Below.refl _ W).alloc (Nat.le_refl _) _) (by omega) (by omega)) ⟨bS1.alloc _, hB1.alloc (by omega) _, by simp; omega⟩ ⟨W.heap.size, by omega, Box6.new W _, rfl⟩
  case body =>
    rintro l pre x a' W hl _ ⟨bS1, hB1, hs1⟩ ⟨Bx, hBx, bX, rfl⟩ hlt
    have x2 := bX.cell (o := 2) rfl
    have x3 := bX.cell (o := 3) rfl
    have x4 := bX.cell (o := 4) rfl
    have x5 := bX.cell (o := 5) rfl
    have cS := bS1.cell
    have fS := bS1.frozen
    gi_wp2
    refine ⟨(KeepsOthers.setCell _ _ _).from _, keepC_set (by simp) (by simp), ?_, hB1.setCell (by simp) _, by simpa using hs1⟩
    rw [← sum_step hsm len x pre (by omega)]
    exact bS1.set _
  case done =>
    rintro D ks W hD rfl ⟨bS1, hB1, hs1⟩ hK
    have cS := bS1.cell
    gi_wp2
    refine ⟨by simp, .inl ⟨_, _, rfl, run_takeDeferred hK, ?_⟩⟩
    exact ⟨_, results_tmp rfl _ _ _, rfl, hB1.trans (belowK_b (w := w) (Nat.le_refl _) W D _ _ (by omega) hK rfl rfl)⟩
  case stop =>
    rintro D c pre W _ _ h _
    exact h.elim

end Go.Proofs.Ytpknllbglppjcaa

/- Walks: straight, first. -/
namespace Go.Proofs.Ytpknllbglppjcaa
open Go Go.RowKit Go.Proofs Go.Shelf

/-- Does the corner go straight on? -/
def strB (xs ys : Nat → Int) (p k q : Nat) : Bool := cross (xs p) (ys p) (xs k) (ys k) (xs q) (ys q) == 0

abbrev cnrObj (xs ys : Nat → Int) (p k q : Nat) : Obj := .cells #[.int .i64 (xs p), .int .i64 (ys p), .int .i64 (xs k), .int .i64 (ys k), .int .i64 (xs q), .int .i64 (ys q)] 108

set_option maxHeartbeats 1000000 in
theorem straight_any (xs ys : Nat → Int) (p k q : Nat) (hsm : ∀ k, Small (xs k) ∧ Small (ys k)) (w : World) :
    Calls Try.prog 83 #[cnrV xs ys p k q] w fun e w' => e = .returned (.bool (strB xs ys p k q)) ∧ Below w.heap.size w w' := by
  have C := fun w => cross_any (xs p) (ys p) (xs k) (ys k) (xs q) (ys q) w (hsm _).1 (hsm _).2 (hsm _).1 (hsm _).2 (hsm _).1 (hsm _).2
  clear hsm
  go_enter Try.func83, Try.ntmps83
  go_wp2_with fail
  refine (C _).mono ?_
  rintro e w1 ⟨rfl, hb⟩
  have kb := keep_below ((Below.refl w.heap.size w).alloc (Nat.le_refl _) (cnrObj xs ys p k q)) hb
  clear hb
  go_wp2
  go_ret
  exact ⟨rfl, kb⟩

theorem below_box {W w' : World} {B : Nat} {t : TypeId} {v : Value} (hb : Below W.heap.size W w') (h : Boxed W B t v) : Boxed w' B t v := (hb.block B h.lt).trans h

theorem keepsFrom_below {W w' : World} (B : Nat) (hb : Below W.heap.size W w') : KeepsFrom B W w' := ⟨hb.size, fun k _ _ hk _ => (hb.block k (Array.getElem?_eq_some_iff.1 hk).1).trans hk⟩

attribute [local go_sem] Oper.semAt_some

def strK (xs ys : Nat → Int) (len x : Nat) : Bool := strB xs ys ((x + len - 1) % len) x ((x + 1) % len)

def firstS (xs ys : Nat → Int) (len : Nat) : Int := match (List.range len).find? (strK xs ys len) with
  | some k => k
  | none => -1

theorem firstS_none {xs ys : Nat → Int} {len : Nat} (h : ∀ x ∈ List.range len, strK xs ys len x = false) : firstS xs ys len = -1 := by
  unfold firstS
  have : (List.range len).find? (strK xs ys len) = none := List.find?_eq_none.2 fun x hx => by simp [h x hx]
  rw [this]

theorem firstS_some {xs ys : Nat → Int} {len k x : Nat} {pre : List Nat} (he : List.range k = pre ++ [x]) (hk : k ≤ len) (h : ∀ y ∈ pre, strK xs ys len y = false) (hx : strK xs ys len x = true) : firstS xs ys len = (x : Nat) := by
  unfold firstS
  have h1 : List.range len = (pre ++ [x]) ++ (List.range (len - k)).map (k + ·) := by
    rw [← he, ← List.range_add]; congr 1; omega
  have : (List.range len).find? (strK xs ys len) = some x := by
    rw [h1, List.append_assoc, List.find?_append]
    rw [List.find?_eq_none.2 (fun y hy => by simp [h y hy])]
    simp [hx]
  rw [this]

set_option maxRecDepth 100000 in
set_option maxHeartbeats 2000000 in
theorem first_any (b off len cap : Nat) (xs ys : Nat → Int) (hlen : len ≤ 1000000) (hsm : ∀ k, Small (xs k) ∧ Small (ys k)) (w : World)
    (hc : ∀ k, k < len → w.cell? ⟨b, off + k * 2, none⟩ = some (.int .i64 (xs k)) ∧ w.cell? ⟨b, off + k * 2 + 1, none⟩ = some (.int .i64 (ys k))) (hb : b < w.heap.size) :
    Calls Try.prog 92 #[.slice (some ⟨b, off, none⟩) len cap, .func (.func 83) #[] #[]] w fun e w' => e = .returned (.int .i64 (firstS xs ys len)) ∧ Below w.heap.size w w' := by
  refine (callsIn_wide (n := 6)).1 ?_
  have h1 : 1 ≤ 6 := by omega
  refine callsIn_of_wp_marks Try.func92 rfl trivial ?_ rfl
  simp only [Try.ntmps92, List.size_toArray, List.length_cons, List.length_nil, Nat.reduceAdd, Nat.reduceSub, Array.replicate_succ, Array.replicate_zero, List.push_toArray, List.append_toArray, List.nil_append, List.cons_append]
  gi_wp2_with (refine ⟨trivial, ?_⟩; gi_at_call 98; refine (corners_in Fence.wide 5 trivial rfl _ _ _ _).mono ?_; rintro e w' ⟨rfl, rfl⟩)
  obtain ⟨W0, hW0⟩ : ∃ W0, ((w.alloc (.cells #[.func (.func 83) #[] #[]] 97)).alloc (.cells #[.int .i64 0] 3)).alloc (.cells #[.slice (some ⟨b, off, none⟩) len cap] 32) = W0 := ⟨_, rfl⟩
  have hsz : W0.heap.size = w.heap.size + 3 := by rw [← hW0]; simp
  have bK : Boxed W0 w.heap.size 97 (.func (.func 83) #[] #[]) := by rw [← hW0]; exact ((Boxed.new w 97 _).alloc _).alloc _
  have bR : Boxed W0 (w.heap.size + 1) 3 (.int .i64 0) := by
    rw [← hW0]; have := (Boxed.new (w.alloc (.cells #[.func (.func 83) #[] #[]] 97)) 3 (.int .i64 0)).alloc (.cells #[.slice (some ⟨b, off, none⟩) len cap] 32); rwa [World.size_alloc] at this
  have bC : Boxed W0 (w.heap.size + 1 + 1) 32 (.slice (some ⟨b, off, none⟩) len cap) := by
    rw [← hW0]; have := Boxed.new ((w.alloc (.cells #[.func (.func 83) #[] #[]] 97)).alloc (.cells #[.int .i64 0] 3)) 32 (.slice (some ⟨b, off, none⟩) len cap); rwa [World.size_alloc, World.size_alloc] at this
  have hB0 : Below w.heap.size w W0 := by rw [← hW0]; exact (((Below.refl _ w).alloc (Nat.le_refl _) _).alloc (by simp) _).alloc (by simp; omega) _
  rw [hW0]
  clear hW0
  refine wpIn_rangeFunc_ownH rfl h1 (gf := 140) (lb := #[.pointer (some ⟨w.heap.size + 1 + 1, 0, none⟩)]) rfl trivial (enters_of Try.func140 (by kernel_rfl) rfl)
    (corners_stops Fence.wide 5 trivial rfl (by omega) (w.heap.size + 1 + 1) w.heap.size b off len cap xs ys hlen hb W0 (by omega) (by omega) bC.cell (fun k hk => ⟨keep_cell hB0 (hc k hk).1, keep_cell hB0 (hc k hk).2⟩))
    KeepC.trans (fun W l o o' hl h _ _ => keepC_put (by omega) (by omega)) (Below.refl _ _) (fun _ => rfl)
    (fun pre W => ((∀ x ∈ pre, strK xs ys len x = false) ∧ Boxed W w.heap.size 97 (.func (.func 83) #[] #[])) ∧ Boxed W (w.heap.size + 1) 3 (.int .i64 0) ∧ Below w.heap.size w W ∧ w.heap.size + 3 ≤ W.heap.size)
    (fun c pre W => (c = .ret ∧ ∃ pre' x, pre = pre' ++ [x] ∧ (∀ x ∈ pre', strK xs ys len x = false) ∧ strK xs ys len x = true ∧ Boxed W (w.heap.size + 1) 3 (.int .i64 (x : Nat))) ∧ Below w.heap.size w W)
    (OwnFrom.and (OwnFrom.and (ownFrom_pure _ _) (Own.from (boxed_own _ _ _) _)) (OwnFrom.and (Own.from (boxed_own _ _ _) _) (OwnFrom.and (ownFrom_below (Nat.le_refl _) (by omega)) (ownFrom_size _ _))))
    (fun c => OwnFrom.and (fun s X Y row hs hg hr => by
      obtain ⟨h1, pre', x, h2, h3, h4, h5⟩ := hs
      exact ⟨h1, pre', x, h2, h3, h4, Own.from (boxed_own _ 3 (fun (_ : Unit) => Value.int .i64 (x : Nat))) _ () X Y row h5 hg hr⟩) (ownFrom_below (Nat.le_refl _) (by omega)))
    ⟨⟨by simp, bK⟩, bR, hB0, by omega⟩
    (fun x a' W => ∃ Bx, w.heap.size + 2 < Bx ∧ Box6 W Bx (cnrV xs ys ((x + len - 1) % len) x ((x + 1) % len)) ∧ a' = { tmps := #[.slice (some ⟨b, off, none⟩) len cap, .func (.func 83) #[] #[], undef, .pointer (some ⟨w.heap.size, 0, none⟩), .pointer (some ⟨w.heap.size + 1, 0, none⟩), .int .i64 x, .pointer (some ⟨Bx, 0, none⟩), .slice (some ⟨b, off, none⟩) len cap, .func (.func 140) #[] #[.pointer (some ⟨w.heap.size + 1 + 1, 0, none⟩)], .int .i64 x, cnrV xs ys ((x + len - 1) % len) x ((x + 1) % len), undef, undef, undef, undef], defers := [] })
    (fun x a' _ X Y row hs hg hr => by obtain ⟨Bx, h1, h2, h3⟩ := hs; exact ⟨Bx, h1, h2.own hg hr, h3⟩)
    ?assign ?body ?done ?stop
  case assign =>
    rintro l pre x W K ⟨⟨hpre, bK1⟩, bR1, hB1, hs1⟩ hK
    gi_wp2
    exact hK _ _ ((KeepsOthers.alloc _ _).from _) (KeepC.below ((Below.refl _ W).alloc (Nat.le_refl _) _) (by omega) (by omega)) ⟨⟨hpre, bK1.alloc _⟩, bR1.alloc _, hB1.alloc (by omega) _, by simp; omega⟩ ⟨W.heap.size, by omega, Box6.new W _, rfl⟩
  case body =>
    rintro l pre x a' W hl _ ⟨⟨hpre, bK1⟩, bR1, hB1, hs1⟩ ⟨Bx, hBx, bX, rfl⟩ hlt
    have x0 := bX.cell (o := 0) rfl
    have x1 := bX.cell (o := 1) rfl
    have x2 := bX.cell (o := 2) rfl
    have x3 := bX.cell (o := 3) rfl
    have x4 := bX.cell (o := 4) rfl
    have x5 := bX.cell (o := 5) rfl
    have cK := bK1.cell
    gi_wp2_with fail
    refine ⟨trivial, ?_⟩
    refine (CallsIn.inRound l (callsIn_wide.2 (straight_any xs ys _ _ _ hsm _))).mono ?_
    rintro e w' ⟨rfl, hbw⟩
    change Below W.heap.size W w' at hbw
    have bR2 := below_box hbw bR1
    have bK2 := below_box hbw bK1
    have hB2 := hB1.trans (hbw.mono hB1.size)
    have hkf := keepsFrom_below W0.heap.size hbw
    have hkc : KeepC w.heap.size (w.heap.size + 1 + 1) W w' := KeepC.below hbw (by omega) (by omega)
    have hs2 := Nat.le_trans hs1 hbw.size
    have cR := bR2.cell
    have fR := bR2.frozen
    obtain ⟨kd, hkd⟩ : ∃ kd, strB xs ys ((x + len - 1) % len) x ((x + 1) % len) = kd := ⟨_, rfl⟩
    rw [hkd]
    have KD : Hid (strK xs ys len x = kd) := Lib.hid hkd
    clear hkd x0 x1 x2 x3 x4 x5 cK
    cases kd
    · gi_wp2
      exact ⟨hkf, hkc, ⟨fun y hy => (List.mem_append.1 hy).elim (hpre y) (fun e => by rw [List.mem_singleton.1 e]; exact KD.out), bK2⟩, bR2, hB2, hs2⟩
    · gi_wp2
      exact ⟨hkf.trans ((KeepsOthers.setCell _ _ _).from _), ⟨rfl, pre, x, rfl, hpre, KD.out, bR2.set _⟩, hB2.setCell (by simp) _⟩
  case done =>
    rintro D ks W hD rfl ⟨⟨hpre, bK1⟩, bR1, hB1, hs1⟩ hK
    have cR := bR1.cell
    have fR := bR1.frozen
    gi_wp2
    have hK' := (KeepsOthers.setCell W ⟨w.heap.size + 1, 0, none⟩ (.int .i64 (-1))).same D _ hK rfl
    refine ⟨by simp, .inl ⟨_, _, rfl, run_takeDeferred hK', ?_⟩⟩
    have hc5 := cell_kept (World.cell?_setCell_same' W ⟨w.heap.size + 1, 0, none⟩ (.int .i64 (-1)) (by rw [cR]; rfl)) (grownBy_putObj' _ D (.deferred none)) (fun r e => by cases e; exact ⟨_, hK', rfl⟩)
    refine ⟨.int .i64 (-1), ?_, ?_⟩
    · simp [results, Try.f92, go_sem, hc5]
    · refine ⟨?_, (hB1.setCell (p := ⟨w.heap.size + 1, 0, none⟩) (by simp) _).trans (belowK_b (w := w) (Nat.le_refl _) _ D _ _ (by omega) hK' rfl rfl)⟩
      rw [firstS_none hpre]
  case stop =>
    rintro D c pre W hD ⟨k, hk, hpre⟩ ⟨⟨rfl, pre', x, h2, h3, h4, h5⟩, hB1⟩ hK
    gi_wp2
    refine ⟨by simp, .inl ⟨_, _, rfl, run_takeDeferred hK, ?_⟩⟩
    have hc5 := cell_kept h5.cell (grownBy_putObj' _ D (.deferred none)) (fun r e => by cases e; exact ⟨_, hK, rfl⟩)
    refine ⟨.int .i64 (x : Nat), ?_, ?_⟩
    · simp [results, Try.f92, go_sem, hc5]
    · refine ⟨?_, hB1.trans (belowK_b (w := w) (Nat.le_refl _) _ D _ _ (by omega) hK rfl rfl)⟩
      rw [firstS_some (hpre.symm.trans h2) hk h3 h4]

end Go.Proofs.Ytpknllbglppjcaa
