/- The abstract machine, part CA. -/
import Derived.RangeFuncNested
import Derived.RangeFuncBound
import Derived.RangeFuncCalls
import Derived.RangeFuncLeaves
import Derived.Test.YtlocdadkhdcedaaDA
import Derived.Lib.Hide
import Derived.RangeFuncBox
/- A loop over an iterator that hands out a row of its own, and writes that row between two rounds. -/
namespace Go.Abs
open Go Go.RowKit

variable {F : Fence} {n : Nat} {P : Program} {α : Type}

/-- It stays where one block at or beyond B turns. -/
def Past (B : Nat) (I : List α → World → Prop) : Prop := ∀ s X Y row, I s X → X.grownBy Y row → (∀ r, row = some r → B ≤ r) → I s Y

theorem Past.put {B : Nat} {I : List α → World → Prop} (h : Past B I) {s : List α} {W : World} {l : Nat} (o : Obj) (hs : I s W) (hl : B ≤ l) : I s (W.putObj l o) :=
  h s W _ (some l) hs (grownBy_putObj' W l o) fun r e => by cases e; exact hl

theorem Past.new {B : Nat} {I : List α → World → Prop} (h : Past B I) {s : List α} {W : World} (o : Obj) (hs : I s W) : I s (W.alloc o) :=
  h s W _ none hs (World.grownBy_alloc W o none) fun r e => by cases e

theorem Past.and {B : Nat} {I J : List α → World → Prop} (h : Past B I) (k : Past B J) : Past B fun s W => I s W ∧ J s W :=
  fun s X Y row hs hg hr => ⟨h s X Y row hs.1 hg hr, k s X Y row hs.2 hg hr⟩

theorem past_block {B k : Nat} {o : Obj} (hk : k < B) : Past B fun (_ : List α) W => W.heap[k]? = some o := fun _ _ _ _ hs hg hr =>
  (hg.block k (Array.getElem?_eq_some_iff.1 hs).1 fun e => by have := hr k e.symm; omega).trans hs

theorem past_below {B m : Nat} {w₀ : World} (hm : m ≤ w₀.heap.size) (hB : m ≤ B) : Past B fun (_ : List α) W => Below m w₀ W :=
  fun _ _ _ _ hs hg hr => hs.grown hg (Nat.le_trans hm hs.size) fun k e => Nat.le_trans hB (hr k e)

theorem past_pure {B : Nat} (p : List α → Prop) : Past B fun s (_ : World) => p s := fun _ _ _ _ hs _ _ => hs

theorem past_size {B m : Nat} : Past B fun (_ : List α) W => m ≤ W.heap.size := fun _ _ _ _ hs hg _ => Nat.le_trans hs hg.size

/-- What a round that goes on must leave: all cells. -/
structure KeepsRows (W W' : World) : Prop where
  size : W.heap.size ≤ W'.heap.size
  same : ∀ (k : Nat) (o : Obj), W.heap[k]? = some o → o.isCells = true → W'.heap[k]? = some o

theorem KeepsRows.refl (W : World) : KeepsRows W W := ⟨Nat.le_refl _, fun _ _ h _ => h⟩
theorem KeepsRows.trans {X Y Z : World} (h : KeepsRows X Y) (k : KeepsRows Y Z) : KeepsRows X Z := ⟨Nat.le_trans h.size k.size, fun i o hi ho => k.same i o (h.same i o hi ho) ho⟩
theorem KeepsRows.put {W : World} {l : Nat} {o : Obj} (o' : Obj) (hl : W.heap[l]? = some o) (ho : o.isCells = false) : KeepsRows W (W.putObj l o') :=
  ⟨by simp, fun k u hk hu => by
    rw [World.putObj_heap_other]
    · exact hk
    · rintro rfl
      rw [hl] at hk; cases hk; rw [ho] at hu; cases hu⟩
theorem KeepsRows.below {W W' : World} (h : Below W.heap.size W W') : KeepsRows W W' := ⟨h.size, fun k _ hk _ => (h.block k (Array.getElem?_eq_some_iff.1 hk).1).trans hk⟩
theorem KeepsRows.cell {W W' : World} (h : KeepsRows W W') {b o : Nat} {v : Value} (hc : W.cell? ⟨b, o, none⟩ = some v) : W'.cell? ⟨b, o, none⟩ = some v := by
  cases ho : W.heap[b]? with
  | none => simp [World.cell?, ho] at hc
  | some u =>
    have : u.isCells = true := by cases u <;> first | rfl | (simp [World.cell?, ho] at hc)
    have h2 := h.same b u ho this
    unfold World.cell? at hc ⊢
    simp only [ho] at hc
    simp only [h2]
    exact hc

/-- The iterator's word: at each call of yield the element's row stands as Hx says; the round leaves all cells; the iterator turns blocks of its own. -/
def Shows (F : Fence) (n : Nat) (P : Program) (g : Nat) (lb : Array Value) (encs : α → Array Value) (Hx : α → World → Prop) (S Sp : List α → Prop) (w : World) : Prop :=
  ∀ (l : Nat) (J Jx : List α → World → Prop) (W : World), Below w.heap.size w W → Past W.heap.size J →
    (∀ pre x W1, J pre W1 → Hx x W1 → YieldAt F (n - 1) P l (encs x) W1 fun e W' =>
      (e = .returned (.bool true) ∧ J (pre ++ [x]) W' ∧ KeepsRows W1 W') ∨ (e = .returned (.bool false) ∧ Jx (pre ++ [x]) W')) →
    J [] W →
    CallsIn F n P g (#[.func (.yield l) #[] #[]] ++ lb) W fun e W' => (∃ v, e = .returned v) ∧ ((∃ xs, S xs ∧ J xs W') ∨ (∃ pre, Sp pre ∧ Jx pre W'))

/-- The loop. One premise speaks of a round: the assignments, and then the body from wherever the loop's record stands. -/
theorem range_shows {g : Operand} {ps : Array Tmp} {assign body : Code} {Q : Exit → Act → World → Prop} {a : Act} {w : World}
    (hro : F.round = none) (h1 : 1 ≤ n) {gf : Nat} {lb : Array Value} (hg : a.eval g = .func (.func gf) #[] lb) (hFg : F.fn gf) (eg : ∀ args w, (callFunc gf args).run P w = .ok (.enter gf args) w)
    {encs : α → Array Value} {Hx : α → World → Prop} {S Sp : List α → Prop} (hit : Shows F (n - 1) P gf lb encs Hx S Sp w) (hps : ∀ x, (encs x).size = ps.size)
    (I : List α → World → Prop) (Ix : Code → List α → World → Prop) (hI : Past w.heap.size I) (hIx : ∀ c, OwnFrom w.heap.size (Ix c)) (h0 : I [] w)
    (hround : ∀ (l : Nat) (pre : List α) (x : α) (W : World), w.heap.size ≤ l → (∃ r, W.heap[l]? = some (.loop r)) → I pre W → Hx x W →
      assign.wpIn (F.inRound l) (n - 1 - 1) P (Exit.then (fun a' W' => KeepsFrom w.heap.size W W' ∧ KeepsRows W W' ∧
        ∀ o, body.wpIn (F.inRound l) (n - 1 - 1) P (ownPostG w.heap.size KeepsRows I Ix (pre ++ [x]) (W'.putObj l o)) a' (W'.putObj l o)) (fun _ _ _ => False))
        { tmps := (ps.zip (encs x)).foldl (fun t (p, v) => t.setIfInBounds p v) a.tmps, defers := [] } W)
    (hdone : ∀ (D : Nat) (xs : List α) (W : World), w.heap.size ≤ D → S xs → I xs W → W.heap[D]? = some (.deferred (some [])) → Q .normal { a with defers := { target := .collected D, args := #[] } :: a.defers } W)
    (hstop : ∀ (D : Nat) (c : Code) (pre : List α) (W : World), w.heap.size ≤ D → Sp pre → Ix c pre W → W.heap[D]? = some (.deferred (some [])) → c.wpIn F n P Q { a with defers := { target := .collected D, args := #[] } :: a.defers } W) :
    (Code.rangeFunc g ps assign body).wpIn F n P Q a w := by
  obtain ⟨B, hB⟩ : ∃ B, w.heap.size = B := ⟨_, rfl⟩
  rw [hB] at hI hIx hround hdone hstop
  refine wpIn_rangeFunc fun fn hfn => ?_
  rw [hro]
  let rec_ : LoopState → Option Code → Obj := fun st pe => .loop { state := st, pending := pe, fn, tmps := a.tmps, params := ps, assign, body, defers := B }
  have W1d : ∃ W1, W1 = (w.alloc (.deferred (some []))).alloc (rec_ .ready none) := ⟨_, rfl⟩
  obtain ⟨W1, hW1⟩ := W1d
  have z1 : W1.heap.size = B + 2 := by rw [hW1]; simp [hB]
  have k1 : W1.heap[B + 1]? = some (rec_ .ready none) := by
    have := World.alloc_heap_new (w.alloc (.deferred (some []))) (rec_ .ready none)
    rw [World.size_alloc, hB] at this
    rw [hW1]; exact this
  have k0 : W1.heap[B]? = some (.deferred (some [])) := by
    rw [hW1]
    refine (Below.heap_alloc _ _ _ (by simp; omega)).trans ?_
    have := World.alloc_heap_new w (.deferred (some []))
    rwa [hB] at this
  have i1 : I [] W1 := by rw [hW1]; exact hI.new _ (hI.new _ h0)
  have b1 : Below w.heap.size w W1 := by rw [hW1]; exact ((Below.refl _ w).alloc (Nat.le_refl _) _).alloc (by simp) _
  -- the record and the block for deferred calls stand beside what the caller knows
  refine ⟨B + 1, [{ target := .collected B, args := #[] }], W1, { target := .fn (.func gf) lb, args := #[.func (.yield (B + 1)) #[] #[]] }, W1, gf, #[.func (.yield (B + 1)) #[] #[]] ++ lb, W1, ?_, ?_, ?_, ?_, fun _ => h1, ?_⟩
  · have := run_enterLoop_outer (P := P) (w := w) fn a.tmps ps assign body
    rw [hB] at this
    rw [hW1]; exact this
  · simp only [resolve, hg]; simp [go_sem]
  · intro f' hf'; simp [Target.leads] at hf'; subst hf'; exact hFg
  · simp [invoke, go_sem, eg]
  have pr : ∀ o : Obj, Past W1.heap.size fun (_ : List α) W => W.heap[B + 1]? = some o := fun o => past_block (by omega)
  have pd : Past W1.heap.size fun (_ : List α) W => W.heap[B]? = some (.deferred (some [])) := past_block (by omega)
  have up : ∀ {K : List α → World → Prop}, Past B K → Past W1.heap.size K := fun h s X Y row hs hg hr => h s X Y row hs hg fun r e => by have := hr r e; omega
  refine (hit (B + 1) (fun pre W => I pre W ∧ W.heap[B + 1]? = some (rec_ .ready none) ∧ W.heap[B]? = some (.deferred (some [])))
    (fun pre W => ∃ c, Ix c pre W ∧ W.heap[B + 1]? = some (rec_ .done (some c)) ∧ W.heap[B]? = some (.deferred (some [])))
    W1 b1 ((up hI).and ((pr _).and pd)) ?_ ⟨i1, k1, k0⟩).mono ?_
  · -- a round
    rintro pre x W ⟨hi, hl, hk⟩ hx
    refine ⟨fn, _, assign, body, run_yield (P := P) (args := encs x) hl (hps x), roundIn_of_wpIn hfn (wpIn_mono (hround _ pre x W (by omega) ⟨_, hl⟩ hi hx) ?_)⟩
    intro e a' W' hp
    cases e with
    | normal =>
      obtain ⟨hf, hr, hb⟩ := hp
      have hl' := hf.same _ _ (by omega) hl rfl
      have hk' := hf.same _ _ (Nat.le_refl _) hk rfl
      refine ⟨_, run_beginRound hl' rfl, wpIn_mono (hb _) ?_⟩
      have ls : B + 1 < W'.heap.size := (Array.getElem?_eq_some_iff.1 hl').1
      have r1 := hr.trans (KeepsRows.put (rec_ .busy none) hl' rfl)
      have fin : ∀ (jump : Option Code) (Z : World), KeepsFrom B (W'.putObj (B + 1) (rec_ .busy none)) Z →
          (Instr.endRound (B + 1) jump).run P Z = .ok (.bool jump.isNone) (Z.putObj (B + 1) (rec_ (if jump.isNone then .ready else .done) jump)) ∧ Z.heap[B + 1]? = some (rec_ .busy none) ∧
          (Z.putObj (B + 1) (rec_ (if jump.isNone then .ready else .done) jump)).heap[B + 1]? = some (rec_ (if jump.isNone then .ready else .done) jump) ∧
          (Z.putObj (B + 1) (rec_ (if jump.isNone then .ready else .done) jump)).heap[B]? = some (.deferred (some [])) := fun jump Z hz => by
        have e1 := hz.same _ _ (by omega) (World.putObj_heap_same ls) rfl
        have e0 := hz.same _ _ (Nat.le_refl _) ((World.putObj_heap_other (by omega)).trans hk') rfl
        exact ⟨run_endRound (P := P) jump e1, e1, World.putObj_heap_same (Array.getElem?_eq_some_iff.1 e1).1, (World.putObj_heap_other (by omega)).trans e0⟩
      have out : ∀ (c : Code) (Z : World), KeepsFrom B (W'.putObj (B + 1) (rec_ .busy none)) Z → Ix c (pre ++ [x]) Z →
          ∃ v Z', (Instr.endRound (B + 1) (some c)).run P Z = .ok v Z' ∧ ((Ending.returned v = .returned (.bool true) ∧ (I (pre ++ [x]) Z' ∧ Z'.heap[B + 1]? = some (rec_ .ready none) ∧ Z'.heap[B]? = some (.deferred (some []))) ∧ KeepsRows W Z') ∨
            (Ending.returned v = .returned (.bool false) ∧ ∃ c, Ix c (pre ++ [x]) Z' ∧ Z'.heap[B + 1]? = some (rec_ .done (some c)) ∧ Z'.heap[B]? = some (.deferred (some [])))) := fun c Z hz hc => by
        obtain ⟨e1, e2, e3, e4⟩ := fin (some c) Z hz
        exact ⟨_, _, e1, .inr ⟨rfl, c, (hIx c).putObj _ hc (by omega) e2 rfl, e3, e4⟩⟩
      intro e3 a3 Z hp3
      cases e3 with
      | normal =>
        obtain ⟨hz, hkr, hi3⟩ := hp3
        obtain ⟨e1, e2, e3, e4⟩ := fin none Z hz
        exact ⟨_, _, e1, .inl ⟨rfl, ⟨hI.put _ hi3 (by omega), e3, e4⟩, (r1.trans hkr).trans (KeepsRows.put _ e2 rfl)⟩⟩
      | ret => exact out .ret Z hp3.1 hp3.2
      | exit id => exact out (.exit id) Z hp3.1 hp3.2
      | goto t => exact out (.goto t) Z hp3.1 hp3.2
      | panic ch => exact hp3.elim
      | outgrown => exact hp3.elim
    | ret => exact hp.elim
    | exit id => exact hp.elim
    | goto t => exact hp.elim
    | panic ch => exact hp.elim
    | outgrown => exact hp.elim
  · -- behind the loop
    rintro e Z ⟨⟨v, rfl⟩, ⟨xs, hS, hi, hl, hk⟩ | ⟨pre, hSp, c, hi, hl, hk⟩⟩
    · exact ⟨none, _, run_endLoop (P := P) hl (by simp), hdone B xs _ (Nat.le_refl _) hS (hI.put _ hi (by omega)) ((World.putObj_heap_other (by omega)).trans hk)⟩
    · exact ⟨some c, _, run_endLoop (P := P) hl (by simp), hstop B c pre _ (Nat.le_refl _) hSp ((hIx c).putObj _ hi (by omega) hl rfl) ((World.putObj_heap_other (by omega)).trans hk)⟩

end Go.Abs

/- A row of numbers in a block of its own. -/
namespace Go.Abs
open Go Go.RowKit Go.Plain

/-- Block g holds the numbers f 0 .. f (s - 1). -/
structure RowAt (W : World) (g s : Nat) (f : Nat → Nat) : Prop where
  lt : g < W.heap.size
  cell : ∀ k, k < s → W.cell? ⟨g, k, none⟩ = some (.int .i64 (f k : Nat))
  thaw : ∀ k, k < s → W.frozen? ⟨g, k, none⟩ = false

theorem grownBy_set (W : World) (b o : Nat) (v : Value) : W.grownBy (W.setCell ⟨b, o, none⟩ v) (some b) :=
  ⟨rfl, rfl, rfl, (KeepsOthers.setCell W _ v).size, fun k _ hk => Below.heap_setCell _ _ _ k (fun e => hk (by rw [e]))⟩

theorem cell_block {W X : World} {b o : Nat} (h : X.heap[b]? = W.heap[b]?) : X.cell? ⟨b, o, none⟩ = W.cell? ⟨b, o, none⟩ := World.cell?_of_block h
theorem frozen_block {W X : World} {b o : Nat} (h : X.heap[b]? = W.heap[b]?) : X.frozen? ⟨b, o, none⟩ = W.frozen? ⟨b, o, none⟩ := World.frozen?_of_block h

theorem RowAt.block {W X : World} {g s : Nat} {f : Nat → Nat} (h : RowAt W g s f) (e : X.heap[g]? = W.heap[g]?) (hz : g < X.heap.size) : RowAt X g s f :=
  ⟨hz, fun k hk => (cell_block e).trans (h.cell k hk), fun k hk => (frozen_block e).trans (h.thaw k hk)⟩

theorem RowAt.below {W X : World} {g s : Nat} {f : Nat → Nat} (h : RowAt W g s f) (hb : Below W.heap.size W X) : RowAt X g s f :=
  h.block (hb.block g h.lt) (Nat.lt_of_lt_of_le h.lt hb.size)

theorem RowAt.put {W : World} {g s l : Nat} {f : Nat → Nat} (h : RowAt W g s f) (o : Obj) (hl : g ≠ l) : RowAt (W.putObj l o) g s f :=
  h.block (World.putObj_heap_other hl) (by simpa using h.lt)

theorem RowAt.rows {W X : World} {g s : Nat} {f : Nat → Nat} (h : RowAt W g s f) (hk : KeepsRows W X) (hs : 0 < s) : RowAt X g s f := by
  have hc := h.cell 0 hs
  cases ho : W.heap[g]? with
  | none => simp [World.cell?, ho] at hc
  | some u =>
    have hu : u.isCells = true := by cases u <;> first | rfl | (simp [World.cell?, ho] at hc)
    have e := hk.same g u ho hu
    exact h.block (e.trans ho.symm) (Nat.lt_of_lt_of_le h.lt hk.size)

theorem RowAt.change {W : World} {g s : Nat} {f f' : Nat → Nat} (h : RowAt W g s f) (e : ∀ k, k < s → f k = f' k) : RowAt W g s f' :=
  ⟨h.lt, fun k hk => by rw [← e k hk]; exact h.cell k hk, h.thaw⟩

theorem RowAt.set {W : World} {g s : Nat} {f f' : Nat → Nat} (h : RowAt W g s f) {i : Nat} (hi : i < s) (v : Nat) (hv : f' i = v) (he : ∀ k, k < s → k ≠ i → f' k = f k) : RowAt (W.setCell ⟨g, i, none⟩ (.int .i64 (v : Nat))) g s f' := by
  refine ⟨Nat.lt_of_lt_of_le h.lt (grownBy_set W g i _).size, fun k hk => ?_, fun k hk => by rw [World.frozen?_setCell]; exact h.thaw k hk⟩
  by_cases hki : k = i
  · subst hki
    rw [hv]
    exact World.cell?_setCell_same _ _ _ (h.cell k hk)
  · rw [he k hk hki]
    rw [World.cell?_setCell_other]
    · exact h.cell k hk
    · intro e
      cases e
      exact hki rfl

/-- The number in a cell. -/
def cellN (W : World) (g i : Nat) : Nat := match W.cell? ⟨g, i, none⟩ with
  | some (.int _ v) => v.toNat
  | _ => 0

theorem RowAt.num {W : World} {g s : Nat} {f : Nat → Nat} (h : RowAt W g s f) : ∀ i, i < s → cellN W g i = f i := fun i hi => by
  unfold cellN
  rw [h.cell i hi]
  simp

/-- What has been shown: lists in the one block, and all that are before f. -/
structure Shown (n s g : Nat) (pre : List (Nat × (Nat → Nat))) (f : Nat → Nat) : Prop where
  one : ∀ x ∈ pre, x.1 = g ∧ Cho n s x.2
  all : ∀ h, Cho n s h → Lex s h f → ∃ x ∈ pre, Same s h x.2

theorem Shown.start {n s g : Nat} {f : Nat → Nat} (hf : ∀ i, i < s → f i = i) : Shown n s g [] f := ⟨(fun x hx => by cases hx), fun h hh hl => absurd hl (lex_first hf hh)⟩

theorem Shown.next {n s g k : Nat} {pre : List (Nat × (Nat → Nat))} {f : Nat → Nat} (h : Shown n s g pre f) (hf : Cho n s f) (hk : k < s) (hlast : ∀ i, k < i → i < s → f i + s = n + i) : Shown n s g (pre ++ [(g, f)]) (nxt f k) :=
  ⟨fun x hx => (List.mem_append.1 hx).elim (h.one x) (fun h1 => by rw [List.mem_singleton.1 h1]; exact ⟨rfl, hf⟩), fun u hu hl => by
    rcases lex_nxt hk hlast hu hl with h1 | h1
    · obtain ⟨x, hx, e⟩ := h.all u hu h1
      exact ⟨x, List.mem_append_left _ hx, e⟩
    · exact ⟨(g, f), by simp, h1⟩⟩

/-- All have been shown. -/
theorem Shown.whole {n s g : Nat} {pre : List (Nat × (Nat → Nat))} {f : Nat → Nat} (h : Shown n s g pre f) (hlast : ∀ i, i < s → f i + s = n + i) : ∀ u, Cho n s u → ∃ x ∈ pre ++ [(g, f)], Same s u x.2 := fun u hu => by
  rcases lex_last hlast hu with h1 | h1
  · obtain ⟨x, hx, e⟩ := h.all u hu h1
    exact ⟨x, List.mem_append_left _ hx, e⟩
  · exact ⟨(g, f), by simp, h1⟩

end Go.Abs

/- A function that leaves with several marks. -/
namespace Go.Abs
open Go Go.RowKit

variable {F : Fence} {n : Nat} {P : Program}

def markD (D : Nat) : Deferred := { target := .collected D, args := #[] }

/-- The blocks for deferred calls, shut. -/
def shut : World → List Nat → World
  | W, [] => W
  | W, D :: Ds => shut (W.putObj D (.deferred none)) Ds

def Opens (W : World) (Ds : List Nat) : Prop := ∀ D ∈ Ds, W.heap[D]? = some (.deferred (some []))

theorem Opens.tail {W : World} {D : Nat} {Ds : List Nat} (h : Opens W (D :: Ds)) (hn : (D :: Ds).Nodup) (o : Obj) : Opens (W.putObj D o) Ds := fun E hE =>
  (World.putObj_heap_other (fun e => (List.nodup_cons.1 hn).1 (by rw [← e]; exact hE))).trans (h E (List.mem_cons_of_mem _ hE))

theorem leaves_marks {fn : Func} {tmps : Array Value} {R : Ending → World → Prop} : ∀ (Ds : List Nat) (W : World), Ds.Nodup → Opens W Ds → (∃ v, (results fn tmps).run P (shut W Ds) = .ok v (shut W Ds) ∧ R (.returned v) (shut W Ds)) →
    LeavesInM F n P fn tmps R (Ds.map markD) .returning W
  | [], W, _, _, h => h
  | D :: Ds, W, hn, ho, h => ⟨by simp, .inl ⟨D, _, rfl, run_takeDeferred (ho D (by simp)), leaves_marks Ds _ (List.nodup_cons.1 hn).2 (ho.tail hn _) h⟩⟩

theorem shut_block {k : Nat} : ∀ (Ds : List Nat) (W : World), k ∉ Ds → (shut W Ds).heap[k]? = W.heap[k]?
  | [], _, _ => rfl
  | D :: Ds, W, h => by
    simp only [List.mem_cons, not_or] at h
    unfold shut
    rw [shut_block Ds _ h.2]
    exact World.putObj_heap_other h.1

theorem shut_below {m : Nat} : ∀ (Ds : List Nat) (W : World), (∀ D ∈ Ds, m ≤ D) → m ≤ W.heap.size → Below m W (shut W Ds)
  | [], W, _, _ => Below.refl _ _
  | D :: Ds, W, h, hz => by
    unfold shut
    exact ((Below.refl m W).grown (grownBy_putObj' W D _) hz (fun k e => by cases e; exact h D (by simp))).trans (shut_below Ds _ (fun E hE => h E (List.mem_cons_of_mem _ hE)) (by simpa using hz))

theorem shut_own {base : Nat} {e : TypeId} {size k : Nat} {v : Value} {xs : List Value} : ∀ (Ds : List Nat) (W : World), Ds.Nodup → Opens W Ds → W.ownsRow base e size v k xs → (shut W Ds).ownsRow base e size v k xs
  | [], _, _, _, h => h
  | D :: Ds, W, hn, ho, h => by
    unfold shut
    exact shut_own Ds _ (List.nodup_cons.1 hn).2 (ho.tail hn _) (ownsRow_putObj h _ (ho D (by simp)) rfl)

theorem past_open {α : Type} {B : Nat} (Ds : List Nat) (h : ∀ D ∈ Ds, D < B) : Past B fun (_ : List α) W => Opens W Ds := fun s X Y row hs hg hr D hD =>
  (hg.block D (Array.getElem?_eq_some_iff.1 (hs D hD)).1 fun e => by have := hr D e.symm; have := h D hD; omega).trans (hs D hD)

theorem open_keep {W W' : World} {Ds : List Nat} (h : Opens W Ds) (hb : Below W.heap.size W W') : Opens W' Ds := fun D hD =>
  (hb.block D (Array.getElem?_eq_some_iff.1 (h D hD)).1).trans (h D hD)

theorem open_lt {W : World} {Ds : List Nat} (h : Opens W Ds) : ∀ D ∈ Ds, D < W.heap.size := fun D hD => (Array.getElem?_eq_some_iff.1 (h D hD)).1

theorem open_put {W : World} {Ds : List Nat} (h : Opens W Ds) {l : Nat} (o : Obj) (hl : l ∉ Ds) : Opens (W.putObj l o) Ds := fun D hD =>
  (World.putObj_heap_other (fun e => hl (by rw [← e]; exact hD))).trans (h D hD)

end Go.Abs
