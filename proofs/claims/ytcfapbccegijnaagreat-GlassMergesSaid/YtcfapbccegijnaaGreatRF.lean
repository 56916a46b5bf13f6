/- The abstract machine, part RF. -/
import Derived.Test.YtcfapbccegijnaaGreatLL
import Derived.Test.YtcfapbccegijnaaGreatLK
import Derived.Test.YtcfapbccegijnaaGreatRD
/- Rows of gauges that are stored into, and the gauges that the reference's reset has stored after k rounds. -/
namespace Go.Proofs.YtcfapbccegijnaaGreat
open Go Go.RowKit Go.Proofs Go.Abs

/-- The block holds n gauges, from its start on. -/
structure RowQ (W : World) (g n : Nat) (F : Nat → G5) : Prop where
  lt : g < W.heap.size
  c : ∀ j, j < n * 5 → W.cell? ⟨g, j, none⟩ = some (cG F j) ∧ W.frozen? ⟨g, j, none⟩ = false

theorem RowQ.keep {W W' : World} {g n : Nat} {F : Nat → G5} (h : RowQ W g n F) (hb : Below W.heap.size W W') : RowQ W' g n F :=
  ⟨Nat.lt_of_lt_of_le h.lt hb.size, fun j hj => ⟨keep_cell hb (h.c j hj).1, (hb.frozen h.lt).trans (h.c j hj).2⟩⟩

theorem RowQ.congr {W : World} {g n : Nat} {F F' : Nat → G5} (h : RowQ W g n F) (e : ∀ x, x < n → F x = F' x) : RowQ W g n F' :=
  ⟨h.lt, fun j hj => ⟨by rw [(h.c j hj).1, cG_congr (e (j / 5) (by omega))], (h.c j hj).2⟩⟩

theorem RowQ.other {W : World} {g n : Nat} {F : Nat → G5} (h : RowQ W g n F) {b o : Nat} (hb : b ≠ g) (v : Value) : RowQ (W.setCell ⟨b, o, none⟩ v) g n F :=
  ⟨by simpa [World.setCell] using h.lt, fun j hj => ⟨by rw [World.cell?_setCell_other (h := fun x => hb (by cases x; rfl))]; exact (h.c j hj).1, by rw [World.frozen?_setCell]; exact (h.c j hj).2⟩⟩

theorem RowQ.put {W : World} {g n : Nat} {F F' : Nat → G5} (h : RowQ W g n F) {p : Nat} (v : Value)
    (hv : ∀ j, j < n * 5 → cG F' j = if j = p then v else cG F j) : RowQ (W.setCell ⟨g, p, none⟩ v) g n F' := by
  refine ⟨by simpa [World.setCell] using h.lt, fun j hj => ?_⟩
  refine ⟨?_, by rw [World.frozen?_setCell]; exact (h.c j hj).2⟩
  rw [hv j hj]
  by_cases e : j = p
  · subst e
    rw [if_pos rfl]
    exact World.cell?_setCell_same _ _ _ (h.c _ hj).1
  · rw [if_neg e, World.cell?_setCell_other (h := fun x => e (by cases x; rfl))]
    exact (h.c j hj).1

def updG (F : Nat → G5) (x : Nat) (u : G5) (i : Nat) : G5 := if i = x then u else F i

theorem RowQ.set5 {W : World} {g n : Nat} {F : Nat → G5} (h : RowQ W g n F) (x : Nat) (a b c d e : Int) :
    RowQ (((((W.setCell ⟨g, x * 5, none⟩ (.int .i64 a)).setCell ⟨g, x * 5 + 1, none⟩ (.int .i64 b)).setCell ⟨g, x * 5 + 2, none⟩ (.int .i64 c)).setCell ⟨g, x * 5 + 3, none⟩ (.int .i64 d)).setCell ⟨g, x * 5 + 4, none⟩ (.int .i64 e)) g n (updG F x ⟨a, b, c, d, e⟩) := by
  have h1 : RowQ _ g n (updG F x ⟨a, (F x).b, (F x).c, (F x).d, (F x).e⟩) := h.put (p := x * 5) (.int .i64 a) (fun j hj => by
    unfold cG updG
    by_cases hx : j / 5 = x
    · rw [if_pos hx, hx]; (repeat' split) <;> first | rfl | omega
    · rw [if_neg hx, if_neg (show ¬ j = x * 5 by omega)])
  have h2 : RowQ _ g n (updG F x ⟨a, b, (F x).c, (F x).d, (F x).e⟩) := h1.put (p := x * 5 + 1) (.int .i64 b) (fun j hj => by
    unfold cG updG
    by_cases hx : j / 5 = x
    · simp only [if_pos hx]; (repeat' split) <;> first | rfl | omega
    · simp only [if_neg hx, if_neg (show ¬ j = x * 5 + 1 by omega)])
  have h3 : RowQ _ g n (updG F x ⟨a, b, c, (F x).d, (F x).e⟩) := h2.put (p := x * 5 + 2) (.int .i64 c) (fun j hj => by
    unfold cG updG
    by_cases hx : j / 5 = x
    · simp only [if_pos hx]; (repeat' split) <;> first | rfl | omega
    · simp only [if_neg hx, if_neg (show ¬ j = x * 5 + 2 by omega)])
  have h4 : RowQ _ g n (updG F x ⟨a, b, c, d, (F x).e⟩) := h3.put (p := x * 5 + 3) (.int .i64 d) (fun j hj => by
    unfold cG updG
    by_cases hx : j / 5 = x
    · simp only [if_pos hx]; (repeat' split) <;> first | rfl | omega
    · simp only [if_neg hx, if_neg (show ¬ j = x * 5 + 3 by omega)])
  exact h4.put (p := x * 5 + 4) (.int .i64 e) (fun j hj => by
    unfold cG updG
    by_cases hx : j / 5 = x
    · simp only [if_pos hx]; (repeat' split) <;> first | rfl | omega
    · simp only [if_neg hx, if_neg (show ¬ j = x * 5 + 4 by omega)])

theorem RowQ.slg {W : World} {g n : Nat} {F : Nat → G5} (h : RowQ W g n F) (cap : Nat) {G : List G5} (hn : G.length = n) (hl : n ≤ 1000000) (hF : ∀ i, i < n → F i = gz G i) : SlG W (.slice (some ⟨g, 0, none⟩) n cap) G := by
  subst hn
  have h' := h.congr hF
  refine ⟨_, cap, rfl, by omega, fun k hk => ⟨g, 0, rfl, ?_, ?_, ?_, ?_, ?_⟩⟩
  · rw [Nat.zero_add, (h'.c _ (by omega)).1, cG_0]
  · rw [Nat.zero_add, (h'.c _ (by omega)).1, cG_1]
  · rw [Nat.zero_add, (h'.c _ (by omega)).1, cG_2]
  · rw [Nat.zero_add, (h'.c _ (by omega)).1, cG_3]
  · rw [Nat.zero_add, (h'.c _ (by omega)).1, cG_4]

theorem makeG (s : Nat) (hs : s ≤ 1000) (w : World) : (Instr.makeSlice 22 (.int .i64 (s : Nat)) (.int .i64 (s : Nat))).run Tryz.prog w = .ok (.slice (some ⟨w.heap.size, 0, none⟩) s s) (w.alloc (.cells (madeCells #[.int .i64 0, .int .i64 0, .int .i64 0, .int .i64 0, .int .i64 0] (s * 5)) 83)) := by
  obtain ⟨i0, hi, hz0, hz1, hz2⟩ := info_parts info67
  have h := run_make (P := Tryz.prog) w 22 83 i0 (gg 0 0 0 0 0) Tryz.underlying22 hi hz0 .i64 .i64 s s (by omega) (Int.le_refl _) (by rw [hz2]; omega) (by omega)
  rw [hz1, Int.toNat_natCast] at h
  exact h

theorem RowQ.made (s : Nat) (w : World) : RowQ (w.alloc (.cells (madeCells #[.int .i64 0, .int .i64 0, .int .i64 0, .int .i64 0, .int .i64 0] (s * 5)) 83)) w.heap.size s (fun _ => ⟨0, 0, 0, 0, 0⟩) := by
  have h := World.alloc_heap_new w (.cells (madeCells #[.int .i64 0, .int .i64 0, .int .i64 0, .int .i64 0, .int .i64 0] (s * 5)) 83)
  refine ⟨by simp, fun j hj => ⟨?_, frozen_of h⟩⟩
  refine cell_of h ?_
  have e : cG (fun _ => ⟨0, 0, 0, 0, 0⟩) j = .int .i64 0 := by
    unfold cG; (repeat' split) <;> rfl
  rw [e]
  unfold madeCells
  rw [Array.getElem?_map, show (Array.range (s * 5))[j]? = some j by simp [hj], Option.map_some]
  have hj5 : j % 5 < 5 := Nat.mod_lt _ (by omega)
  rcases (show j % 5 = 0 ∨ j % 5 = 1 ∨ j % 5 = 2 ∨ j % 5 = 3 ∨ j % 5 = 4 by omega) with e | e | e | e | e <;> simp [e]

/-! ### plain -/

/-- The gauges as they are laid. -/
def layL (G : List G5) (n sh : Nat) (b : Bool) : List G5 := (List.range n).map (lay G n sh b)

theorem layL_len (G : List G5) (n sh : Nat) (b : Bool) : (layL G n sh b).length = n := by simp [layL]
theorem layL_gz (G : List G5) {n sh x : Nat} (b : Bool) (h : x < n) : gz (layL G n sh b) x = lay G n sh b x := by
  unfold gz layL
  simp [List.getD_eq_getElem?_getD, h]

/-- The edge on which gauge i is laid, and the gauge that is laid on edge x. -/
def ld (n sh : Nat) (b : Bool) (i : Nat) : Nat := if b then kb n sh i else fw n sh i
def dl (n sh : Nat) (b : Bool) (x : Nat) : Nat := if b then kb n sh x else kf n sh x

theorem ld_lt {n sh i : Nat} (b : Bool) (h : sh < n) (hi : i < n) : ld n sh b i < n := by
  unfold ld; split
  · exact kb_lt h hi
  · exact fw_lt h hi

theorem ld_iff {n sh i x : Nat} (b : Bool) (h : sh < n) (hi : i < n) (hx : x < n) : dl n sh b x = i ↔ x = ld n sh b i := by
  unfold dl ld
  cases b
  · simp only [Bool.false_eq_true, if_false]; unfold kf fw; (repeat' split) <;> omega
  · simp only [if_true]; unfold kb; (repeat' split) <;> omega

/-- What lies there after k rounds. -/
def stQ (G : List G5) (n sh : Nat) (b : Bool) (k x : Nat) : G5 := if dl n sh b x < k then lay G n sh b x else ⟨0, 0, 0, 0, 0⟩

/-- The gauge that round k stores. -/
def tuG (G : List G5) (n : Nat) (b : Bool) (k : Nat) : G5 := if b then ⟨(gz G k).a, (gz G k).b, (gz G (pr n k)).c, (gz G (pr n k)).d, (gz G (pr n k)).e⟩ else gz G k

theorem stQ_zero (G : List G5) (n sh : Nat) (b : Bool) : stQ G n sh b 0 = fun _ => ⟨0, 0, 0, 0, 0⟩ := by
  funext x; unfold stQ; rw [if_neg (by omega)]

theorem stQ_step (G : List G5) {n sh k x : Nat} (b : Bool) (h : sh < n) (hk : k < n) (hx : x < n) : updG (stQ G n sh b k) (ld n sh b k) (tuG G n b k) x = stQ G n sh b (k + 1) x := by
  unfold updG stQ
  have e := ld_iff b h hk hx
  by_cases hx' : x = ld n sh b k
  · rw [if_pos hx']
    have e2 := e.2 hx'
    rw [if_pos (by omega)]
    unfold tuG lay
    unfold dl at e2
    cases b
    · simp only [Bool.false_eq_true, if_false] at e2 ⊢; rw [e2]
    · simp only [if_true] at e2 ⊢; rw [e2]
  · rw [if_neg hx']
    have e2 : ¬ dl n sh b x = k := fun e2 => hx' (e.1 e2)
    by_cases h3 : dl n sh b x < k
    · rw [if_pos h3, if_pos (by omega)]
    · rw [if_neg h3, if_neg (by omega)]

theorem stQ_all (G : List G5) {n sh x : Nat} (b : Bool) (h : sh < n) (hx : x < n) : stQ G n sh b n x = gz (layL G n sh b) x := by
  rw [layL_gz G b hx]
  unfold stQ
  rw [if_pos]
  unfold dl; split
  · exact kb_lt h hx
  · exact kf_lt h hx

theorem ed_ld {n sh i : Nat} (b : Bool) (_h : sh < n) (hi : i < n) : Plain.ed (sh : Int) b (n : Nat) (i : Nat) = (ld n sh b i : Nat) := by
  unfold Plain.ed ld fw kb
  cases b
  · simp only [Bool.false_eq_true, if_false]; (repeat' split) <;> omega
  · simp only [if_true]; (repeat' split) <;> omega

end Go.Proofs.YtcfapbccegijnaaGreat

/- Walks: the reference's reset. -/
namespace Go.Proofs.YtcfapbccegijnaaGreat
open Go Go.RowKit Go.Proofs Go.Abs

/-- What the operations of the storing region yield. -/
def RtV (w : World) (n k l : Nat) (sh : Int) (b : Bool) (u : G5) : Nat → Value → World → Prop
  | 0, v, _ => v = .pointer (some ⟨w.heap.size + 3, 5, none⟩)
  | 1, v, _ => v = .slice (some ⟨w.heap.size + 4, 0, none⟩) n n
  | 2, v, _ => v = st sh b
  | 3, v, _ => v = .int .i64 n
  | 4, v, _ => v = .int .i64 k
  | 5, v, _ => v = .int .i64 l
  | 6, v, _ => v = gg u.a u.b u.c u.d u.e
  | _, v, _ => v = .pointer (some ⟨w.heap.size + 4, l * 5, none⟩)

theorem RtV.keep {w : World} {n k l : Nat} {sh : Int} {b : Bool} {u : G5} (i : Nat) (v : Value) (W W' : World) (h : RtV w n k l sh b u i v W) (_ : Below W.heap.size W W') : RtV w n k l sh b u i v W' := by
  match i, h with
  | 0, h => exact h
  | 1, h => exact h
  | 2, h => exact h
  | 3, h => exact h
  | 4, h => exact h
  | 5, h => exact h
  | 6, h => exact h
  | _ + 7, h => exact h

theorem res7 {W : World} {N : Nat} {a0 a1 a2 a3 a4 a5 a6 b0 b1 b2 b3 b4 b5 b6 : Value} (h : W.heap[N]? = some (.cells #[a0, a1, a2, a3, a4, a5, a6] 25 (0, 0))) :
    (((((((W.setCell ⟨N, 0, none⟩ b0).setCell ⟨N, 1, none⟩ b1).setCell ⟨N, 2, none⟩ b2).setCell ⟨N, 3, none⟩ b3).setCell ⟨N, 4, none⟩ b4).setCell ⟨N, 5, none⟩ b5).setCell ⟨N, 6, none⟩ b6).heap[N]? = some (.cells #[b0, b1, b2, b3, b4, b5, b6] 25 (0, 0)) := by
  unfold World.setCell
  simp only [Array.getElem?_modify, if_true, h, Option.map_some]
  rfl

theorem set_cd {W : World} {N : Nat} {a b c d e c' d' : Value} (h : W.heap[N]? = some (.cells #[a, b, c, d, e] 83 (0, 0))) : ((W.setCell ⟨N, 2, none⟩ c').setCell ⟨N, 3, none⟩ d').drew.heap[N]? = some (.cells #[a, b, c', d', e] 83 (0, 0)) := by
  unfold World.setCell
  simp only [World.drew, Array.getElem?_modify, if_true, h, Option.map_some]
  rfl
theorem set_e {W : World} {N : Nat} {a b c d e e' : Value} (h : W.heap[N]? = some (.cells #[a, b, c, d, e] 83 (0, 0))) : (W.setCell ⟨N, 4, none⟩ e').drew.heap[N]? = some (.cells #[a, b, c, d, e'] 83 (0, 0)) := by
  unfold World.setCell
  simp only [World.drew, Array.getElem?_modify, if_true, h, Option.map_some]
  rfl

theorem heap_setOther {W : World} {M N o : Nat} {u : Value} (hM : M ≠ N) : (W.setCell ⟨M, o, none⟩ u).heap[N]? = W.heap[N]? := by
  unfold World.setCell
  rw [Array.getElem?_modify, if_neg hM]

set_option maxRecDepth 100000 in
set_option maxHeartbeats 8000000 in
theorem reset51_F (id c r m s : Int) (vg vm : Value) (G : List G5) (M : List M3) (sh : Nat) (w : World) (hG : SlG w vg G) (hM : SlM w vm M) (hok : vP id c r m s G M = true) (hs : vset sh G.length = true) :
    Calls Tryz.prog 51 #[pcs id c r m s vg vm, st sh false] w fun e w' => ∃ vg' vm', e = .returned (pcs id c r m s vg' vm') ∧ SlG w' vg' (layL G G.length sh false) ∧ SlM w' vm' (shM G.length sh false M) ∧ Fr w.heap.size vg' ∧ Fr w.heap.size vm' ∧ Below w.heap.size w w' := by
  obtain ⟨hvg, hvm⟩ := vP_marks hok
  obtain ⟨g3, g24, -⟩ := vGs_ok hvg
  have hh := hs
  simp only [vset, Bool.and_eq_true, decide_eq_true_eq] at hh
  obtain ⟨⟨⟨a1, a2⟩, a3⟩, a4⟩ := hh
  have hsl : sh < G.length := by omega
  obtain ⟨gb, goff, gcap, rfl, hc⟩ := hG.cell (by omega)
  have HC := Lib.hid (fun (k : Nat) (hk : k < G.length) => (show w.cell? ⟨gb, goff + k * 5, none⟩ = some (.int .i64 (gz G k).a) ∧ w.cell? ⟨gb, goff + k * 5 + 1, none⟩ = some (.int .i64 (gz G k).b) ∧ w.cell? ⟨gb, goff + k * 5 + 2, none⟩ = some (.int .i64 (gz G k).c) ∧ w.cell? ⟨gb, goff + k * 5 + 3, none⟩ = some (.int .i64 (gz G k).d) ∧ w.cell? ⟨gb, goff + k * 5 + 4, none⟩ = some (.int .i64 (gz G k).e) from
    ⟨by rw [hc _ (by omega), cG_0], by rw [Nat.add_assoc, hc _ (by omega), cG_1], by rw [Nat.add_assoc, hc _ (by omega), cG_2], by rw [Nat.add_assoc, hc _ (by omega), cG_3], by rw [Nat.add_assoc, hc _ (by omega), cG_4]⟩))
  have CL := Lib.hid (fun (k : Nat) (hk : k < G.length) W => (show Calls Tryz.prog 98 #[st sh false, .int .i64 (G.length : Nat), .int .i64 (k : Nat)] W fun e w' => e = .returned (.int .i64 (ld G.length sh false k : Nat)) ∧ Below W.heap.size W w' from by
    have := laid_any sh (G.length : Nat) k false W a1 a2 a3 a4 (by omega) (by omega)
    rwa [ed_ld false hsl hk] at this))
  have LT := Lib.hid (fun (k : Nat) (hk : k < G.length) => ld_lt false hsl hk)
  have PM := Lib.hid (fun (k : Nat) (hk : k < G.length) => (show ((k : Int) + (G.length : Nat) - 1) % (G.length : Nat) = (pr G.length k : Nat) ∧ pr G.length k < G.length from ⟨pr_mod hk, pr_lt hk⟩))
  have STEP := Lib.hid (fun (k : Nat) (hk : k < G.length) (W : World) (g : Nat) (h : RowQ W g G.length (stQ G G.length sh false k)) => (h.set5 (ld G.length sh false k) (tuG G G.length false k).a (tuG G G.length false k).b (tuG G G.length false k).c (tuG G G.length false k).d (tuG G G.length false k).e).congr (F' := stQ G G.length sh false (k + 1)) (fun x hx => stQ_step G false hsl hk hx))
  have TU := Lib.hid (fun (k : Nat) => (show tuG G G.length false k = gz G k from rfl))
  have DONE := Lib.hid (fun (W : World) (g : Nat) (h : RowQ W g G.length (stQ G G.length sh false G.length)) => h.slg G.length (layL_len G G.length sh false) (by omega) (fun x hx => stQ_all G false hsl hx))
  have S0 := Lib.hid (stQ_zero G G.length sh false)
  have CS := Lib.hid (fun W (hW : Below w.heap.size w W) => shown_any G.length vm M sh false W (hM.keep hW) hs hvm)
  obtain ⟨R, hR⟩ : ∃ R : World → Value → Prop, R = fun W v => SlM W v (shM G.length sh false M) := ⟨_, rfl⟩
  have CR := Lib.hid (show ∀ W, Below w.heap.size w W → Calls Tryz.prog 99 #[vm, st sh false, .int .i64 (G.length : Nat)] W fun e w' => ∃ a n c, e = .returned (.slice a n c) ∧ R w' (.slice a n c) ∧ Below W.heap.size W w' ∧ ∀ p n' c', Value.slice a n c = .slice (some p) n' c' → W.heap.size ≤ p.block from fun W hW => by
    refine (CS.out W hW).mono ?_
    rintro e w' ⟨v', h1, h2, h4, h5⟩
    obtain ⟨a, c, rfl, -⟩ := _root_.id h2
    rw [hR]
    exact ⟨a, _, c, h1, h2, h4, h5⟩)
  have RK := Lib.hid (show ∀ W v, R W v → SlM W v (shM G.length sh false M) from fun W v h => by
    rw [hR] at h
    exact h)
  have hmk := makeG G.length (by omega)
  obtain ⟨am, mcap, hms, -, -⟩ := hM
  subst hms
  clear CS hR hG hok hs hvg hvm hsl a1 a2 a3 a4 hc
  obtain ⟨gl, hgl⟩ : ∃ gl, gl = layL G G.length sh false := ⟨_, rfl⟩
  obtain ⟨sf, hsf⟩ : ∃ sf, sf = stQ G G.length sh false := ⟨_, rfl⟩
  obtain ⟨tu, htu⟩ : ∃ tu, tu = tuG G G.length false := ⟨_, rfl⟩
  obtain ⟨lf, hlf⟩ : ∃ lf, lf = ld G.length sh false := ⟨_, rfl⟩
  obtain ⟨pf, hpf⟩ : ∃ pf, pf = pr G.length := ⟨_, rfl⟩
  rw [← hgl, ← hsf] at DONE
  rw [← hsf] at S0
  simp only [← hsf, ← htu, ← hlf] at STEP
  simp only [← hlf] at CL LT
  simp only [← hpf] at PM
  simp only [← htu] at TU
  rw [← hgl]
  clear hgl hsf htu hlf hpf
  obtain ⟨n, hn⟩ : ∃ n, G.length = n := ⟨_, rfl⟩
  obtain ⟨q, hq⟩ : ∃ q, M.length = q := ⟨_, rfl⟩
  rw [hn] at HC CL LT PM STEP DONE CR RK hmk g3 g24 ⊢
  rw [hq] at CR ⊢
  clear hn hq
  have hP := PcSt.new w id c r m s (.slice (some ⟨gb, goff, none⟩) n gcap) (.slice am q mcap) sh false
  obtain ⟨W0, hW0⟩ : ∃ W0, ((w.alloc (pcsObj id c r m s (.slice (some ⟨gb, goff, none⟩) n gcap) (.slice am q mcap))).alloc (stObj sh false)).alloc (.cells #[.int .i64 0, .int .i64 0, .int .i64 0, .int .i64 0, .int .i64 0, .slice none 0 0, .slice none 0 0] 25) = W0 := ⟨_, rfl⟩
  have hP0 : PcSt w W0 id c r m s (.slice (some ⟨gb, goff, none⟩) n gcap) (.slice am q mcap) sh false := by rw [← hW0]; exact hP.keep ((Below.refl _ _).alloc (Nat.le_refl _) _)
  have hs0 : W0.heap.size = w.heap.size + 3 := by rw [← hW0]; simp
  have hI0 : RsI w (W0.alloc (.cells #[.int .i64 id, .int .i64 c, .int .i64 r, .int .i64 m, .int .i64 s, .slice (some ⟨w.heap.size + 4, 0, none⟩) n n, .slice am q mcap] 25)) id c r m s (.slice (some ⟨gb, goff, none⟩) n gcap) (.slice am q mcap) sh false c r (.slice (some ⟨w.heap.size + 4, 0, none⟩) n n) := by
    refine ⟨hP0.keep ((Below.refl _ _).alloc (Nat.le_refl _) _), ?_, ?_⟩
    · rw [alloc_heap_old _ _ (by omega), ← hW0]
      have := alloc_heap_new ((w.alloc (pcsObj id c r m s (.slice (some ⟨gb, goff, none⟩) n gcap) (.slice am q mcap))).alloc (stObj sh false)) (.cells #[.int .i64 0, .int .i64 0, .int .i64 0, .int .i64 0, .int .i64 0, .slice none 0 0, .slice none 0 0] 25)
      rw [World.size_alloc, World.size_alloc] at this
      exact this
    · rw [← hs0]; exact alloc_heap_new _ _
  have hs1 : (W0.alloc (.cells #[.int .i64 id, .int .i64 c, .int .i64 r, .int .i64 m, .int .i64 s, .slice (some ⟨w.heap.size + 4, 0, none⟩) n n, .slice am q mcap] 25)).heap.size = w.heap.size + 4 := by simp [hs0]
  have hI1 : RsI w ((W0.alloc (.cells #[.int .i64 id, .int .i64 c, .int .i64 r, .int .i64 m, .int .i64 s, .slice (some ⟨w.heap.size + 4, 0, none⟩) n n, .slice am q mcap] 25)).alloc (.cells (madeCells #[.int .i64 0, .int .i64 0, .int .i64 0, .int .i64 0, .int .i64 0] (n * 5)) 83)) id c r m s (.slice (some ⟨gb, goff, none⟩) n gcap) (.slice am q mcap) sh false c r (.slice (some ⟨w.heap.size + 4, 0, none⟩) n n) := hI0.keep ((Below.refl _ _).alloc (Nat.le_refl _) _)
  have hQ1 : RowQ ((W0.alloc (.cells #[.int .i64 id, .int .i64 c, .int .i64 r, .int .i64 m, .int .i64 s, .slice (some ⟨w.heap.size + 4, 0, none⟩) n n, .slice am q mcap] 25)).alloc (.cells (madeCells #[.int .i64 0, .int .i64 0, .int .i64 0, .int .i64 0, .int .i64 0] (n * 5)) 83)) (w.heap.size + 4) n (sf 0) := by
    have := RowQ.made n (W0.alloc (.cells #[.int .i64 id, .int .i64 c, .int .i64 r, .int .i64 m, .int .i64 s, .slice (some ⟨w.heap.size + 4, 0, none⟩) n n, .slice am q mcap] 25))
    rw [hs1] at this
    rw [S0.out]
    exact this
  obtain ⟨-, -, c0, c1, c2, c3, c4, c5, c6, s0, s1⟩ := _root_.id hP0
  clear hP hP0 hI0 hs1
  go_enter Tryz.func51, Tryz.ntmps51
  go_wp2_with fail
  clear hW0 c0 c1 c2 c3 c4 c5 c6 s0 s1
  generalize (W0.alloc (.cells #[.int .i64 id, .int .i64 c, .int .i64 r, .int .i64 m, .int .i64 s, .slice (some ⟨w.heap.size + 4, 0, none⟩) n n, .slice am q mcap] 25)).alloc (.cells (madeCells #[.int .i64 0, .int .i64 0, .int .i64 0, .int .i64 0, .int .i64 0] (n * 5)) 83) = W1 at hI1 hQ1 ⊢
  clear hs0 W0
  go_loopw [7] (fun i wr => ∃ k : Nat, k ≤ n ∧ i = .int .i64 k ∧ RsI w wr id c r m s (.slice (some ⟨gb, goff, none⟩) n gcap) (.slice am q mcap) sh false c r (.slice (some ⟨w.heap.size + 4, 0, none⟩) n n) ∧ RowQ wr (w.heap.size + 4) n (sf k)) (fun i _ => n - (intOf i).toNat)
  case atStart => exact ⟨0, Nat.zero_le _, rfl, hI1, hQ1⟩
  case round =>
    clear hI1 hQ1 W1
    obtain ⟨k, hk, rfl, hI, hQ⟩ := hrel
    by_cases hlt : k < n
    · have j1 : (k : Int) < (n : Int) := by omega
      have b0 := hI.ps.bel
      obtain ⟨x0, x1, x2, x3, x4⟩ := HC.out k hlt
      replace x0 := keep_cell b0 x0
      replace x1 := keep_cell b0 x1
      replace x2 := keep_cell b0 x2
      replace x3 := keep_cell b0 x3
      replace x4 := keep_cell b0 x4
      obtain ⟨c5, s0, s1⟩ := And.intro hI.ps.c5 (And.intro hI.ps.s0 hI.ps.s1)
      have tuk := TU.out k
      generalize hgk : gz G k = gk at x0 x1 x2 x3 x4 tuk
      clear hgk
      have hsz : Hid (w.heap.size + 4 < wr.heap.size) := Lib.hid hQ.lt
      have bA : Below wr.heap.size wr (wr.alloc (.cells #[.int .i64 gk.a, .int .i64 gk.b, .int .i64 gk.c, .int .i64 gk.d, .int .i64 gk.e] 83)) := (Below.refl _ _).alloc (Nat.le_refl _) _
      replace s1 := keep_cell bA s1
      have hIA := hI.keep bA
      have hQA := hQ.keep bA
      have hN := alloc_heap_new wr (.cells #[.int .i64 gk.a, .int .i64 gk.b, .int .i64 gk.c, .int .i64 gk.d, .int .i64 gk.e] 83)
      clear bA
      go_wp2_with fail
      rw [← tuk] at hN hIA hQA ⊢
      generalize hu : tu k = u at hN hIA hQA ⊢
      generalize wr.alloc (.cells #[.int .i64 u.a, .int .i64 u.b, .int .i64 u.c, .int .i64 u.d, .int .i64 u.e] 83) = WB at hN hIA hQA ⊢
      clear s1 tuk
      have CLk := CL.out k hlt
      have LTk := Lib.hid (LT.out k hlt)
      have STk := Lib.hid (STEP.out k hlt)
      rw [hu] at STk
      generalize lf k = l at CLk LTk STk
      clear hu
      have hQs := Lib.hid hQA.lt
      refine wp_region_valsT 8 (RtV w n k l sh false u) (by kernel_rfl) (by kernel_rfl) RtV.keep ?_ ?_
      · simp only [List.take_succ_cons, List.take_zero]
        intro i o ho a' W hW hfr hdep
        have f3 : a'.tmps[3]?.getD undef = .pointer (some ⟨w.heap.size + 1, 0, none⟩) := Array.getD_eq_getD_getElem?.symm.trans (hfr 3 rfl)
        have f5 : a'.tmps[5]?.getD undef = .int .i64 n := Array.getD_eq_getD_getElem?.symm.trans (hfr 5 rfl)
        have f6 : a'.tmps[6]?.getD undef = .pointer (some ⟨w.heap.size + 3, 0, none⟩) := Array.getD_eq_getD_getElem?.symm.trans (hfr 6 rfl)
        have f7 : a'.tmps[7]?.getD undef = .int .i64 k := Array.getD_eq_getD_getElem?.symm.trans (hfr 7 rfl)
        have f8 : a'.tmps[8]?.getD undef = .pointer (some ⟨wr.heap.size, 0, none⟩) := Array.getD_eq_getD_getElem?.symm.trans (hfr 8 rfl)
        have hIw := hIA.keep hW
        have hNw := (hW.block _ (Array.getElem?_eq_some_iff.1 hN).1).trans hN
        have s0 := hIw.ps.s0
        have s1 := hIw.ps.s1
        have q5 : W.cell? ⟨w.heap.size + 3, 5, none⟩ = some (.slice (some ⟨w.heap.size + 4, 0, none⟩) n n) := cell_of hIw.box rfl
        have z0 := cell_of hNw (k := 0) rfl
        have z1 := cell_of hNw (k := 1) rfl
        have z2 := cell_of hNw (k := 2) rfl
        have z3 := cell_of hNw (k := 3) rfl
        have z4 := cell_of hNw (k := 4) rfl
        clear hfr hIw hNw
        have hi : i < 8 := by have := (List.getElem?_eq_some_iff.1 ho).1; simpa using this
        obtain rfl | rfl | rfl | rfl | rfl | rfl | rfl | rfl : i = 0 ∨ i = 1 ∨ i = 2 ∨ i = 3 ∨ i = 4 ∨ i = 5 ∨ i = 6 ∨ i = 7 := by omega
        all_goals simp only [List.getElem?_cons_zero, List.getElem?_cons_succ, Option.some.injEq] at ho
        all_goals subst ho
        · clear hdep
          refine .inl ⟨_, W, ?_, Below.refl _ _, rfl⟩
          go_simp
        · have d0 : a'.tmps[52]?.getD undef = .pointer (some ⟨w.heap.size + 3, 5, none⟩) := Array.getD_eq_getD_getElem?.symm.trans (hdep ⟨0, .data⟩ (by simp) rfl 52 rfl)
          clear hdep
          refine .inl ⟨_, W, ?_, Below.refl _ _, rfl⟩
          go_simp
        · clear hdep
          refine .inl ⟨_, W, ?_, Below.refl _ _, rfl⟩
          go_simp
        · clear hdep
          refine .inl ⟨_, W, ?_, Below.refl _ _, rfl⟩
          go_simp
        · clear hdep
          refine .inl ⟨_, W, ?_, Below.refl _ _, rfl⟩
          go_simp
        · have d2 : a'.tmps[54]?.getD undef = st sh false := Array.getD_eq_getD_getElem?.symm.trans (hdep ⟨2, .data⟩ (by simp) rfl 54 rfl)
          have d3 : a'.tmps[55]?.getD undef = .int .i64 n := Array.getD_eq_getD_getElem?.symm.trans (hdep ⟨3, .data⟩ (by simp) rfl 55 rfl)
          have d4 : a'.tmps[56]?.getD undef = .int .i64 k := Array.getD_eq_getD_getElem?.symm.trans (hdep ⟨4, .data⟩ (by simp) rfl 56 rfl)
          clear hdep
          refine .inr ⟨98, #[st sh false, .int .i64 n, .int .i64 k], W, ?_, Below.refl _ _, (CLk W).mono ?_⟩
          · go_simp
          · rintro e W' ⟨rfl, hb⟩
            exact ⟨_, rfl, hb, rfl⟩
        · clear hdep
          refine .inl ⟨_, W, ?_, Below.refl _ _, rfl⟩
          go_simp
        · have d1 : a'.tmps[53]?.getD undef = .slice (some ⟨w.heap.size + 4, 0, none⟩) n n := Array.getD_eq_getD_getElem?.symm.trans (hdep ⟨1, .data⟩ (by simp) rfl 53 rfl)
          have d5 : a'.tmps[57]?.getD undef = .int .i64 l := Array.getD_eq_getD_getElem?.symm.trans (hdep ⟨5, .data⟩ (by simp) rfl 57 rfl)
          have hl := LTk.out
          clear hdep
          refine .inl ⟨.pointer (some ⟨w.heap.size + 4, l * 5, none⟩), W, ?_, Below.refl _ _, rfl⟩
          go_simp
      · intro W hW
        simp only [List.take_succ_cons, List.take_zero, List.map_cons, List.map_nil, VQ]
        rintro _ rfl _ rfl _ rfl _ rfl _ rfl _ rfl _ rfl _ rfl
        simp only [List.setIfInBounds_toArray, List.set_cons_zero, List.set_cons_succ, List.length_cons, List.length_nil, Nat.reduceAdd, Nat.reduceSub, ledList, List.replicate, List.cons_append, List.nil_append]
        have hIw := hIA.keep hW
        have hQw := hQA.keep hW
        have hl := LTk.out
        have y0 := hQw.c (l * 5) (by omega)
        have y1 := hQw.c (l * 5 + 1) (by omega)
        have y2 := hQw.c (l * 5 + 2) (by omega)
        have y3 := hQw.c (l * 5 + 3) (by omega)
        have y4 := hQw.c (l * 5 + 4) (by omega)
        obtain ⟨e0, g0⟩ := y0
        obtain ⟨e1, g1⟩ := y1
        obtain ⟨e2, g2⟩ := y2
        obtain ⟨e3, g3'⟩ := y3
        obtain ⟨e4, g4⟩ := y4
        have hQs' := STk.out W _ hQw
        have hIs : RsI w (((((W.setCell ⟨w.heap.size + 4, l * 5, none⟩ (.int .i64 u.a)).setCell ⟨w.heap.size + 4, l * 5 + 1, none⟩ (.int .i64 u.b)).setCell ⟨w.heap.size + 4, l * 5 + 2, none⟩ (.int .i64 u.c)).setCell ⟨w.heap.size + 4, l * 5 + 3, none⟩ (.int .i64 u.d)).setCell ⟨w.heap.size + 4, l * 5 + 4, none⟩ (.int .i64 u.e)) id c r m s (.slice (some ⟨gb, goff, none⟩) n gcap) (.slice am q mcap) sh false c r (.slice (some ⟨w.heap.size + 4, 0, none⟩) n n) :=
          hIw.keepB (B := w.heap.size + 4) (Below.setCell (p := ⟨w.heap.size + 4, l * 5 + 4, none⟩) (Below.setCell (p := ⟨w.heap.size + 4, l * 5 + 3, none⟩) (Below.setCell (p := ⟨w.heap.size + 4, l * 5 + 2, none⟩) (Below.setCell (p := ⟨w.heap.size + 4, l * 5 + 1, none⟩) (Below.setCell (p := ⟨w.heap.size + 4, l * 5, none⟩) (Below.refl (w.heap.size + 4) W) (Nat.le_refl _) (.int .i64 u.a)) (Nat.le_refl _) (.int .i64 u.b)) (Nat.le_refl _) (.int .i64 u.c)) (Nat.le_refl _) (.int .i64 u.d)) (Nat.le_refl _) (.int .i64 u.e)) (Nat.le_refl _)
        clear hIw hQw hIA hQA hW hN
        refine wpAny_ready (rs := [8]) (by kernel_rfl) (by simp) (AllReady.cons rfl (fun K hK => ?_) AllReady.nil)
        simp only [List.getElem_toArray, List.getElem_cons_succ, List.getElem_cons_zero]
        rw [if_pos (show Region.wanted _ _ = true from rfl)]
        have HK := Lib.hid hK
        clear hK
        go_wp2_with fail
        refine HK.out _ _ ?_
        clear HK K
        refine wpAny_done (by kernel_rfl) ?_ _
        simp only [Exit.inBlock, Exit.then]
        go_at_K
        go_wp2
        exact ⟨⟨k + 1, by omega, by simp, hIs, hQs'⟩, by simp [intOf]; omega⟩
    · obtain rfl : k = n := by omega
      have CRw := CR.out wr hI.ps.bel
      obtain ⟨c0, c1, c2, c3, c4, c5, c6, s0, s1⟩ := And.intro hI.ps.c0 (And.intro hI.ps.c1 (And.intro hI.ps.c2 (And.intro hI.ps.c3 (And.intro hI.ps.c4 (And.intro hI.ps.c5 (And.intro hI.ps.c6 (And.intro hI.ps.s0 hI.ps.s1)))))))
      go_wp2_with fail
      refine CRw.mono ?_
      rintro e w2 ⟨a6, n6, e6, rfl, hR, hb2, hbl⟩
      have hsw := hI.siz
      have hI2 := hI.keep hb2
      have hQ2 := hQ.keep hb2
      have b2 := hI2.ps.bel
      have hres := hI2.res
      have x0 : w2.cell? ⟨w.heap.size + 3, 0, none⟩ = some (.int .i64 id) := cell_of hI2.box rfl
      have x1 : w2.cell? ⟨w.heap.size + 3, 1, none⟩ = some (.int .i64 c) := cell_of hI2.box rfl
      have x2 : w2.cell? ⟨w.heap.size + 3, 2, none⟩ = some (.int .i64 r) := cell_of hI2.box rfl
      have x3 : w2.cell? ⟨w.heap.size + 3, 3, none⟩ = some (.int .i64 m) := cell_of hI2.box rfl
      have x4 : w2.cell? ⟨w.heap.size + 3, 4, none⟩ = some (.int .i64 s) := cell_of hI2.box rfl
      have x5 : w2.cell? ⟨w.heap.size + 3, 5, none⟩ = some (.slice (some ⟨w.heap.size + 4, 0, none⟩) k k) := cell_of hI2.box rfl
      have x6 : w2.cell? ⟨w.heap.size + 3, 6, none⟩ = some (.slice am q mcap) := cell_of hI2.box rfl
      have y6 : w2.frozen? ⟨w.heap.size + 3, 6, none⟩ = false := frozen_of hI2.box
      have y1 : w2.frozen? ⟨w.heap.size + 3, 1, none⟩ = false := frozen_of hI2.box
      have y2 : w2.frozen? ⟨w.heap.size + 3, 2, none⟩ = false := frozen_of hI2.box
      have z0 : w2.cell? ⟨w.heap.size + 2, 0, none⟩ = some (.int .i64 0) := cell_of hI2.res rfl
      have z1 : w2.cell? ⟨w.heap.size + 2, 1, none⟩ = some (.int .i64 0) := cell_of hI2.res rfl
      have z2 : w2.cell? ⟨w.heap.size + 2, 2, none⟩ = some (.int .i64 0) := cell_of hI2.res rfl
      have z3 : w2.cell? ⟨w.heap.size + 2, 3, none⟩ = some (.int .i64 0) := cell_of hI2.res rfl
      have z4 : w2.cell? ⟨w.heap.size + 2, 4, none⟩ = some (.int .i64 0) := cell_of hI2.res rfl
      have z5 : w2.cell? ⟨w.heap.size + 2, 5, none⟩ = some (.slice none 0 0) := cell_of hI2.res rfl
      have z6 : w2.cell? ⟨w.heap.size + 2, 6, none⟩ = some (.slice none 0 0) := cell_of hI2.res rfl
      have y0 : w2.frozen? ⟨w.heap.size + 2, 0, none⟩ = false := frozen_of hI2.res
      have t1 : w2.frozen? ⟨w.heap.size + 2, 1, none⟩ = false := frozen_of hI2.res
      have t2 : w2.frozen? ⟨w.heap.size + 2, 2, none⟩ = false := frozen_of hI2.res
      have t3 : w2.frozen? ⟨w.heap.size + 2, 3, none⟩ = false := frozen_of hI2.res
      have t4 : w2.frozen? ⟨w.heap.size + 2, 4, none⟩ = false := frozen_of hI2.res
      have t5 : w2.frozen? ⟨w.heap.size + 2, 5, none⟩ = false := frozen_of hI2.res
      have t6 : w2.frozen? ⟨w.heap.size + 2, 6, none⟩ = false := frozen_of hI2.res
      clear c0 c1 c2 c3 c4 c5 c6 s0 s1
      have c1 := hI2.ps.c1
      have c2 := hI2.ps.c2
      have s1 := hI2.ps.s1
      clear hI hQ CRw hI2
      go_wp2_with fail
      obtain ⟨W3, hW3⟩ : ∃ W3, W3 = w2.setCell ⟨w.heap.size + 3, 6, none⟩ (.slice a6 n6 e6) := ⟨_, rfl⟩
      have hr3 : W3.heap[w.heap.size + 1 + 1]? = some (.cells #[.int .i64 0, .int .i64 0, .int .i64 0, .int .i64 0, .int .i64 0, .slice none 0 0, .slice none 0 0] 25 (0, 0)) := by
        rw [hW3]
        rw [heap_setOther (by omega)]
        exact hres
      have hb3 : Below w.heap.size w W3 := by
        rw [hW3]
        exact b2.setCell (p := ⟨w.heap.size + 3, 6, none⟩) (by simp) _
      have hQ3 : RowQ W3 (w.heap.size + 4) k (sf k) := by
        rw [hW3]
        exact hQ2.other (by omega) _
      have hS3 : SlM W3 (.slice a6 n6 e6) (shM k sh false M) := by
        rw [hW3]
        refine slm_set (RK.out w2 _ hR) ?_
        all_goals intro p n' c' h
        all_goals have := hbl p n' c' h
        all_goals omega
      rw [← hW3]
      clear hW3
      obtain ⟨WF, hWF⟩ : ∃ WF, ((((((W3.setCell ⟨w.heap.size + 1 + 1, 0, none⟩ (.int .i64 id)).setCell ⟨w.heap.size + 1 + 1, 1, none⟩ (.int .i64 c)).setCell ⟨w.heap.size + 1 + 1, 2, none⟩ (.int .i64 r)).setCell ⟨w.heap.size + 1 + 1, 3, none⟩ (.int .i64 m)).setCell ⟨w.heap.size + 1 + 1, 4, none⟩ (.int .i64 s)).setCell ⟨w.heap.size + 1 + 1, 5, none⟩ (.slice (some ⟨w.heap.size + 4, 0, none⟩) k k)).setCell ⟨w.heap.size + 1 + 1, 6, none⟩ (.slice a6 n6 e6) = WF := ⟨_, rfl⟩
      rw [hWF]
      have hf : WF.heap[w.heap.size + 1 + 1]? = some (.cells #[.int .i64 id, .int .i64 c, .int .i64 r, .int .i64 m, .int .i64 s, .slice (some ⟨w.heap.size + 4, 0, none⟩) k k, .slice a6 n6 e6] 25 (0, 0)) := by
        rw [← hWF]
        exact res7 hr3
      have hb4 : Below w.heap.size w WF := by
        rw [← hWF]
        exact ((((((hb3.setCell (p := ⟨w.heap.size + 1 + 1, 0, none⟩) (by simp; omega) _).setCell (p := ⟨w.heap.size + 1 + 1, 1, none⟩) (by simp; omega) _).setCell (p := ⟨w.heap.size + 1 + 1, 2, none⟩) (by simp; omega) _).setCell (p := ⟨w.heap.size + 1 + 1, 3, none⟩) (by simp; omega) _).setCell (p := ⟨w.heap.size + 1 + 1, 4, none⟩) (by simp; omega) _).setCell (p := ⟨w.heap.size + 1 + 1, 5, none⟩) (by simp; omega) _).setCell (p := ⟨w.heap.size + 1 + 1, 6, none⟩) (by simp; omega) _
      have hQ4 : RowQ WF (w.heap.size + 4) k (sf k) := by
        rw [← hWF]
        exact ((((((hQ3.other (by omega) _).other (by omega) _).other (by omega) _).other (by omega) _).other (by omega) _).other (by omega) _).other (by omega) _
      have hG4 := DONE.out WF _ hQ4
      have hM4 : SlM WF (.slice a6 n6 e6) (shM k sh false M) := by
        rw [← hWF]
        refine slm_set (slm_set (slm_set (slm_set (slm_set (slm_set (slm_set hS3 ?_) ?_) ?_) ?_) ?_) ?_) ?_
        all_goals intro p n' c' h
        all_goals have := hbl p n' c' h
        all_goals omega
      have hl := run_loadVar_mid (P := Tryz.prog) _ (w.heap.size + 1 + 1) 0 25 [.int .i64 id, .int .i64 c, .int .i64 r, .int .i64 m, .int .i64 s, .slice (some ⟨w.heap.size + 4, 0, none⟩) k k, .slice a6 n6 e6] _ (range_of hf) Tryz.underlying25 rfl (by kernel_rfl)
      refine bodyPost_ret (results_cell (fn := Tryz.f51) rfl _ (by rfl) hl) rfl ?_
      exact ⟨_, _, rfl, hG4, hM4, fun p n' c' h => (by cases h; simp), fun p n' c' h => (by have := hbl p n' c' h; omega), hb4⟩

set_option maxRecDepth 100000 in
set_option maxHeartbeats 8000000 in
theorem reset51_T (id c r m s : Int) (vg vm : Value) (G : List G5) (M : List M3) (sh : Nat) (w : World) (hG : SlG w vg G) (hM : SlM w vm M) (hok : vP id c r m s G M = true) (hs : vset sh G.length = true) :
    Calls Tryz.prog 51 #[pcs id c r m s vg vm, st sh true] w fun e w' => ∃ vg' vm', e = .returned (pcs id r c m s vg' vm') ∧ SlG w' vg' (layL G G.length sh true) ∧ SlM w' vm' (shM G.length sh true M) ∧ Fr w.heap.size vg' ∧ Fr w.heap.size vm' ∧ Below w.heap.size w w' := by
  obtain ⟨hvg, hvm⟩ := vP_marks hok
  obtain ⟨g3, g24, -⟩ := vGs_ok hvg
  have hh := hs
  simp only [vset, Bool.and_eq_true, decide_eq_true_eq] at hh
  obtain ⟨⟨⟨a1, a2⟩, a3⟩, a4⟩ := hh
  have hsl : sh < G.length := by omega
  obtain ⟨gb, goff, gcap, rfl, hc⟩ := hG.cell (by omega)
  have HC := Lib.hid (fun (k : Nat) (hk : k < G.length) => (show w.cell? ⟨gb, goff + k * 5, none⟩ = some (.int .i64 (gz G k).a) ∧ w.cell? ⟨gb, goff + k * 5 + 1, none⟩ = some (.int .i64 (gz G k).b) ∧ w.cell? ⟨gb, goff + k * 5 + 2, none⟩ = some (.int .i64 (gz G k).c) ∧ w.cell? ⟨gb, goff + k * 5 + 3, none⟩ = some (.int .i64 (gz G k).d) ∧ w.cell? ⟨gb, goff + k * 5 + 4, none⟩ = some (.int .i64 (gz G k).e) from
    ⟨by rw [hc _ (by omega), cG_0], by rw [Nat.add_assoc, hc _ (by omega), cG_1], by rw [Nat.add_assoc, hc _ (by omega), cG_2], by rw [Nat.add_assoc, hc _ (by omega), cG_3], by rw [Nat.add_assoc, hc _ (by omega), cG_4]⟩))
  have CL := Lib.hid (fun (k : Nat) (hk : k < G.length) W => (show Calls Tryz.prog 98 #[st sh true, .int .i64 (G.length : Nat), .int .i64 (k : Nat)] W fun e w' => e = .returned (.int .i64 (ld G.length sh true k : Nat)) ∧ Below W.heap.size W w' from by
    have := laid_any sh (G.length : Nat) k true W a1 a2 a3 a4 (by omega) (by omega)
    rwa [ed_ld true hsl hk] at this))
  have LT := Lib.hid (fun (k : Nat) (hk : k < G.length) => ld_lt true hsl hk)
  have PM := Lib.hid (fun (k : Nat) (hk : k < G.length) => (show ((k : Int) + (G.length : Nat) - 1) % (G.length : Nat) = (pr G.length k : Nat) ∧ pr G.length k < G.length from ⟨pr_mod hk, pr_lt hk⟩))
  have STEP := Lib.hid (fun (k : Nat) (hk : k < G.length) (W : World) (g : Nat) (h : RowQ W g G.length (stQ G G.length sh true k)) => (h.set5 (ld G.length sh true k) (tuG G G.length true k).a (tuG G G.length true k).b (tuG G G.length true k).c (tuG G G.length true k).d (tuG G G.length true k).e).congr (F' := stQ G G.length sh true (k + 1)) (fun x hx => stQ_step G true hsl hk hx))
  have TU := Lib.hid (fun (k : Nat) => (show tuG G G.length true k = ⟨(gz G k).a, (gz G k).b, (gz G (pr G.length k)).c, (gz G (pr G.length k)).d, (gz G (pr G.length k)).e⟩ from rfl))
  have DONE := Lib.hid (fun (W : World) (g : Nat) (h : RowQ W g G.length (stQ G G.length sh true G.length)) => h.slg G.length (layL_len G G.length sh true) (by omega) (fun x hx => stQ_all G true hsl hx))
  have S0 := Lib.hid (stQ_zero G G.length sh true)
  have CS := Lib.hid (fun W (hW : Below w.heap.size w W) => shown_any G.length vm M sh true W (hM.keep hW) hs hvm)
  obtain ⟨R, hR⟩ : ∃ R : World → Value → Prop, R = fun W v => SlM W v (shM G.length sh true M) := ⟨_, rfl⟩
  have CR := Lib.hid (show ∀ W, Below w.heap.size w W → Calls Tryz.prog 99 #[vm, st sh true, .int .i64 (G.length : Nat)] W fun e w' => ∃ a n c, e = .returned (.slice a n c) ∧ R w' (.slice a n c) ∧ Below W.heap.size W w' ∧ ∀ p n' c', Value.slice a n c = .slice (some p) n' c' → W.heap.size ≤ p.block from fun W hW => by
    refine (CS.out W hW).mono ?_
    rintro e w' ⟨v', h1, h2, h4, h5⟩
    obtain ⟨a, c, rfl, -⟩ := _root_.id h2
    rw [hR]
    exact ⟨a, _, c, h1, h2, h4, h5⟩)
  have RK := Lib.hid (show ∀ W v, R W v → SlM W v (shM G.length sh true M) from fun W v h => by
    rw [hR] at h
    exact h)
  have hmk := makeG G.length (by omega)
  obtain ⟨am, mcap, hms, -, -⟩ := hM
  subst hms
  clear CS hR hG hok hs hvg hvm hsl a1 a2 a3 a4 hc
  obtain ⟨gl, hgl⟩ : ∃ gl, gl = layL G G.length sh true := ⟨_, rfl⟩
  obtain ⟨sf, hsf⟩ : ∃ sf, sf = stQ G G.length sh true := ⟨_, rfl⟩
  obtain ⟨tu, htu⟩ : ∃ tu, tu = tuG G G.length true := ⟨_, rfl⟩
  obtain ⟨lf, hlf⟩ : ∃ lf, lf = ld G.length sh true := ⟨_, rfl⟩
  obtain ⟨pf, hpf⟩ : ∃ pf, pf = pr G.length := ⟨_, rfl⟩
  rw [← hgl, ← hsf] at DONE
  rw [← hsf] at S0
  simp only [← hsf, ← htu, ← hlf] at STEP
  simp only [← hlf] at CL LT
  simp only [← hpf] at PM
  simp only [← htu, ← hpf] at TU
  rw [← hgl]
  clear hgl hsf htu hlf hpf
  obtain ⟨n, hn⟩ : ∃ n, G.length = n := ⟨_, rfl⟩
  obtain ⟨q, hq⟩ : ∃ q, M.length = q := ⟨_, rfl⟩
  rw [hn] at HC CL LT PM STEP DONE CR RK hmk g3 g24 ⊢
  rw [hq] at CR ⊢
  clear hn hq
  have hP := PcSt.new w id c r m s (.slice (some ⟨gb, goff, none⟩) n gcap) (.slice am q mcap) sh true
  obtain ⟨W0, hW0⟩ : ∃ W0, ((w.alloc (pcsObj id c r m s (.slice (some ⟨gb, goff, none⟩) n gcap) (.slice am q mcap))).alloc (stObj sh true)).alloc (.cells #[.int .i64 0, .int .i64 0, .int .i64 0, .int .i64 0, .int .i64 0, .slice none 0 0, .slice none 0 0] 25) = W0 := ⟨_, rfl⟩
  have hP0 : PcSt w W0 id c r m s (.slice (some ⟨gb, goff, none⟩) n gcap) (.slice am q mcap) sh true := by rw [← hW0]; exact hP.keep ((Below.refl _ _).alloc (Nat.le_refl _) _)
  have hs0 : W0.heap.size = w.heap.size + 3 := by rw [← hW0]; simp
  have hI0 : RsI w (W0.alloc (.cells #[.int .i64 id, .int .i64 c, .int .i64 r, .int .i64 m, .int .i64 s, .slice (some ⟨w.heap.size + 4, 0, none⟩) n n, .slice am q mcap] 25)) id c r m s (.slice (some ⟨gb, goff, none⟩) n gcap) (.slice am q mcap) sh true c r (.slice (some ⟨w.heap.size + 4, 0, none⟩) n n) := by
    refine ⟨hP0.keep ((Below.refl _ _).alloc (Nat.le_refl _) _), ?_, ?_⟩
    · rw [alloc_heap_old _ _ (by omega), ← hW0]
      have := alloc_heap_new ((w.alloc (pcsObj id c r m s (.slice (some ⟨gb, goff, none⟩) n gcap) (.slice am q mcap))).alloc (stObj sh true)) (.cells #[.int .i64 0, .int .i64 0, .int .i64 0, .int .i64 0, .int .i64 0, .slice none 0 0, .slice none 0 0] 25)
      rw [World.size_alloc, World.size_alloc] at this
      exact this
    · rw [← hs0]; exact alloc_heap_new _ _
  have hs1 : (W0.alloc (.cells #[.int .i64 id, .int .i64 c, .int .i64 r, .int .i64 m, .int .i64 s, .slice (some ⟨w.heap.size + 4, 0, none⟩) n n, .slice am q mcap] 25)).heap.size = w.heap.size + 4 := by simp [hs0]
  have hI1 : RsI w ((W0.alloc (.cells #[.int .i64 id, .int .i64 c, .int .i64 r, .int .i64 m, .int .i64 s, .slice (some ⟨w.heap.size + 4, 0, none⟩) n n, .slice am q mcap] 25)).alloc (.cells (madeCells #[.int .i64 0, .int .i64 0, .int .i64 0, .int .i64 0, .int .i64 0] (n * 5)) 83)) id c r m s (.slice (some ⟨gb, goff, none⟩) n gcap) (.slice am q mcap) sh true c r (.slice (some ⟨w.heap.size + 4, 0, none⟩) n n) := hI0.keep ((Below.refl _ _).alloc (Nat.le_refl _) _)
  have hQ1 : RowQ ((W0.alloc (.cells #[.int .i64 id, .int .i64 c, .int .i64 r, .int .i64 m, .int .i64 s, .slice (some ⟨w.heap.size + 4, 0, none⟩) n n, .slice am q mcap] 25)).alloc (.cells (madeCells #[.int .i64 0, .int .i64 0, .int .i64 0, .int .i64 0, .int .i64 0] (n * 5)) 83)) (w.heap.size + 4) n (sf 0) := by
    have := RowQ.made n (W0.alloc (.cells #[.int .i64 id, .int .i64 c, .int .i64 r, .int .i64 m, .int .i64 s, .slice (some ⟨w.heap.size + 4, 0, none⟩) n n, .slice am q mcap] 25))
    rw [hs1] at this
    rw [S0.out]
    exact this
  obtain ⟨-, -, c0, c1, c2, c3, c4, c5, c6, s0, s1⟩ := _root_.id hP0
  clear hP hP0 hI0 hs1
  go_enter Tryz.func51, Tryz.ntmps51
  go_wp2_with fail
  clear hW0 c0 c1 c2 c3 c4 c5 c6 s0 s1
  generalize (W0.alloc (.cells #[.int .i64 id, .int .i64 c, .int .i64 r, .int .i64 m, .int .i64 s, .slice (some ⟨w.heap.size + 4, 0, none⟩) n n, .slice am q mcap] 25)).alloc (.cells (madeCells #[.int .i64 0, .int .i64 0, .int .i64 0, .int .i64 0, .int .i64 0] (n * 5)) 83) = W1 at hI1 hQ1 ⊢
  clear hs0 W0
  go_loopw [7] (fun i wr => ∃ k : Nat, k ≤ n ∧ i = .int .i64 k ∧ RsI w wr id c r m s (.slice (some ⟨gb, goff, none⟩) n gcap) (.slice am q mcap) sh true c r (.slice (some ⟨w.heap.size + 4, 0, none⟩) n n) ∧ RowQ wr (w.heap.size + 4) n (sf k)) (fun i _ => n - (intOf i).toNat)
  case atStart => exact ⟨0, Nat.zero_le _, rfl, hI1, hQ1⟩
  case round =>
    clear hI1 hQ1 W1
    obtain ⟨k, hk, rfl, hI, hQ⟩ := hrel
    by_cases hlt : k < n
    · have j1 : (k : Int) < (n : Int) := by omega
      have b0 := hI.ps.bel
      obtain ⟨x0, x1, x2, x3, x4⟩ := HC.out k hlt
      replace x0 := keep_cell b0 x0
      replace x1 := keep_cell b0 x1
      replace x2 := keep_cell b0 x2
      replace x3 := keep_cell b0 x3
      replace x4 := keep_cell b0 x4
      obtain ⟨c5, s0, s1⟩ := And.intro hI.ps.c5 (And.intro hI.ps.s0 hI.ps.s1)
      have tuk := TU.out k
      generalize hgk : gz G k = gk at x0 x1 x2 x3 x4 tuk
      clear hgk
      have hsz : Hid (w.heap.size + 4 < wr.heap.size) := Lib.hid hQ.lt
      have bA : Below wr.heap.size wr (wr.alloc (.cells #[.int .i64 gk.a, .int .i64 gk.b, .int .i64 gk.c, .int .i64 gk.d, .int .i64 gk.e] 83)) := (Below.refl _ _).alloc (Nat.le_refl _) _
      replace s1 := keep_cell bA s1
      have hIA := hI.keep bA
      have hQA := hQ.keep bA
      have hN := alloc_heap_new wr (.cells #[.int .i64 gk.a, .int .i64 gk.b, .int .i64 gk.c, .int .i64 gk.d, .int .i64 gk.e] 83)
      clear bA
      go_wp2_with fail
      obtain ⟨pm, plt⟩ := PM.out k hlt
      have ew1 : IntKind.i64.wrap ((k : Int) + n) = (k : Int) + n := wi64 _ (by omega)
      have ew2 : IntKind.i64.wrap ((k : Int) + n - 1) = (k : Int) + n - 1 := wi64 _ (by omega)
      obtain ⟨v0, v1, v2, v3, v4⟩ := HC.out (pf k) plt
      have hu : tu k = ⟨gk.a, gk.b, (gz G (pf k)).c, (gz G (pf k)).d, (gz G (pf k)).e⟩ := tuk
      clear tuk v0 v1 x0 x1 x2 x3 x4 c5 s0
      generalize gz G (pf k) = gp at v2 v3 v4 hu
      generalize pf k = p at pm plt v2 v3 v4
      have plt' : (p : Int) < (n : Int) := by omega
      have bwA := hIA.ps.bel
      have u2 := keep_cell bwA v2
      have u3 := keep_cell bwA v3
      have u4 := keep_cell bwA v4
      have c5 := hIA.ps.c5
      have gbl : gb < w.heap.size := lt_of_cell v2
      generalize wr.alloc (.cells #[.int .i64 gk.a, .int .i64 gk.b, .int .i64 gk.c, .int .i64 gk.d, .int .i64 gk.e] 83) = WA at hN hIA hQA u2 u3 u4 c5 ⊢
      have z2 := cell_of hN (k := 2) rfl
      have z3 := cell_of hN (k := 3) rfl
      have z4 := cell_of hN (k := 4) rfl
      have fz2 : WA.frozen? ⟨wr.heap.size, 2, none⟩ = false := frozen_of hN
      have fz3 : WA.frozen? ⟨wr.heap.size, 3, none⟩ = false := frozen_of hN
      have fz4 : WA.frozen? ⟨wr.heap.size, 4, none⟩ = false := frozen_of hN
      have hne1 : gb ≠ wr.heap.size := by have := hsz.out; omega
      have hne2 : w.heap.size ≠ wr.heap.size := by have := hsz.out; omega
      clear v2 v3 v4 bwA s1
      go_region
      simp only [Exit.then]
      go_at_K
      go_wp2_with fail
      obtain ⟨WC, hWC⟩ : ∃ WC, ((WA.setCell ⟨wr.heap.size, 2, none⟩ (.int .i64 gp.c)).setCell ⟨wr.heap.size, 3, none⟩ (.int .i64 gp.d)).drew = WC := ⟨_, rfl⟩
      rw [hWC]
      have hbC : Below (w.heap.size + 4) WA WC := by
        rw [← hWC]
        exact (((Below.refl _ _).setCell (p := ⟨wr.heap.size, 2, none⟩) (by simp; have := hsz.out; omega) _).setCell (p := ⟨wr.heap.size, 3, none⟩) (by simp; have := hsz.out; omega) _).drew
      have hIC := hIA.keepB hbC (Nat.le_refl _)
      have hQC : RowQ WC (w.heap.size + 4) n (sf k) := by
        rw [← hWC]
        exact ((hQA.other (by have := hsz.out; omega) _).other (by have := hsz.out; omega) _).keep ((Below.refl _ _).drew)
      have hNC : WC.heap[wr.heap.size]? = some (.cells #[.int .i64 gk.a, .int .i64 gk.b, .int .i64 gp.c, .int .i64 gp.d, .int .i64 gk.e] 83 (0, 0)) := by
        rw [← hWC]
        exact set_cd hN
      have u4' : WC.cell? ⟨gb, goff + p * 5 + 4, none⟩ = some (.int .i64 gp.e) := (hbC.cell (p := ⟨gb, goff + p * 5 + 4, none⟩) (by simp; omega)).trans u4
      have c5 := hIC.ps.c5
      have z4 := cell_of hNC (k := 4) rfl
      have fz4 : WC.frozen? ⟨wr.heap.size, 4, none⟩ = false := frozen_of hNC
      clear hWC hbC hIA hQA hN u2 u3 u4 z2 z3 fz2 fz3
      go_region
      simp only [Exit.then]
      go_at_K
      go_wp2_with fail
      obtain ⟨WB, hWB⟩ : ∃ WB, (WC.setCell ⟨wr.heap.size, 4, none⟩ (.int .i64 gp.e)).drew = WB := ⟨_, rfl⟩
      rw [hWB]
      have hbB : Below (w.heap.size + 4) WC WB := by
        rw [← hWB]
        exact ((Below.refl _ _).setCell (p := ⟨wr.heap.size, 4, none⟩) (by simp; have := hsz.out; omega) _).drew
      have hIA := hIC.keepB hbB (Nat.le_refl _)
      have hQA : RowQ WB (w.heap.size + 4) n (sf k) := by
        rw [← hWB]
        exact (hQC.other (by have := hsz.out; omega) _).keep ((Below.refl _ _).drew)
      obtain ⟨u, hu'⟩ : ∃ u, u = (⟨gk.a, gk.b, gp.c, gp.d, gp.e⟩ : G5) := ⟨_, rfl⟩
      rw [← hu'] at hu
      have hN : WB.heap[wr.heap.size]? = some (.cells #[.int .i64 u.a, .int .i64 u.b, .int .i64 u.c, .int .i64 u.d, .int .i64 u.e] 83 (0, 0)) := by
        rw [← hWB, hu']
        exact set_e hNC
      clear hWB hbB hIC hQC hNC u4' c5 z4 fz4 hu' hne1 hne2 ew1 ew2 pm plt plt' gbl
      have CLk := CL.out k hlt
      have LTk := Lib.hid (LT.out k hlt)
      have STk := Lib.hid (STEP.out k hlt)
      rw [hu] at STk
      generalize lf k = l at CLk LTk STk
      clear hu
      have hQs := Lib.hid hQA.lt
      refine wp_region_valsT 8 (RtV w n k l sh true u) (by kernel_rfl) (by kernel_rfl) RtV.keep ?_ ?_
      · simp only [List.take_succ_cons, List.take_zero]
        intro i o ho a' W hW hfr hdep
        have f3 : a'.tmps[3]?.getD undef = .pointer (some ⟨w.heap.size + 1, 0, none⟩) := Array.getD_eq_getD_getElem?.symm.trans (hfr 3 rfl)
        have f5 : a'.tmps[5]?.getD undef = .int .i64 n := Array.getD_eq_getD_getElem?.symm.trans (hfr 5 rfl)
        have f6 : a'.tmps[6]?.getD undef = .pointer (some ⟨w.heap.size + 3, 0, none⟩) := Array.getD_eq_getD_getElem?.symm.trans (hfr 6 rfl)
        have f7 : a'.tmps[7]?.getD undef = .int .i64 k := Array.getD_eq_getD_getElem?.symm.trans (hfr 7 rfl)
        have f8 : a'.tmps[8]?.getD undef = .pointer (some ⟨wr.heap.size, 0, none⟩) := Array.getD_eq_getD_getElem?.symm.trans (hfr 8 rfl)
        have hIw := hIA.keep hW
        have hNw := (hW.block _ (Array.getElem?_eq_some_iff.1 hN).1).trans hN
        have s0 := hIw.ps.s0
        have s1 := hIw.ps.s1
        have q5 : W.cell? ⟨w.heap.size + 3, 5, none⟩ = some (.slice (some ⟨w.heap.size + 4, 0, none⟩) n n) := cell_of hIw.box rfl
        have z0 := cell_of hNw (k := 0) rfl
        have z1 := cell_of hNw (k := 1) rfl
        have z2 := cell_of hNw (k := 2) rfl
        have z3 := cell_of hNw (k := 3) rfl
        have z4 := cell_of hNw (k := 4) rfl
        clear hfr hIw hNw
        have hi : i < 8 := by have := (List.getElem?_eq_some_iff.1 ho).1; simpa using this
        obtain rfl | rfl | rfl | rfl | rfl | rfl | rfl | rfl : i = 0 ∨ i = 1 ∨ i = 2 ∨ i = 3 ∨ i = 4 ∨ i = 5 ∨ i = 6 ∨ i = 7 := by omega
        all_goals simp only [List.getElem?_cons_zero, List.getElem?_cons_succ, Option.some.injEq] at ho
        all_goals subst ho
        · clear hdep
          refine .inl ⟨_, W, ?_, Below.refl _ _, rfl⟩
          go_simp
        · have d0 : a'.tmps[52]?.getD undef = .pointer (some ⟨w.heap.size + 3, 5, none⟩) := Array.getD_eq_getD_getElem?.symm.trans (hdep ⟨0, .data⟩ (by simp) rfl 52 rfl)
          clear hdep
          refine .inl ⟨_, W, ?_, Below.refl _ _, rfl⟩
          go_simp
        · clear hdep
          refine .inl ⟨_, W, ?_, Below.refl _ _, rfl⟩
          go_simp
        · clear hdep
          refine .inl ⟨_, W, ?_, Below.refl _ _, rfl⟩
          go_simp
        · clear hdep
          refine .inl ⟨_, W, ?_, Below.refl _ _, rfl⟩
          go_simp
        · have d2 : a'.tmps[54]?.getD undef = st sh true := Array.getD_eq_getD_getElem?.symm.trans (hdep ⟨2, .data⟩ (by simp) rfl 54 rfl)
          have d3 : a'.tmps[55]?.getD undef = .int .i64 n := Array.getD_eq_getD_getElem?.symm.trans (hdep ⟨3, .data⟩ (by simp) rfl 55 rfl)
          have d4 : a'.tmps[56]?.getD undef = .int .i64 k := Array.getD_eq_getD_getElem?.symm.trans (hdep ⟨4, .data⟩ (by simp) rfl 56 rfl)
          clear hdep
          refine .inr ⟨98, #[st sh true, .int .i64 n, .int .i64 k], W, ?_, Below.refl _ _, (CLk W).mono ?_⟩
          · go_simp
          · rintro e W' ⟨rfl, hb⟩
            exact ⟨_, rfl, hb, rfl⟩
        · clear hdep
          refine .inl ⟨_, W, ?_, Below.refl _ _, rfl⟩
          go_simp
        · have d1 : a'.tmps[53]?.getD undef = .slice (some ⟨w.heap.size + 4, 0, none⟩) n n := Array.getD_eq_getD_getElem?.symm.trans (hdep ⟨1, .data⟩ (by simp) rfl 53 rfl)
          have d5 : a'.tmps[57]?.getD undef = .int .i64 l := Array.getD_eq_getD_getElem?.symm.trans (hdep ⟨5, .data⟩ (by simp) rfl 57 rfl)
          have hl := LTk.out
          clear hdep
          refine .inl ⟨.pointer (some ⟨w.heap.size + 4, l * 5, none⟩), W, ?_, Below.refl _ _, rfl⟩
          go_simp
      · intro W hW
        simp only [List.take_succ_cons, List.take_zero, List.map_cons, List.map_nil, VQ]
        rintro _ rfl _ rfl _ rfl _ rfl _ rfl _ rfl _ rfl _ rfl
        simp only [List.setIfInBounds_toArray, List.set_cons_zero, List.set_cons_succ, List.length_cons, List.length_nil, Nat.reduceAdd, Nat.reduceSub, ledList, List.replicate, List.cons_append, List.nil_append]
        have hIw := hIA.keep hW
        have hQw := hQA.keep hW
        have hl := LTk.out
        have y0 := hQw.c (l * 5) (by omega)
        have y1 := hQw.c (l * 5 + 1) (by omega)
        have y2 := hQw.c (l * 5 + 2) (by omega)
        have y3 := hQw.c (l * 5 + 3) (by omega)
        have y4 := hQw.c (l * 5 + 4) (by omega)
        obtain ⟨e0, g0⟩ := y0
        obtain ⟨e1, g1⟩ := y1
        obtain ⟨e2, g2⟩ := y2
        obtain ⟨e3, g3'⟩ := y3
        obtain ⟨e4, g4⟩ := y4
        have hQs' := STk.out W _ hQw
        have hIs : RsI w (((((W.setCell ⟨w.heap.size + 4, l * 5, none⟩ (.int .i64 u.a)).setCell ⟨w.heap.size + 4, l * 5 + 1, none⟩ (.int .i64 u.b)).setCell ⟨w.heap.size + 4, l * 5 + 2, none⟩ (.int .i64 u.c)).setCell ⟨w.heap.size + 4, l * 5 + 3, none⟩ (.int .i64 u.d)).setCell ⟨w.heap.size + 4, l * 5 + 4, none⟩ (.int .i64 u.e)) id c r m s (.slice (some ⟨gb, goff, none⟩) n gcap) (.slice am q mcap) sh true c r (.slice (some ⟨w.heap.size + 4, 0, none⟩) n n) :=
          hIw.keepB (B := w.heap.size + 4) (Below.setCell (p := ⟨w.heap.size + 4, l * 5 + 4, none⟩) (Below.setCell (p := ⟨w.heap.size + 4, l * 5 + 3, none⟩) (Below.setCell (p := ⟨w.heap.size + 4, l * 5 + 2, none⟩) (Below.setCell (p := ⟨w.heap.size + 4, l * 5 + 1, none⟩) (Below.setCell (p := ⟨w.heap.size + 4, l * 5, none⟩) (Below.refl (w.heap.size + 4) W) (Nat.le_refl _) (.int .i64 u.a)) (Nat.le_refl _) (.int .i64 u.b)) (Nat.le_refl _) (.int .i64 u.c)) (Nat.le_refl _) (.int .i64 u.d)) (Nat.le_refl _) (.int .i64 u.e)) (Nat.le_refl _)
        clear hIw hQw hIA hQA hW hN
        refine wpAny_ready (rs := [8]) (by kernel_rfl) (by simp) (AllReady.cons rfl (fun K hK => ?_) AllReady.nil)
        simp only [List.getElem_toArray, List.getElem_cons_succ, List.getElem_cons_zero]
        rw [if_pos (show Region.wanted _ _ = true from rfl)]
        have HK := Lib.hid hK
        clear hK
        go_wp2_with fail
        refine HK.out _ _ ?_
        clear HK K
        refine wpAny_done (by kernel_rfl) ?_ _
        simp only [Exit.inBlock, Exit.then]
        go_at_K
        go_wp2
        exact ⟨⟨k + 1, by omega, by simp, hIs, hQs'⟩, by simp [intOf]; omega⟩
    · obtain rfl : k = n := by omega
      have CRw := CR.out wr hI.ps.bel
      obtain ⟨c0, c1, c2, c3, c4, c5, c6, s0, s1⟩ := And.intro hI.ps.c0 (And.intro hI.ps.c1 (And.intro hI.ps.c2 (And.intro hI.ps.c3 (And.intro hI.ps.c4 (And.intro hI.ps.c5 (And.intro hI.ps.c6 (And.intro hI.ps.s0 hI.ps.s1)))))))
      go_wp2_with fail
      refine CRw.mono ?_
      rintro e w2 ⟨a6, n6, e6, rfl, hR, hb2, hbl⟩
      have hsw := hI.siz
      have hI2 := hI.keep hb2
      have hQ2 := hQ.keep hb2
      have b2 := hI2.ps.bel
      have hres := hI2.res
      have x0 : w2.cell? ⟨w.heap.size + 3, 0, none⟩ = some (.int .i64 id) := cell_of hI2.box rfl
      have x1 : w2.cell? ⟨w.heap.size + 3, 1, none⟩ = some (.int .i64 c) := cell_of hI2.box rfl
      have x2 : w2.cell? ⟨w.heap.size + 3, 2, none⟩ = some (.int .i64 r) := cell_of hI2.box rfl
      have x3 : w2.cell? ⟨w.heap.size + 3, 3, none⟩ = some (.int .i64 m) := cell_of hI2.box rfl
      have x4 : w2.cell? ⟨w.heap.size + 3, 4, none⟩ = some (.int .i64 s) := cell_of hI2.box rfl
      have x5 : w2.cell? ⟨w.heap.size + 3, 5, none⟩ = some (.slice (some ⟨w.heap.size + 4, 0, none⟩) k k) := cell_of hI2.box rfl
      have x6 : w2.cell? ⟨w.heap.size + 3, 6, none⟩ = some (.slice am q mcap) := cell_of hI2.box rfl
      have y6 : w2.frozen? ⟨w.heap.size + 3, 6, none⟩ = false := frozen_of hI2.box
      have y1 : w2.frozen? ⟨w.heap.size + 3, 1, none⟩ = false := frozen_of hI2.box
      have y2 : w2.frozen? ⟨w.heap.size + 3, 2, none⟩ = false := frozen_of hI2.box
      have z0 : w2.cell? ⟨w.heap.size + 2, 0, none⟩ = some (.int .i64 0) := cell_of hI2.res rfl
      have z1 : w2.cell? ⟨w.heap.size + 2, 1, none⟩ = some (.int .i64 0) := cell_of hI2.res rfl
      have z2 : w2.cell? ⟨w.heap.size + 2, 2, none⟩ = some (.int .i64 0) := cell_of hI2.res rfl
      have z3 : w2.cell? ⟨w.heap.size + 2, 3, none⟩ = some (.int .i64 0) := cell_of hI2.res rfl
      have z4 : w2.cell? ⟨w.heap.size + 2, 4, none⟩ = some (.int .i64 0) := cell_of hI2.res rfl
      have z5 : w2.cell? ⟨w.heap.size + 2, 5, none⟩ = some (.slice none 0 0) := cell_of hI2.res rfl
      have z6 : w2.cell? ⟨w.heap.size + 2, 6, none⟩ = some (.slice none 0 0) := cell_of hI2.res rfl
      have y0 : w2.frozen? ⟨w.heap.size + 2, 0, none⟩ = false := frozen_of hI2.res
      have t1 : w2.frozen? ⟨w.heap.size + 2, 1, none⟩ = false := frozen_of hI2.res
      have t2 : w2.frozen? ⟨w.heap.size + 2, 2, none⟩ = false := frozen_of hI2.res
      have t3 : w2.frozen? ⟨w.heap.size + 2, 3, none⟩ = false := frozen_of hI2.res
      have t4 : w2.frozen? ⟨w.heap.size + 2, 4, none⟩ = false := frozen_of hI2.res
      have t5 : w2.frozen? ⟨w.heap.size + 2, 5, none⟩ = false := frozen_of hI2.res
      have t6 : w2.frozen? ⟨w.heap.size + 2, 6, none⟩ = false := frozen_of hI2.res
      clear c0 c1 c2 c3 c4 c5 c6 s0 s1
      have c1 := hI2.ps.c1
      have c2 := hI2.ps.c2
      have s1 := hI2.ps.s1
      clear hI hQ CRw hI2
      go_wp2_with fail
      obtain ⟨W3, hW3⟩ : ∃ W3, W3 = ((w2.setCell ⟨w.heap.size + 3, 6, none⟩ (.slice a6 n6 e6)).setCell ⟨w.heap.size + 3, 1, none⟩ (.int .i64 r)).setCell ⟨w.heap.size + 3, 2, none⟩ (.int .i64 c) := ⟨_, rfl⟩
      have hr3 : W3.heap[w.heap.size + 1 + 1]? = some (.cells #[.int .i64 0, .int .i64 0, .int .i64 0, .int .i64 0, .int .i64 0, .slice none 0 0, .slice none 0 0] 25 (0, 0)) := by
        rw [hW3]
        rw [heap_setOther (by omega), heap_setOther (by omega), heap_setOther (by omega)]
        exact hres
      have hb3 : Below w.heap.size w W3 := by
        rw [hW3]
        exact ((b2.setCell (p := ⟨w.heap.size + 3, 6, none⟩) (by simp) _).setCell (p := ⟨w.heap.size + 3, 1, none⟩) (by simp) _).setCell (p := ⟨w.heap.size + 3, 2, none⟩) (by simp) _
      have hQ3 : RowQ W3 (w.heap.size + 4) k (sf k) := by
        rw [hW3]
        exact ((hQ2.other (by omega) _).other (by omega) _).other (by omega) _
      have hS3 : SlM W3 (.slice a6 n6 e6) (shM k sh true M) := by
        rw [hW3]
        refine slm_set (slm_set (slm_set (RK.out w2 _ hR) ?_) ?_) ?_
        all_goals intro p n' c' h
        all_goals have := hbl p n' c' h
        all_goals omega
      rw [← hW3]
      clear hW3
      obtain ⟨WF, hWF⟩ : ∃ WF, ((((((W3.setCell ⟨w.heap.size + 1 + 1, 0, none⟩ (.int .i64 id)).setCell ⟨w.heap.size + 1 + 1, 1, none⟩ (.int .i64 r)).setCell ⟨w.heap.size + 1 + 1, 2, none⟩ (.int .i64 c)).setCell ⟨w.heap.size + 1 + 1, 3, none⟩ (.int .i64 m)).setCell ⟨w.heap.size + 1 + 1, 4, none⟩ (.int .i64 s)).setCell ⟨w.heap.size + 1 + 1, 5, none⟩ (.slice (some ⟨w.heap.size + 4, 0, none⟩) k k)).setCell ⟨w.heap.size + 1 + 1, 6, none⟩ (.slice a6 n6 e6) = WF := ⟨_, rfl⟩
      rw [hWF]
      have hf : WF.heap[w.heap.size + 1 + 1]? = some (.cells #[.int .i64 id, .int .i64 r, .int .i64 c, .int .i64 m, .int .i64 s, .slice (some ⟨w.heap.size + 4, 0, none⟩) k k, .slice a6 n6 e6] 25 (0, 0)) := by
        rw [← hWF]
        exact res7 hr3
      have hb4 : Below w.heap.size w WF := by
        rw [← hWF]
        exact ((((((hb3.setCell (p := ⟨w.heap.size + 1 + 1, 0, none⟩) (by simp; omega) _).setCell (p := ⟨w.heap.size + 1 + 1, 1, none⟩) (by simp; omega) _).setCell (p := ⟨w.heap.size + 1 + 1, 2, none⟩) (by simp; omega) _).setCell (p := ⟨w.heap.size + 1 + 1, 3, none⟩) (by simp; omega) _).setCell (p := ⟨w.heap.size + 1 + 1, 4, none⟩) (by simp; omega) _).setCell (p := ⟨w.heap.size + 1 + 1, 5, none⟩) (by simp; omega) _).setCell (p := ⟨w.heap.size + 1 + 1, 6, none⟩) (by simp; omega) _
      have hQ4 : RowQ WF (w.heap.size + 4) k (sf k) := by
        rw [← hWF]
        exact ((((((hQ3.other (by omega) _).other (by omega) _).other (by omega) _).other (by omega) _).other (by omega) _).other (by omega) _).other (by omega) _
      have hG4 := DONE.out WF _ hQ4
      have hM4 : SlM WF (.slice a6 n6 e6) (shM k sh true M) := by
        rw [← hWF]
        refine slm_set (slm_set (slm_set (slm_set (slm_set (slm_set (slm_set hS3 ?_) ?_) ?_) ?_) ?_) ?_) ?_
        all_goals intro p n' c' h
        all_goals have := hbl p n' c' h
        all_goals omega
      have hl := run_loadVar_mid (P := Tryz.prog) _ (w.heap.size + 1 + 1) 0 25 [.int .i64 id, .int .i64 r, .int .i64 c, .int .i64 m, .int .i64 s, .slice (some ⟨w.heap.size + 4, 0, none⟩) k k, .slice a6 n6 e6] _ (range_of hf) Tryz.underlying25 rfl (by kernel_rfl)
      refine bodyPost_ret (results_cell (fn := Tryz.f51) rfl _ (by rfl) hl) rfl ?_
      exact ⟨_, _, rfl, hG4, hM4, fun p n' c' h => (by cases h; simp), fun p n' c' h => (by have := hbl p n' c' h; omega), hb4⟩

end Go.Proofs.YtcfapbccegijnaaGreat
