/- Walks: rows of places and of what panes hold; WhereIs. -/
import Derived.Test.YtdnljbdngbphnaaGreatProg
import Derived.WalkKit
import Derived.WalkSpells
import Derived.WalkMore
import Derived.Lib.Small
import Derived.Lib.Hide
import Derived.Laws.AppendOwn
import Derived.Laws.OwnMore
import Derived.Deep.MidRow
import Derived.RegionTactic
import Derived.Test.YtdnljbdngbphnaaGreatF0
namespace Go.Proofs.YtdnljbdngbphnaaGreat
open Go Go.RowKit Go.Proofs Go.Reads

theorem lt_of_cell {w : World} {b o : Nat} {v : Value} (h : w.cell? ⟨b, o, none⟩ = some v) : b < w.heap.size := World.block_lt_of_cell? w _ h
theorem keep_cell {w w' : World} {b o : Nat} {v : Value} (hb : Below w.heap.size w w') (h : w.cell? ⟨b, o, none⟩ = some v) : w'.cell? ⟨b, o, none⟩ = some v := (hb.cell (lt_of_cell h)).trans h
theorem w64 (n : Int) (h : -9223372036854775808 ≤ n ∧ n ≤ 9223372036854775807) : wrap64 n = n := by unfold wrap64; omega
theorem wi64 (n : Int) (h : -9223372036854775808 ≤ n ∧ n ≤ 9223372036854775807) : IntKind.i64.wrap n = n := by
  rw [IntKind.wrap_i64]; omega

def agW (x : W7) : Value := .agg #[.int .i64 x.p, .int .i64 x.k, .int .i64 x.a, .int .i64 x.sh, .bool x.bk, .int .i64 x.tb, .int .i64 x.tn]
def agH (x : H5) : Value := .agg #[.int .i64 x.n, .int .i64 x.p, .int .i64 x.c, .int .i64 x.sh, .bool x.bk]

structure WAt (w : World) (b o : Nat) (x : W7) : Prop where
  c0 : w.cell? ⟨b, o, none⟩ = some (.int .i64 x.p)
  c1 : w.cell? ⟨b, o + 1, none⟩ = some (.int .i64 x.k)
  c2 : w.cell? ⟨b, o + 2, none⟩ = some (.int .i64 x.a)
  c3 : w.cell? ⟨b, o + 3, none⟩ = some (.int .i64 x.sh)
  c4 : w.cell? ⟨b, o + 4, none⟩ = some (.bool x.bk)
  c5 : w.cell? ⟨b, o + 5, none⟩ = some (.int .i64 x.tb)
  c6 : w.cell? ⟨b, o + 6, none⟩ = some (.int .i64 x.tn)
structure HAt (w : World) (b o : Nat) (x : H5) : Prop where
  c0 : w.cell? ⟨b, o, none⟩ = some (.int .i64 x.n)
  c1 : w.cell? ⟨b, o + 1, none⟩ = some (.int .i64 x.p)
  c2 : w.cell? ⟨b, o + 2, none⟩ = some (.int .i64 x.c)
  c3 : w.cell? ⟨b, o + 3, none⟩ = some (.int .i64 x.sh)
  c4 : w.cell? ⟨b, o + 4, none⟩ = some (.bool x.bk)
theorem WAt.keep {w w' : World} {b o : Nat} {x : W7} (h : WAt w b o x) (hb : Below w.heap.size w w') : WAt w' b o x :=
  ⟨keep_cell hb h.c0, keep_cell hb h.c1, keep_cell hb h.c2, keep_cell hb h.c3, keep_cell hb h.c4, keep_cell hb h.c5, keep_cell hb h.c6⟩
theorem HAt.keep {w w' : World} {b o : Nat} {x : H5} (h : HAt w b o x) (hb : Below w.heap.size w w') : HAt w' b o x :=
  ⟨keep_cell hb h.c0, keep_cell hb h.c1, keep_cell hb h.c2, keep_cell hb h.c3, keep_cell hb h.c4⟩

/-- A row of places, only read. -/
def SlW (w : World) (v : Value) (L : List W7) : Prop := ∃ a cap, v = .slice a L.length cap ∧ (0 < L.length → ∃ b off, a = some ⟨b, off, none⟩ ∧ ∀ i, i < L.length → WAt w b (off + i * 7) (wq L i))
def SlH (w : World) (v : Value) (L : List H5) : Prop := ∃ a cap, v = .slice a L.length cap ∧ ((a = none → cap = 0) ∧ L.length ≤ cap) ∧ (0 < L.length → ∃ b off, a = some ⟨b, off, none⟩ ∧ ∀ i, i < L.length → HAt w b (off + i * 5) (hq L i))
theorem SlW.keep {w w' : World} {v : Value} {L : List W7} (h : SlW w v L) (hb : Below w.heap.size w w') : SlW w' v L := by
  obtain ⟨a, cap, rfl, h2⟩ := h
  refine ⟨a, cap, rfl, fun hp => ?_⟩
  obtain ⟨b, off, rfl, h3⟩ := h2 hp
  exact ⟨b, off, rfl, fun i hi => (h3 i hi).keep hb⟩
theorem SlH.keep {w w' : World} {v : Value} {L : List H5} (h : SlH w v L) (hb : Below w.heap.size w w') : SlH w' v L := by
  obtain ⟨a, cap, rfl, h1, h2⟩ := h
  refine ⟨a, cap, rfl, h1, fun hp => ?_⟩
  obtain ⟨b, off, rfl, h3⟩ := h2 hp
  exact ⟨b, off, rfl, fun i hi => (h3 i hi).keep hb⟩

def nilV : Value := .slice none 0 0
def regV (vw vn : Value) : Value := .agg #[.slice none 0 0, vw, vn, .slice none 0 0, .slice none 0 0, .slice none 0 0]

/-- Where a piece is. -/
def wfind (L : List W7) (n : Int) : W7 × Int := match L.find? (fun x => decide (x.p = n)) with
  | some x => (x, 0)
  | none => (w0, 3)

theorem wfind_at {L : List W7} {n : Int} {q : Nat} (hq : q < L.length) (h : (wq L q).p = n) (hl : ∀ j, j < q → (wq L j).p ≠ n) : wfind L n = (wq L q, 0) := by
  have : L.find? (fun x => decide (x.p = n)) = some (wq L q) := by
    rw [List.find?_eq_some_iff_getElem]
    have e : wq L q = L[q] := by simp [wq, List.getD, hq]
    refine ⟨by simpa using h, q, hq, e.symm, fun j hj => ?_⟩
    have e2 : wq L j = L[j] := by simp [wq, List.getD, show j < L.length by omega]
    have := hl j hj
    rw [e2] at this
    simpa using this
  unfold wfind
  rw [this]

theorem wfind_none {L : List W7} {n : Int} (hl : ∀ j, j < L.length → (wq L j).p ≠ n) : wfind L n = (w0, 3) := by
  have : L.find? (fun x => decide (x.p = n)) = none := by
    rw [List.find?_eq_none]
    intro x hx
    obtain ⟨j, hj, e⟩ := List.getElem_of_mem hx
    have := hl j hj
    have e2 : wq L j = L[j] := by simp [wq, List.getD, hj]
    rw [e2, e] at this
    simpa using this
  unfold wfind
  rw [this]

theorem setCell_heap {w : World} {b k : Nat} {c : Array Value} {t : TypeId} {fr : Nat × Nat} (v : Value) (h : w.heap[b]? = some (.cells c t fr)) :
    (w.setCell ⟨b, k, none⟩ v).heap[b]? = some (.cells (c.setIfInBounds k v) t fr) := by
  obtain ⟨hlt, hk⟩ := Array.getElem?_eq_some_iff.1 h
  show (w.heap.modify b _)[b]? = _
  rw [Array.getElem?_eq_getElem (by rw [Array.size_modify]; exact hlt), Array.getElem_modify_self, hk]
  rfl
theorem cell_of {w : World} {b k : Nat} {c : Array Value} {t : TypeId} {fr : Nat × Nat} {v : Value} (h : w.heap[b]? = some (.cells c t fr)) (hv : c[k]? = some v) : w.cell? ⟨b, k, none⟩ = some v := by
  unfold World.cell?
  simp [h, hv]
theorem frozen_of {w : World} {b k : Nat} {c : Array Value} {t : TypeId} (h : w.heap[b]? = some (.cells c t (0, 0))) : w.frozen? ⟨b, k, none⟩ = false := by
  unfold World.frozen?
  simp [h]
theorem alloc_heap_old (w : World) (o : Obj) {k : Nat} (h : k < w.heap.size) : (w.alloc o).heap[k]? = w.heap[k]? := by
  show (w.heap.push o)[k]? = _
  rw [Array.getElem?_push, if_neg (by omega)]
theorem alloc_heap_new (w : World) (o : Obj) : (w.alloc o).heap[w.heap.size]? = some o := by
  show (w.heap.push o)[w.heap.size]? = some o
  simp
theorem range_of {w : World} {b : Nat} {cs : List Value} {t : TypeId} (h : w.heap[b]? = some (.cells cs.toArray t (0, 0))) : w.rangeAt b 0 cs := by
  intro j v hv
  rw [Nat.zero_add]
  exact cell_of h (by simpa using hv)
theorem results_cell_tmp {P : Program} {fn : Func} {a u : Tmp} {t : TypeId} {w : World} {v : Value} {p : Addr} (h : fn.results = #[.cell a t, .tmp u]) (tmps : Array Value) (hp : tmps.getD a undef = .pointer (some p))
    (hl : (loadVar t p).run P w = .ok v w) : (results fn tmps).run P w = .ok (.tuple #[v, tmps.getD u undef]) w := by
  have hp' : tmps[a]?.getD undef = .pointer (some p) := by simpa using hp
  simp only [results, h]
  simp [hp', asAddr, hl]

/-- None of the first q is the piece. -/
def NoP (L : List W7) (n : Int) (q : Nat) : Prop := ∀ j, j < q → (wq L j).p ≠ n

set_option maxRecDepth 100000 in
set_option maxHeartbeats 4000000 in
theorem where5_any (vw vn : Value) (L : List W7) (n : Int) (hl : L.length ≤ 1000) (w : World) (hs : SlW w vw L) :
    Calls Tryz.prog 5 #[regV vw vn, .int .i64 n] w fun e w' => e = .returned (.tuple #[agW (wfind L n).1, .int .i64 (wfind L n).2]) ∧ Below w.heap.size w w' := by
  obtain ⟨a, cap, rfl, hd⟩ := hs
  have HF := Lib.hid (fun q (hq : q < L.length) h hl => wfind_at (L := L) (n := n) (q := q) hq h hl)
  have HN := Lib.hid (fun hl => wfind_none (L := L) (n := n) hl)
  obtain ⟨M, hM⟩ : ∃ M, L.length = M := ⟨_, rfl⟩
  rw [hM] at hd hl HF HN ⊢
  have HD := Lib.hid hd
  clear hd hM
  unfold regV
  have B0 : Below w.heap.size w ((w.alloc (.cells #[.slice none 0 0, .slice a M cap, vn, .slice none 0 0, .slice none 0 0, .slice none 0 0] 30)).alloc (.cells #[.int .i64 0, .int .i64 0, .int .i64 0, .int .i64 0, .bool false, .int .i64 0, .int .i64 0] 36)) := ((Below.refl _ w).alloc (Nat.le_refl _) _).alloc (by simp) _
  have Z0 : ((w.alloc (.cells #[.slice none 0 0, .slice a M cap, vn, .slice none 0 0, .slice none 0 0, .slice none 0 0] 30)).alloc (.cells #[.int .i64 0, .int .i64 0, .int .i64 0, .int .i64 0, .bool false, .int .i64 0, .int .i64 0] 36)).heap[w.heap.size + 1]? = some (.cells #[.int .i64 0, .int .i64 0, .int .i64 0, .int .i64 0, .bool false, .int .i64 0, .int .i64 0] 36 (0, 0)) := by
    have := alloc_heap_new (w.alloc (.cells #[.slice none 0 0, .slice a M cap, vn, .slice none 0 0, .slice none 0 0, .slice none 0 0] 30)) (.cells #[.int .i64 0, .int .i64 0, .int .i64 0, .int .i64 0, .bool false, .int .i64 0, .int .i64 0] 36)
    rw [World.size_alloc] at this
    exact this
  have HBZ := Lib.hid (And.intro B0 Z0)
  clear B0 Z0
  go_enter Tryz.func5, Tryz.ntmps5
  go_wp2_with fail
  go_loopw [11] (fun i wr => ∃ q : Nat, q ≤ M ∧ i = .int .i64 q ∧ Below w.heap.size w wr ∧ wr.heap[w.heap.size + 1]? = some (.cells #[.int .i64 0, .int .i64 0, .int .i64 0, .int .i64 0, .bool false, .int .i64 0, .int .i64 0] 36 (0, 0)) ∧ NoP L n q) (fun i _ => M - (intOf i).toNat)
  case atStart => exact ⟨0, by omega, rfl, HBZ.out.1, HBZ.out.2, fun j hj => by omega⟩
  case round =>
    clear HBZ
    obtain ⟨q, hq, rfl, hbel, hzb, hno⟩ := hrel
    have hlt := (Array.getElem?_eq_some_iff.1 hzb).1
    by_cases hqn : q < M
    · obtain ⟨b, off, rfl, hc⟩ := HD.out (by omega)
      obtain ⟨c0, c1, c2, c3, c4, c5, c6⟩ := (hc q hqn).keep hbel
      have HFq := Lib.hid (HF.out q hqn)
      have HNq : Hid ((wq L q).p ≠ n → NoP L n (q + 1)) := Lib.hid (fun h j hj => by
        by_cases e : j < q
        · exact hno j e
        · have : j = q := by omega
          rw [this]; exact h)
      clear hc
      generalize wq L q = x at c0 c1 c2 c3 c4 c5 c6 HFq HNq
      obtain ⟨xp, xk, xa, xsh, xbk, xtb, xtn⟩ := x
      dsimp only at c0 c1 c2 c3 c4 c5 c6
      have j1 : decide ((q : Int) < (M : Int)) = true := by simp; omega
      have p0 : (q : Int) < (M : Int) := by omega
      have k1 := w64 ((q : Int) + 1) (by omega)
      have hz : (wr.alloc (.cells #[.int .i64 xp, .int .i64 xk, .int .i64 xa, .int .i64 xsh, .bool xbk, .int .i64 xtb, .int .i64 xtn] 36)).heap[w.heap.size + 1]? = some (.cells #[.int .i64 0, .int .i64 0, .int .i64 0, .int .i64 0, .bool false, .int .i64 0, .int .i64 0] 36 (0, 0)) := (alloc_heap_old _ _ hlt).trans hzb
      have B1 : Below w.heap.size w (wr.alloc (.cells #[.int .i64 xp, .int .i64 xk, .int .i64 xa, .int .i64 xsh, .bool xbk, .int .i64 xtb, .int .i64 xtn] 36)) := hbel.alloc hbel.size _
      have z0 : (wr.alloc (.cells #[.int .i64 xp, .int .i64 xk, .int .i64 xa, .int .i64 xsh, .bool xbk, .int .i64 xtb, .int .i64 xtn] 36)).cell? ⟨w.heap.size + 1, 0, none⟩ = some (.int .i64 0) := cell_of hz rfl
      have y0 : (wr.alloc (.cells #[.int .i64 xp, .int .i64 xk, .int .i64 xa, .int .i64 xsh, .bool xbk, .int .i64 xtb, .int .i64 xtn] 36)).frozen? ⟨w.heap.size + 1, 0, none⟩ = false := frozen_of hz
      have z1 : (wr.alloc (.cells #[.int .i64 xp, .int .i64 xk, .int .i64 xa, .int .i64 xsh, .bool xbk, .int .i64 xtb, .int .i64 xtn] 36)).cell? ⟨w.heap.size + 1, 1, none⟩ = some (.int .i64 0) := cell_of hz rfl
      have y1 : (wr.alloc (.cells #[.int .i64 xp, .int .i64 xk, .int .i64 xa, .int .i64 xsh, .bool xbk, .int .i64 xtb, .int .i64 xtn] 36)).frozen? ⟨w.heap.size + 1, 1, none⟩ = false := frozen_of hz
      have z2 : (wr.alloc (.cells #[.int .i64 xp, .int .i64 xk, .int .i64 xa, .int .i64 xsh, .bool xbk, .int .i64 xtb, .int .i64 xtn] 36)).cell? ⟨w.heap.size + 1, 2, none⟩ = some (.int .i64 0) := cell_of hz rfl
      have y2 : (wr.alloc (.cells #[.int .i64 xp, .int .i64 xk, .int .i64 xa, .int .i64 xsh, .bool xbk, .int .i64 xtb, .int .i64 xtn] 36)).frozen? ⟨w.heap.size + 1, 2, none⟩ = false := frozen_of hz
      have z3 : (wr.alloc (.cells #[.int .i64 xp, .int .i64 xk, .int .i64 xa, .int .i64 xsh, .bool xbk, .int .i64 xtb, .int .i64 xtn] 36)).cell? ⟨w.heap.size + 1, 3, none⟩ = some (.int .i64 0) := cell_of hz rfl
      have y3 : (wr.alloc (.cells #[.int .i64 xp, .int .i64 xk, .int .i64 xa, .int .i64 xsh, .bool xbk, .int .i64 xtb, .int .i64 xtn] 36)).frozen? ⟨w.heap.size + 1, 3, none⟩ = false := frozen_of hz
      have z4 : (wr.alloc (.cells #[.int .i64 xp, .int .i64 xk, .int .i64 xa, .int .i64 xsh, .bool xbk, .int .i64 xtb, .int .i64 xtn] 36)).cell? ⟨w.heap.size + 1, 4, none⟩ = some (.bool false) := cell_of hz rfl
      have y4 : (wr.alloc (.cells #[.int .i64 xp, .int .i64 xk, .int .i64 xa, .int .i64 xsh, .bool xbk, .int .i64 xtb, .int .i64 xtn] 36)).frozen? ⟨w.heap.size + 1, 4, none⟩ = false := frozen_of hz
      have z5 : (wr.alloc (.cells #[.int .i64 xp, .int .i64 xk, .int .i64 xa, .int .i64 xsh, .bool xbk, .int .i64 xtb, .int .i64 xtn] 36)).cell? ⟨w.heap.size + 1, 5, none⟩ = some (.int .i64 0) := cell_of hz rfl
      have y5 : (wr.alloc (.cells #[.int .i64 xp, .int .i64 xk, .int .i64 xa, .int .i64 xsh, .bool xbk, .int .i64 xtb, .int .i64 xtn] 36)).frozen? ⟨w.heap.size + 1, 5, none⟩ = false := frozen_of hz
      have z6 : (wr.alloc (.cells #[.int .i64 xp, .int .i64 xk, .int .i64 xa, .int .i64 xsh, .bool xbk, .int .i64 xtb, .int .i64 xtn] 36)).cell? ⟨w.heap.size + 1, 6, none⟩ = some (.int .i64 0) := cell_of hz rfl
      have y6 : (wr.alloc (.cells #[.int .i64 xp, .int .i64 xk, .int .i64 xa, .int .i64 xsh, .bool xbk, .int .i64 xtb, .int .i64 xtn] 36)).frozen? ⟨w.heap.size + 1, 6, none⟩ = false := frozen_of hz
      have hf : ((((((((wr.alloc (.cells #[.int .i64 xp, .int .i64 xk, .int .i64 xa, .int .i64 xsh, .bool xbk, .int .i64 xtb, .int .i64 xtn] 36)).setCell ⟨w.heap.size + 1, 0, none⟩ (.int .i64 xp)).setCell ⟨w.heap.size + 1, 1, none⟩ (.int .i64 xk)).setCell ⟨w.heap.size + 1, 2, none⟩ (.int .i64 xa)).setCell ⟨w.heap.size + 1, 3, none⟩ (.int .i64 xsh)).setCell ⟨w.heap.size + 1, 4, none⟩ (.bool xbk)).setCell ⟨w.heap.size + 1, 5, none⟩ (.int .i64 xtb)).setCell ⟨w.heap.size + 1, 6, none⟩ (.int .i64 xtn)).heap[w.heap.size + 1]? = some (.cells (([.int .i64 xp, .int .i64 xk, .int .i64 xa, .int .i64 xsh, .bool xbk, .int .i64 xtb, .int .i64 xtn] : List Value).toArray) 36 (0, 0)) := (setCell_heap _ (setCell_heap _ (setCell_heap _ (setCell_heap _ (setCell_heap _ (setCell_heap _ (setCell_heap _ hz)))))))
      replace hz := Lib.hid hz
      replace hf := Lib.hid hf
      replace B1 := Lib.hid B1
      replace hno := Lib.hid hno
      clear hbel hlt hzb HD HF HN
      by_cases he : xp = n
      · subst he
        have j2 : ((xp : Int) == xp) = true := by simp
        go_wp2_with fail
        have hl := run_loadVar_mid (P := Tryz.prog) _ (w.heap.size + 1) 0 36 [.int .i64 xp, .int .i64 xk, .int .i64 xa, .int .i64 xsh, .bool xbk, .int .i64 xtb, .int .i64 xtn] _ (range_of hf.out) Tryz.underlying36 rfl (by kernel_rfl)
        refine bodyPost_ret (results_cell_tmp (fn := Tryz.f5) rfl _ (by rfl) hl) rfl ?_
        rw [HFq.out (by first | rfl | trivial) hno.out]
        exact ⟨rfl, (((((((B1.out.setCell (p := ⟨w.heap.size + 1, 0, none⟩) (Nat.le_succ _) _).setCell (p := ⟨w.heap.size + 1, 1, none⟩) (Nat.le_succ _) _).setCell (p := ⟨w.heap.size + 1, 2, none⟩) (Nat.le_succ _) _).setCell (p := ⟨w.heap.size + 1, 3, none⟩) (Nat.le_succ _) _).setCell (p := ⟨w.heap.size + 1, 4, none⟩) (Nat.le_succ _) _).setCell (p := ⟨w.heap.size + 1, 5, none⟩) (Nat.le_succ _) _).setCell (p := ⟨w.heap.size + 1, 6, none⟩) (Nat.le_succ _) _)⟩
      · have j2 : ((xp : Int) == n) = false := by simpa using he
        go_wp2_with fail
        exact ⟨⟨q + 1, hqn, by simp, B1.out, hz.out, HNq.out he⟩, by simp [intOf]; omega⟩
    · have hqM : q = M := by omega
      subst hqM
      have j1 : decide ((q : Int) < (q : Int)) = false := by simp
      have z0 : wr.cell? ⟨w.heap.size + 1, 0, none⟩ = some (.int .i64 0) := cell_of hzb rfl
      have y0 : wr.frozen? ⟨w.heap.size + 1, 0, none⟩ = false := frozen_of hzb
      have z1 : wr.cell? ⟨w.heap.size + 1, 1, none⟩ = some (.int .i64 0) := cell_of hzb rfl
      have y1 : wr.frozen? ⟨w.heap.size + 1, 1, none⟩ = false := frozen_of hzb
      have z2 : wr.cell? ⟨w.heap.size + 1, 2, none⟩ = some (.int .i64 0) := cell_of hzb rfl
      have y2 : wr.frozen? ⟨w.heap.size + 1, 2, none⟩ = false := frozen_of hzb
      have z3 : wr.cell? ⟨w.heap.size + 1, 3, none⟩ = some (.int .i64 0) := cell_of hzb rfl
      have y3 : wr.frozen? ⟨w.heap.size + 1, 3, none⟩ = false := frozen_of hzb
      have z4 : wr.cell? ⟨w.heap.size + 1, 4, none⟩ = some (.bool false) := cell_of hzb rfl
      have y4 : wr.frozen? ⟨w.heap.size + 1, 4, none⟩ = false := frozen_of hzb
      have z5 : wr.cell? ⟨w.heap.size + 1, 5, none⟩ = some (.int .i64 0) := cell_of hzb rfl
      have y5 : wr.frozen? ⟨w.heap.size + 1, 5, none⟩ = false := frozen_of hzb
      have z6 : wr.cell? ⟨w.heap.size + 1, 6, none⟩ = some (.int .i64 0) := cell_of hzb rfl
      have y6 : wr.frozen? ⟨w.heap.size + 1, 6, none⟩ = false := frozen_of hzb
      have hf : (((((((wr.setCell ⟨w.heap.size + 1, 0, none⟩ (.int .i64 0)).setCell ⟨w.heap.size + 1, 1, none⟩ (.int .i64 0)).setCell ⟨w.heap.size + 1, 2, none⟩ (.int .i64 0)).setCell ⟨w.heap.size + 1, 3, none⟩ (.int .i64 0)).setCell ⟨w.heap.size + 1, 4, none⟩ (.bool false)).setCell ⟨w.heap.size + 1, 5, none⟩ (.int .i64 0)).setCell ⟨w.heap.size + 1, 6, none⟩ (.int .i64 0)).heap[w.heap.size + 1]? = some (.cells (([.int .i64 0, .int .i64 0, .int .i64 0, .int .i64 0, .bool false, .int .i64 0, .int .i64 0] : List Value).toArray) 36 (0, 0)) := (setCell_heap _ (setCell_heap _ (setCell_heap _ (setCell_heap _ (setCell_heap _ (setCell_heap _ (setCell_heap _ hzb)))))))
      replace hf := Lib.hid hf
      replace hbel := Lib.hid hbel
      replace hno := Lib.hid hno
      clear hlt hzb HD HF
      go_wp2_with fail
      have hl := run_loadVar_mid (P := Tryz.prog) _ (w.heap.size + 1) 0 36 [.int .i64 0, .int .i64 0, .int .i64 0, .int .i64 0, .bool false, .int .i64 0, .int .i64 0] _ (range_of hf.out) Tryz.underlying36 rfl (by kernel_rfl)
      refine bodyPost_ret (results_cell_tmp (fn := Tryz.f5) rfl _ (by rfl) hl) rfl ?_
      rw [HN.out hno.out]
      exact ⟨rfl, (((((((hbel.out.setCell (p := ⟨w.heap.size + 1, 0, none⟩) (Nat.le_succ _) _).setCell (p := ⟨w.heap.size + 1, 1, none⟩) (Nat.le_succ _) _).setCell (p := ⟨w.heap.size + 1, 2, none⟩) (Nat.le_succ _) _).setCell (p := ⟨w.heap.size + 1, 3, none⟩) (Nat.le_succ _) _).setCell (p := ⟨w.heap.size + 1, 4, none⟩) (Nat.le_succ _) _).setCell (p := ⟨w.heap.size + 1, 5, none⟩) (Nat.le_succ _) _).setCell (p := ⟨w.heap.size + 1, 6, none⟩) (Nat.le_succ _) _)⟩

end Go.Proofs.YtdnljbdngbphnaaGreat
