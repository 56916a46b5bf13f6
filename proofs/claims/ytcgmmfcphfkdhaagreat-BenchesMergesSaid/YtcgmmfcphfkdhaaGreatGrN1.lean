/- The abstract machine, part GrN1. -/
import Derived.Test.YtcgmmfcphfkdhaaGreatGP
import Derived.Test.YtcgmmfcphfkdhaaGreatD1
import Derived.Deep.WholeRow
import Derived.Test.YtcgmmfcphfkdhaaGreatGrB5
import Derived.Laws.EntriesVeiled
/- Notes: what they are, and their boxes. -/
namespace Go.Proofs.YtcgmmfcphfkdhaaGreat
open Go Go.RowKit Go.Proofs

structure Pc where
 (id c r m s : Int)
 (G : List G5)
 (M : List M3)
structure S8 where
 (a b c d e f g h : Int)
structure It where
 (id k y f p l s : Int)
 (P C : List Int)
 (lo hi : Int)
 (S : List S8)
structure Nt where
 (b n c y k f p q o t sh : Int)
 (bk : Bool)
 (rb rn : Int)
 (P Q : List Int)
 (D : List Pc)
 (X : It)

def pz (D : List Pc) (k : Nat) : Pc := D.getD k ⟨0, 0, 0, 0, 0, [], []⟩
def sz (S : List S8) (k : Nat) : S8 := S.getD k ⟨0, 0, 0, 0, 0, 0, 0, 0⟩

def PcAt (w : World) (b o : Nat) (p : Pc) : Prop := ∃ vg vm, SlG w vg p.G ∧ SlM w vm p.M ∧ w.cell? ⟨b, o, none⟩ = some (.int .i64 p.id) ∧ w.cell? ⟨b, o + 1, none⟩ = some (.int .i64 p.c) ∧ w.cell? ⟨b, o + 2, none⟩ = some (.int .i64 p.r) ∧
 w.cell? ⟨b, o + 3, none⟩ = some (.int .i64 p.m) ∧ w.cell? ⟨b, o + 4, none⟩ = some (.int .i64 p.s) ∧ w.cell? ⟨b, o + 5, none⟩ = some vg ∧ w.cell? ⟨b, o + 6, none⟩ = some vm

theorem PcAt.keep {w w' : World} {b o : Nat} {p : Pc} (h : PcAt w b o p) (hb : Below w.heap.size w w') : PcAt w' b o p := by
 obtain ⟨vg, vm, hg, hm, h0, h1, h2, h3, h4, h5, h6⟩ := h
 exact ⟨vg, vm, hg.keep hb, hm.keep hb, keep_cell hb h0, keep_cell hb h1, keep_cell hb h2, keep_cell hb h3, keep_cell hb h4, keep_cell hb h5, keep_cell hb h6⟩

def SlP (w : World) (v : Value) (D : List Pc) : Prop := ∃ a cap, v = .slice a D.length cap ∧ D.length ≤ 9223372036854775807 ∧ ∀ k, k < D.length → ∃ b off, a = some ⟨b, off, none⟩ ∧ PcAt w b (off + k * 7) (pz D k)

theorem SlP.keep {w w' : World} {v : Value} {D : List Pc} (h : SlP w v D) (hb : Below w.heap.size w w') : SlP w' v D := by
 obtain ⟨a, cap, rfl, hl, hc⟩ := h
 refine ⟨a, cap, rfl, hl, fun k hk => ?_⟩
 obtain ⟨b, off, rfl, h⟩ := hc k hk
 exact ⟨b, off, rfl, h.keep hb⟩

def SlS (w : World) (v : Value) (S : List S8) : Prop := ∃ a cap, v = .slice a S.length cap ∧ S.length ≤ 9223372036854775807 ∧ ∀ k, k < S.length → ∃ b off, a = some ⟨b, off, none⟩ ∧
 w.cell? ⟨b, off + k * 8, none⟩ = some (.int .i64 (sz S k).a) ∧ w.cell? ⟨b, off + k * 8 + 1, none⟩ = some (.int .i64 (sz S k).b) ∧ w.cell? ⟨b, off + k * 8 + 2, none⟩ = some (.int .i64 (sz S k).c) ∧ w.cell? ⟨b, off + k * 8 + 3, none⟩ = some (.int .i64 (sz S k).d) ∧
 w.cell? ⟨b, off + k * 8 + 4, none⟩ = some (.int .i64 (sz S k).e) ∧ w.cell? ⟨b, off + k * 8 + 5, none⟩ = some (.int .i64 (sz S k).f) ∧ w.cell? ⟨b, off + k * 8 + 6, none⟩ = some (.int .i64 (sz S k).g) ∧ w.cell? ⟨b, off + k * 8 + 7, none⟩ = some (.int .i64 (sz S k).h)

theorem SlS.keep {w w' : World} {v : Value} {S : List S8} (h : SlS w v S) (hb : Below w.heap.size w w') : SlS w' v S := by
 obtain ⟨a, cap, rfl, hl, hc⟩ := h
 refine ⟨a, cap, rfl, hl, fun k hk => ?_⟩
 obtain ⟨b, off, rfl, h0, h1, h2, h3, h4, h5, h6, h7⟩ := hc k hk
 exact ⟨b, off, rfl, keep_cell hb h0, keep_cell hb h1, keep_cell hb h2, keep_cell hb h3, keep_cell hb h4, keep_cell hb h5, keep_cell hb h6, keep_cell hb h7⟩

structure Nv where
 (N : Nt)
 (uP uQ uD iP iC iS : Value)

def Nv.itm (x : Nv) : Array Value := #[.int .i64 x.N.X.id, .int .i64 x.N.X.k, .int .i64 x.N.X.y, .int .i64 x.N.X.f, .int .i64 x.N.X.p, .int .i64 x.N.X.l, .int .i64 x.N.X.s, x.iP, x.iC, .int .i64 x.N.X.lo, .int .i64 x.N.X.hi, x.iS]
def Nv.arr (x : Nv) : Array Value := #[.int .i64 x.N.b, .int .i64 x.N.n, .int .i64 x.N.c, .int .i64 x.N.y, .int .i64 x.N.k, .int .i64 x.N.f, .int .i64 x.N.p, .int .i64 x.N.q, .int .i64 x.N.o, .int .i64 x.N.t, .int .i64 x.N.sh, .bool x.N.bk, .int .i64 x.N.rb, .int .i64 x.N.rn, x.uP, x.uQ, x.uD,
 .int .i64 x.N.X.id, .int .i64 x.N.X.k, .int .i64 x.N.X.y, .int .i64 x.N.X.f, .int .i64 x.N.X.p, .int .i64 x.N.X.l, .int .i64 x.N.X.s, x.iP, x.iC, .int .i64 x.N.X.lo, .int .i64 x.N.X.hi, x.iS]

structure IV (w : World) (x : Nv) : Prop where
 P : SlI w x.iP x.N.X.P
 C : SlI w x.iC x.N.X.C
 S : SlS w x.iS x.N.X.S
structure NV (w : World) (x : Nv) : Prop where
 P : SlI w x.uP x.N.P
 Q : SlI w x.uQ x.N.Q
 D : SlP w x.uD x.N.D
 X : IV w x

theorem IV.keep {w w' : World} {x : Nv} (h : IV w x) (hb : Below w.heap.size w w') : IV w' x := ⟨h.P.keep hb, h.C.keep hb, h.S.keep hb⟩
theorem NV.keep {w w' : World} {x : Nv} (h : NV w x) (hb : Below w.heap.size w w') : NV w' x := ⟨h.P.keep hb, h.Q.keep hb, h.D.keep hb, h.X.keep hb⟩

theorem sl_one {w : World} {v : Value} {L : List Int} (h : SlI w v L) : v.oneCell' = true := by obtain ⟨a, cap, rfl, -⟩ := h; rfl
theorem slp_one {w : World} {v : Value} {L : List Pc} (h : SlP w v L) : v.oneCell' = true := by obtain ⟨a, cap, rfl, -⟩ := h; rfl
theorem sls_one {w : World} {v : Value} {L : List S8} (h : SlS w v L) : v.oneCell' = true := by obtain ⟨a, cap, rfl, -⟩ := h; rfl

theorem NV.one {w : World} {x : Nv} (h : NV w x) : x.arr.all (·.oneCell') = true := by
 have h1 := sl_one h.P
 have h2 := sl_one h.Q
 have h3 := slp_one h.D
 have h4 := sl_one h.X.P
 have h5 := sl_one h.X.C
 have h6 := sls_one h.X.S
 rw [Array.all_eq_true]
 intro i hi
 match i, hi with
 | 0, _ | 1, _ | 2, _ | 3, _ | 4, _ | 5, _ | 6, _ | 7, _ | 8, _ | 9, _ | 10, _ | 11, _ | 12, _ | 13, _ | 17, _ | 18, _ | 19, _ | 20, _ | 21, _ | 22, _ | 23, _ | 26, _ | 27, _ => rfl
 | 14, _ => exact h1
 | 15, _ => exact h2
 | 16, _ => exact h3
 | 24, _ => exact h4
 | 25, _ => exact h5
 | 28, _ => exact h6
 | i + 29, hi => exact absurd hi (by show ¬ i + 29 < 29; omega)

theorem arr_size (x : Nv) : x.arr.size = 29 := rfl
theorem itm_size (x : Nv) : x.itm.size = 12 := rfl

def NB (w : World) (b : Nat) (V : Array Value) (t : TypeId) : Prop := w.heap[b]? = some (.cells V t (0, 0))
theorem NB.lt {w : World} {b : Nat} {V : Array Value} {t : TypeId} (h : NB w b V t) : b < w.heap.size := (Array.getElem?_eq_some_iff.1 h).1
theorem NB.c {w : World} {b : Nat} {V : Array Value} {t : TypeId} (h : NB w b V t) {k : Nat} {v : Value} (hv : V[k]? = some v) : w.cell? ⟨b, k, none⟩ = some v := by
 unfold NB at h; unfold World.cell?; simp [h, hv]
theorem NB.f {w : World} {b : Nat} {V : Array Value} {t : TypeId} (h : NB w b V t) (k : Nat) : w.frozen? ⟨b, k, none⟩ = false := by
 unfold NB at h; unfold World.frozen?; simp [h]
theorem NB.keep {w w' : World} {b : Nat} {V : Array Value} {t : TypeId} (h : NB w b V t) (hb : Below w.heap.size w w') : NB w' b V t := (hb.block b h.lt).trans h
theorem NB.new (w : World) (V : Array Value) (t : TypeId) : NB (w.alloc (.cells V t)) w.heap.size V t := alloc_heap_new _ _
theorem nb1 (w : World) (o : Obj) (V : Array Value) (t : TypeId) : NB ((w.alloc o).alloc (.cells V t)) (w.heap.size + 1) V t := by
 have := NB.new (w.alloc o) V t
 rwa [World.size_alloc] at this
theorem NB.alloc {w : World} {b : Nat} {V : Array Value} {t : TypeId} (h : NB w b V t) (o : Obj) : NB (w.alloc o) b V t := (alloc_heap_old w o h.lt).trans h
theorem NB.set {w : World} {b : Nat} {V : Array Value} {t : TypeId} (h : NB w b V t) (k : Nat) (u : Value) : NB (w.setCell ⟨b, k, none⟩ u) b (V.setIfInBounds k u) t := by
 unfold NB at h ⊢
 unfold World.setCell
 rw [Array.getElem?_modify, if_pos rfl, h]
 rfl
theorem NB.other {w : World} {b c k : Nat} {V : Array Value} {t : TypeId} (h : NB w b V t) (u : Value) (hn : b ≠ c) : NB (w.setCell ⟨c, k, none⟩ u) b V t := (heap_set hn).trans h

theorem nlcf {W : World} {b o n : Nat} (c : Array Value) (hn : c.size = n) (h : ∀ j v, c[j]? = some v → W.cell? ⟨b, o + j, none⟩ = some v) : (loadCellsFrom ⟨b, o, none⟩ 0 n #[]).run Tryz.prog W = .ok c W := by
 subst hn
 have := run_loadCells_list (P := Tryz.prog) (w := W) ⟨b, o, none⟩ c.toList (fun j v hv => by
  have hadd : (⟨b, o, none⟩ : Addr).add j = ⟨b, o + j, none⟩ := by unfold Addr.add; split <;> simp_all
  rw [hadd]
  exact h j v (by simpa using hv))
 simpa [loadCells] using this

theorem NB.load {w : World} {b : Nat} {V : Array Value} {t : TypeId} (h : NB w b V t) {m : Nat} (hm : V.size = m) : (loadCellsFrom ⟨b, 0, none⟩ 0 m #[]).run Tryz.prog w = .ok V w :=
 nlcf V hm fun j v hv => by rw [Nat.zero_add]; exact h.c hv

theorem itm_arr (x : Nv) : ∀ (j : Nat) v, x.itm[j]? = some v → x.arr[17 + j]? = some v
 | 0, _, h => h | 1, _, h => h | 2, _, h => h | 3, _, h => h | 4, _, h => h | 5, _, h => h | 6, _, h => h | 7, _, h => h | 8, _, h => h | 9, _, h => h | 10, _, h => h | 11, _, h => h
 | j + 12, _, h => by
  rw [Array.getElem?_eq_none (by rw [itm_size]; omega)] at h
  cases h

theorem NB.loadX {w : World} {b : Nat} {x : Nv} {t : TypeId} (h : NB w b x.arr t) {m : Nat} (hm : 12 = m) : (loadCellsFrom ⟨b, 17, none⟩ 0 m #[]).run Tryz.prog w = .ok x.itm w :=
 nlcf x.itm (by rw [itm_size]; exact hm) fun j v hv => h.c (itm_arr x j v hv)

theorem f40 : Hid (∃ FS : Array Field, (∀ w, (underlying 40).run Tryz.prog w = .ok (.struct FS) w) ∧
 FS[0]? = some { name := "Bench", type := 3, offset := 0, embedded := false, tag := "", pkgPath := "", byteOffset := 0 } ∧
 FS[1]? = some { name := "Num", type := 3, offset := 1, embedded := false, tag := "", pkgPath := "", byteOffset := 8 } ∧
 FS[2]? = some { name := "Clock", type := 3, offset := 2, embedded := false, tag := "", pkgPath := "", byteOffset := 16 } ∧
 FS[3]? = some { name := "Year", type := 3, offset := 3, embedded := false, tag := "", pkgPath := "", byteOffset := 24 } ∧
 FS[4]? = some { name := "Kind", type := 3, offset := 4, embedded := false, tag := "", pkgPath := "", byteOffset := 32 } ∧
 FS[5]? = some { name := "Fix", type := 3, offset := 5, embedded := false, tag := "", pkgPath := "", byteOffset := 40 } ∧
 FS[6]? = some { name := "Piece", type := 3, offset := 6, embedded := false, tag := "", pkgPath := "", byteOffset := 48 } ∧
 FS[7]? = some { name := "Pane", type := 3, offset := 7, embedded := false, tag := "", pkgPath := "", byteOffset := 56 } ∧
 FS[8]? = some { name := "Colour", type := 3, offset := 8, embedded := false, tag := "", pkgPath := "", byteOffset := 64 } ∧
 FS[9]? = some { name := "To", type := 3, offset := 9, embedded := false, tag := "", pkgPath := "", byteOffset := 72 } ∧
 FS[10]? = some { name := "Setting", type := 29, offset := 10, embedded := false, tag := "", pkgPath := "", byteOffset := 80 } ∧
 FS[11]? = some { name := "Ref", type := 31, offset := 12, embedded := false, tag := "", pkgPath := "", byteOffset := 96 } ∧
 FS[12]? = some { name := "Pieces", type := 32, offset := 14, embedded := false, tag := "", pkgPath := "", byteOffset := 112 } ∧
 FS[13]? = some { name := "Panes", type := 32, offset := 15, embedded := false, tag := "", pkgPath := "", byteOffset := 136 } ∧
 FS[14]? = some { name := "Data", type := 33, offset := 16, embedded := false, tag := "", pkgPath := "", byteOffset := 160 } ∧
 FS[15]? = some { name := "Item", type := 38, offset := 17, embedded := false, tag := "", pkgPath := "", byteOffset := 184 }) := by
 refine Lib.hid ⟨_, run_underlying Tryz.underlying40, ?_⟩
 refine ⟨rfl, rfl, rfl, rfl, rfl, rfl, rfl, rfl, rfl, rfl, rfl, rfl, rfl, rfl, rfl, rfl⟩
theorem m40 : Hid (∃ m, 29 = m ∧ (¬ m = 0 ∧ 0 < m ∧ m ≤ 16777216) ∧ ∀ w, (sizeOf 40).run Tryz.prog w = .ok m w) := Lib.hid ⟨29, rfl, ⟨by omega, by omega, by omega⟩, Tryz.sizeOf40⟩
theorem m38 : Hid (∃ m, 12 = m ∧ (¬ m = 0 ∧ 0 < m ∧ m ≤ 16777216) ∧ ∀ w, (sizeOf 38).run Tryz.prog w = .ok m w) := Lib.hid ⟨12, rfl, ⟨by omega, by omega, by omega⟩, Tryz.sizeOf38⟩

end Go.Proofs.YtcgmmfcphfkdhaaGreat

/- Walks: references, stamps, blank notes, of the program. -/
namespace Go.Proofs.YtcgmmfcphfkdhaaGreat
open Go Go.RowKit Go.Proofs

set_option maxHeartbeats 400000 in
theorem in84 (n lo hi : Int) (w : World) : Calls Tryz.prog 84 #[.int .i64 n, .int .i64 lo, .int .i64 hi] w fun e w' => e = .returned (.bool (wi n lo hi)) ∧ w' = w := by
  unfold wi
  go_enter Tryz.func84, Tryz.ntmps84
  go_wp2
  all_goals go_ret
  all_goals refine ⟨?_, rfl⟩
  all_goals first
    | (simp [*]; done)
    | (simp; omega)

abbrev rfv (b n : Int) : Value := .agg #[.int .i64 b, .int .i64 n]
def vRf (b n : Int) : Bool := wi b 1 8 && wi n 1 400

set_option maxHeartbeats 1000000 in
theorem ref113 (b n : Int) (w : World) : Calls Tryz.prog 113 #[rfv b n] w fun e w' => e = .returned (.bool (vRf b n)) ∧ Below w.heap.size w w' := by
  have b0 : Below w.heap.size w (w.alloc (.cells #[.int .i64 b, .int .i64 n] 31)) := (Below.refl _ _).alloc (Nat.le_refl _) _
  have C0 := fun w => in84 b 1 8 w
  have C1 := fun w => in84 n 1 400 w
  unfold vRf
  generalize wi b 1 8 = p0 at C0 ⊢
  generalize wi n 1 400 = p1 at C1 ⊢
  cases p0
  all_goals go_enter Tryz.func113, Tryz.ntmps113
  all_goals go_wp2_with (first
    | (go_at_call 84; with_reducible refine (C0 _).mono ?_; rintro e w1 ⟨rfl, rfl⟩)
    | (go_at_call 84; with_reducible refine (C1 _).mono ?_; rintro e w1 ⟨rfl, rfl⟩))
  all_goals go_ret
  all_goals exact ⟨rfl, b0⟩

theorem nres_cell {P : Program} {fn : Func} {a : Tmp} {t : TypeId} {w : World} {v : Value} {p : Addr} (h : fn.results = #[.cell a t]) (tmps : Array Value) (hp : tmps.getD a undef = .pointer (some p))
    (hl : (loadVar t p).run P w = .ok v w) : (results fn tmps).run P w = .ok v w := by
  have hp' : tmps[a]?.getD undef = .pointer (some p) := by simpa using hp
  simp only [results, h]
  simp [hp', asAddr, hl]

theorem ref_load {w : World} {b : Nat} {x y : Value} (h : NB w b #[x, y] 31) : (loadVar 31 ⟨b, 0, none⟩).run Tryz.prog w = .ok (.agg #[x, y]) w := by
  have hl := h.load (m := 2) rfl
  simp only [loadVar, Sem.run_bind, Tryz.isAgg31, Result.andThen, loadCells]
  simp [hl, Result.andThen, Tryz.sizeOf31]

set_option maxRecDepth 100000 in
set_option maxHeartbeats 1000000 in
theorem refOf55 (x : Nv) (w : World) : Calls Tryz.prog 55 #[.agg x.arr] w fun e w' => e = .returned (rfv x.N.b x.N.n) ∧ Below w.heap.size w w' := by
  have b0 : Below w.heap.size w ((w.alloc (.cells x.arr 40)).alloc (.cells #[.int .i64 x.N.b, .int .i64 x.N.n] 31)) := ((Below.refl _ _).alloc (Nat.le_refl _) _).alloc (by simp) _
  have v0 : x.arr[0]? = some (.int .i64 x.N.b) := rfl
  have v1 : x.arr[1]? = some (.int .i64 x.N.n) := rfl
  generalize x.arr = V at b0 v0 v1 ⊢
  generalize x.N.b = b at b0 v0 ⊢
  generalize x.N.n = n at b0 v1 ⊢
  go_enter Tryz.func55, Tryz.ntmps55
  go_wp2
  exact bodyPost_ret (nres_cell (fn := Tryz.f55) rfl _ (by rfl) (ref_load (nb1 _ _ _ _))) rfl ⟨rfl, b0⟩

set_option maxRecDepth 100000 in
set_option maxHeartbeats 1000000 in
theorem refOf57 (x : Nv) (w : World) : Calls Tryz.prog 57 #[.agg x.arr] w fun e w' => e = .returned (rfv x.N.b x.N.n) ∧ Below w.heap.size w w' := by
  have b0 : Below w.heap.size w ((w.alloc (.cells x.arr 40)).alloc (.cells #[.int .i64 x.N.b, .int .i64 x.N.n] 31)) := ((Below.refl _ _).alloc (Nat.le_refl _) _).alloc (by simp) _
  have v0 : x.arr[0]? = some (.int .i64 x.N.b) := rfl
  have v1 : x.arr[1]? = some (.int .i64 x.N.n) := rfl
  generalize x.arr = V at b0 v0 v1 ⊢
  generalize x.N.b = b at b0 v0 ⊢
  generalize x.N.n = n at b0 v1 ⊢
  go_enter Tryz.func57, Tryz.ntmps57
  go_wp2
  exact bodyPost_ret (nres_cell (fn := Tryz.f57) rfl _ (by rfl) (ref_load (nb1 _ _ _ _))) rfl ⟨rfl, b0⟩

set_option maxRecDepth 100000 in
set_option maxHeartbeats 1000000 in
theorem judges114 (x : Nv) (w : World) : Calls Tryz.prog 114 #[.agg x.arr] w fun e w' => e = .returned (.bool (x.N.k == 9 || x.N.k == 10)) ∧ Below w.heap.size w w' := by
  have b0 : Below w.heap.size w (w.alloc (.cells x.arr 40)) := (Below.refl _ _).alloc (Nat.le_refl _) _
  have v4 : x.arr[4]? = some (.int .i64 x.N.k) := rfl
  generalize x.arr = V at b0 v4 ⊢
  generalize x.N.k = k at v4 ⊢
  go_enter Tryz.func114, Tryz.ntmps114
  go_wp2
  all_goals go_ret
  all_goals refine ⟨?_, b0⟩
  all_goals simp [*]

def vSt (N : Nt) : Bool := vRf N.b N.n && wi N.c 1 1048576 && wi N.y 0 9999

set_option maxRecDepth 100000 in
set_option maxHeartbeats 2000000 in
theorem stamp59 (x : Nv) (w : World) : Calls Tryz.prog 59 #[.agg x.arr] w fun e w' => e = .returned (.bool (vSt x.N)) ∧ Below w.heap.size w w' := by
  obtain ⟨m, hm, ⟨hm0, hm1, hm2⟩, hs40⟩ := m40.out
  have b0 : Below w.heap.size w (w.alloc (.cells x.arr 40)) := (Below.refl _ _).alloc (Nat.le_refl _) _
  have nb := NB.new w x.arr 40
  have l0 := nb.load (m := m) (by rw [← hm]; rfl)
  have v2 : x.arr[2]? = some (.int .i64 x.N.c) := rfl
  have v3 : x.arr[3]? = some (.int .i64 x.N.y) := rfl
  have C0 := fun w => refOf55 x w
  have C1 := fun w => ref113 x.N.b x.N.n w
  have C2 := fun w => in84 x.N.c 1 1048576 w
  have C3 := fun w => in84 x.N.y 0 9999 w
  unfold vSt
  generalize x.arr = V at b0 v2 v3 nb l0 C0 ⊢
  generalize vRf x.N.b x.N.n = p0 at C1 ⊢
  generalize wi x.N.c 1 1048576 = p1 at C2 ⊢
  generalize wi x.N.y 0 9999 = p2 at C3 ⊢
  cases p0 <;> cases p1
  all_goals go_enter Tryz.func59, Tryz.ntmps59
  all_goals go_wp2_with (first
    | (go_at_call 55; with_reducible refine (C0 _).mono ?_; rintro e w1 ⟨rfl, hb1⟩)
    | (go_at_call 113; with_reducible refine (C1 _).mono ?_; rintro e w2 ⟨rfl, hb2⟩
       have hb := keep_below (keep_below b0 hb1) hb2
       have nb2 := (nb.keep hb1).keep hb2
       have q2 := nb2.c v2
       have q3 := nb2.c v3)
    | (go_at_call 84; with_reducible refine (C2 _).mono ?_; rintro e w1 ⟨rfl, rfl⟩)
    | (go_at_call 84; with_reducible refine (C3 _).mono ?_; rintro e w1 ⟨rfl, rfl⟩))
  all_goals go_ret
  all_goals exact ⟨rfl, hb⟩

def blI (X : It) : Bool := X.id == 0 && X.k == 0 && X.y == 0 && X.f == 0 && X.p == 0 && X.l == 0 && X.s == 0 && (X.P.length : Int) == 0 && (X.C.length : Int) == 0 && (X.lo == 0 && X.hi == 0) && (X.S.length : Int) == 0

set_option maxRecDepth 100000 in
set_option maxHeartbeats 4000000 in
theorem blank189 (x : Nv) (w : World) (h : IV w x) : Calls Tryz.prog 189 #[.agg x.itm] w fun e w' => e = .returned (.bool (blI x.N.X)) ∧ Below w.heap.size w w' := by
  obtain ⟨⟨aP, cP, eP, -⟩, ⟨aC, cC, eC, -⟩, ⟨aS, cS, eS, -⟩⟩ := h
  have b0 : Below w.heap.size w (w.alloc (.cells x.itm 38)) := (Below.refl _ _).alloc (Nat.le_refl _) _
  have v0 : x.itm[0]? = some (.int .i64 x.N.X.id) := rfl
  have v1 : x.itm[1]? = some (.int .i64 x.N.X.k) := rfl
  have v2 : x.itm[2]? = some (.int .i64 x.N.X.y) := rfl
  have v3 : x.itm[3]? = some (.int .i64 x.N.X.f) := rfl
  have v4 : x.itm[4]? = some (.int .i64 x.N.X.p) := rfl
  have v5 : x.itm[5]? = some (.int .i64 x.N.X.l) := rfl
  have v6 : x.itm[6]? = some (.int .i64 x.N.X.s) := rfl
  have v7 : x.itm[7]? = some (.slice aP x.N.X.P.length cP) := congrArg some eP
  have v8 : x.itm[8]? = some (.slice aC x.N.X.C.length cC) := congrArg some eC
  have v9 : x.itm[9]? = some (.int .i64 x.N.X.lo) := rfl
  have v10 : x.itm[10]? = some (.int .i64 x.N.X.hi) := rfl
  have v11 : x.itm[11]? = some (.slice aS x.N.X.S.length cS) := congrArg some eS
  obtain ⟨r, hr⟩ : ∃ r, blI x.N.X = r := ⟨_, rfl⟩
  rw [hr]
  unfold blI at hr
  generalize x.itm = V at *
  generalize x.N.X = X at *
  obtain ⟨id, k, y, f, p, l, s, P, C, lo, hi, S⟩ := X
  simp only at *
  generalize P.length = nP at *
  generalize C.length = nC at *
  generalize S.length = nS at *
  have R := Lib.hid hr
  clear hr eP eC eS
  go_enter Tryz.func189, Tryz.ntmps189
  go_wp2
  all_goals go_ret
  all_goals refine ⟨?_, b0⟩
  all_goals rw [← R.out]
  all_goals simp [*]

end Go.Proofs.YtcgmmfcphfkdhaaGreat

/- Walks: blank notes; what is set; records: of the program. -/
namespace Go.Proofs.YtcgmmfcphfkdhaaGreat
open Go Go.RowKit Go.Proofs

def blN (N : Nt) : Bool := N.p == 0 && N.q == 0 && N.o == 0 && N.t == 0 && (N.sh == 0 && N.bk == false) && (N.rb == 0 && N.rn == 0) && (N.P.length : Int) == 0 && (N.Q.length : Int) == 0 && (N.D.length : Int) == 0 && blI N.X

set_option maxRecDepth 100000 in
set_option maxHeartbeats 4000000 in
theorem blank116 (x : Nv) (w : World) (h : NV w x) : Calls Tryz.prog 116 #[.agg x.arr] w fun e w' => e = .returned (.bool (blN x.N)) ∧ Below w.heap.size w w' := by
 obtain ⟨m, hm, ⟨hm0, hm1, hm2⟩, hs38⟩ := m38.out
 have b0 : Below w.heap.size w (w.alloc (.cells x.arr 40)) := (Below.refl _ _).alloc (Nat.le_refl _) _
 have C := blank189 x _ (h.X.keep b0)
 obtain ⟨⟨aP, cP, eP, -⟩, ⟨aQ, cQ, eQ, -⟩, ⟨aD, cD, eD, -⟩, -⟩ := h
 have l0 := (NB.new w x.arr 40).loadX hm
 have v6 : x.arr[6]? = some (.int .i64 x.N.p) := rfl
 have v7 : x.arr[7]? = some (.int .i64 x.N.q) := rfl
 have v8 : x.arr[8]? = some (.int .i64 x.N.o) := rfl
 have v9 : x.arr[9]? = some (.int .i64 x.N.t) := rfl
 have v10 : x.arr[10]? = some (.int .i64 x.N.sh) := rfl
 have v11 : x.arr[11]? = some (.bool x.N.bk) := rfl
 have v12 : x.arr[12]? = some (.int .i64 x.N.rb) := rfl
 have v13 : x.arr[13]? = some (.int .i64 x.N.rn) := rfl
 have v14 : x.arr[14]? = some (.slice aP x.N.P.length cP) := congrArg some eP
 have v15 : x.arr[15]? = some (.slice aQ x.N.Q.length cQ) := congrArg some eQ
 have v16 : x.arr[16]? = some (.slice aD x.N.D.length cD) := congrArg some eD
 obtain ⟨r, hr⟩ : ∃ r, blN x.N = r := ⟨_, rfl⟩
 rw [hr]
 unfold blN at hr
 generalize x.arr = V at *
 generalize x.itm = I at *
 generalize x.N = N at *
 obtain ⟨b, n, c, y, k, f, p, q, o, t, sh, bk, rb, rn, P, Q, D, X⟩ := N
 simp only at *
 generalize P.length = nP at *
 generalize Q.length = nQ at *
 generalize D.length = nD at *
 generalize blI X = bl at *
 have R := Lib.hid hr
 clear hr eP eQ eD hm
 cases bk
 all_goals go_enter Tryz.func116, Tryz.ntmps116
 all_goals go_wp2_with (go_at_call 189; with_reducible refine C.mono ?_; rintro e w1 ⟨rfl, hb⟩; have b2 := keep_below b0 hb)
 all_goals go_ret
 all_goals refine ⟨?_, by first | exact b0 | exact b2⟩
 all_goals rw [← R.out]
 all_goals first
  | (simp [*]; done)
  | (simp [*]; omega)

def sPc (N : Nt) : Bool := wi N.p 1 65535 && N.o == 0 && wi N.sh 0 23
def sGl (N : Nt) : Bool := N.p == 0 && wi N.o 1 16 && (N.sh == 0 && N.bk == false)

set_option maxRecDepth 100000 in
set_option maxHeartbeats 4000000 in
theorem sets187 (x : Nv) (w : World) : Calls Tryz.prog 187 #[.agg x.arr] w fun e w' => e = .returned (.bool (sPc x.N)) ∧ Below w.heap.size w w' := by
 have b0 : Below w.heap.size w (w.alloc (.cells x.arr 40)) := (Below.refl _ _).alloc (Nat.le_refl _) _
 have v6 : x.arr[6]? = some (.int .i64 x.N.p) := rfl
 have v8 : x.arr[8]? = some (.int .i64 x.N.o) := rfl
 have v10 : x.arr[10]? = some (.int .i64 x.N.sh) := rfl
 have C0 := fun w => in84 x.N.p 1 65535 w
 have C1 := fun w => in84 x.N.sh 0 23 w
 unfold sPc
 generalize x.arr = V at *
 generalize wi x.N.p 1 65535 = p0 at *
 generalize wi x.N.sh 0 23 = p1 at *
 generalize x.N.o = o at *
 cases p0
 all_goals go_enter Tryz.func187, Tryz.ntmps187
 all_goals go_wp2_with (first
  | (go_at_call 84; with_reducible refine (C0 _).mono ?_; rintro e w1 ⟨rfl, rfl⟩)
  | (go_at_call 84; with_reducible refine (C1 _).mono ?_; rintro e w1 ⟨rfl, rfl⟩))
 all_goals go_ret
 all_goals refine ⟨?_, b0⟩
 all_goals first
  | (simp [*]; done)
  | (simp [*]; omega)

set_option maxRecDepth 100000 in
set_option maxHeartbeats 4000000 in
theorem sets188 (x : Nv) (w : World) : Calls Tryz.prog 188 #[.agg x.arr] w fun e w' => e = .returned (.bool (sGl x.N)) ∧ Below w.heap.size w w' := by
 have b0 : Below w.heap.size w (w.alloc (.cells x.arr 40)) := (Below.refl _ _).alloc (Nat.le_refl _) _
 have v6 : x.arr[6]? = some (.int .i64 x.N.p) := rfl
 have v8 : x.arr[8]? = some (.int .i64 x.N.o) := rfl
 have v10 : x.arr[10]? = some (.int .i64 x.N.sh) := rfl
 have v11 : x.arr[11]? = some (.bool x.N.bk) := rfl
 have C0 := fun w => in84 x.N.o 1 16 w
 unfold sGl
 generalize x.arr = V at *
 generalize wi x.N.o 1 16 = p0 at *
 generalize x.N.p = p at *
 generalize x.N.sh = sh at *
 generalize x.N.bk = bk at *
 cases p0 <;> cases bk
 all_goals go_enter Tryz.func188, Tryz.ntmps188
 all_goals go_wp2_with (first
  | (go_at_call 84; with_reducible refine (C0 _).mono ?_; rintro e w1 ⟨rfl, rfl⟩))
 all_goals go_ret
 all_goals refine ⟨?_, b0⟩
 all_goals first
  | (simp [*]; done)
  | (simp [*]; omega)

def vRc (X : It) : Bool := wi X.id 1 65535 && wi X.k 1 7 && decide ((X.S.length : Int) ≤ 16) && decide ((X.P.length : Int) ≤ 64) && decide ((X.C.length : Int) ≤ 16)

set_option maxRecDepth 100000 in
set_option maxHeartbeats 4000000 in
theorem record185 (x : Nv) (w : World) (h : IV w x) : Calls Tryz.prog 185 #[.agg x.itm] w fun e w' => e = .returned (.bool (vRc x.N.X)) ∧ Below w.heap.size w w' := by
 obtain ⟨⟨aP, cP, eP, -⟩, ⟨aC, cC, eC, -⟩, ⟨aS, cS, eS, -⟩⟩ := h
 have b0 : Below w.heap.size w (w.alloc (.cells x.itm 38)) := (Below.refl _ _).alloc (Nat.le_refl _) _
 have v0 : x.itm[0]? = some (.int .i64 x.N.X.id) := rfl
 have v1 : x.itm[1]? = some (.int .i64 x.N.X.k) := rfl
 have v7 : x.itm[7]? = some (.slice aP x.N.X.P.length cP) := congrArg some eP
 have v8 : x.itm[8]? = some (.slice aC x.N.X.C.length cC) := congrArg some eC
 have v11 : x.itm[11]? = some (.slice aS x.N.X.S.length cS) := congrArg some eS
 have C0 := fun w => in84 x.N.X.id 1 65535 w
 have C1 := fun w => in84 x.N.X.k 1 7 w
 unfold vRc
 generalize x.itm = V at *
 generalize wi x.N.X.id 1 65535 = p0 at *
 generalize wi x.N.X.k 1 7 = p1 at *
 generalize x.N.X.P.length = nP at *
 generalize x.N.X.C.length = nC at *
 generalize x.N.X.S.length = nS at *
 clear eP eC eS
 cases p0 <;> cases p1
 all_goals go_enter Tryz.func185, Tryz.ntmps185
 all_goals go_wp2_with (first
  | (go_at_call 84; with_reducible refine (C0 _).mono ?_; rintro e w1 ⟨rfl, rfl⟩)
  | (go_at_call 84; with_reducible refine (C1 _).mono ?_; rintro e w1 ⟨rfl, rfl⟩))
 all_goals go_ret
 all_goals refine ⟨?_, b0⟩
 all_goals first
  | (simp [*]; done)
  | (simp [*]; omega)

end Go.Proofs.YtcgmmfcphfkdhaaGreat

/- Walks: numbers that rise; equal lists of numbers. -/
namespace Go.Proofs.YtcgmmfcphfkdhaaGreat
open Go Go.RowKit Go.Proofs

def Say (e : Ending) (R : Prop) : Prop := ∃ r : Bool, (r = true ↔ R) ∧ e = .returned (.bool r)
theorem say_yes {R : Prop} (h : R) : Say (.returned (.bool true)) R := ⟨true, ⟨fun _ => h, fun _ => rfl⟩, rfl⟩
theorem say_no {R : Prop} (h : ¬ R) : Say (.returned (.bool false)) R := ⟨false, ⟨fun e => by simp at e, fun k => absurd k h⟩, rfl⟩
theorem say_is {R : Prop} {b : Bool} (h : b = true ↔ R) : Say (.returned (.bool b)) R := ⟨b, h, rfl⟩

def rOk (L : List Int) (most : Int) (j : Nat) : Prop := 1 ≤ iz L j ∧ iz L j ≤ most ∧ (0 < j → iz L (j - 1) < iz L j)
def Ris (L : List Int) (most : Int) : Prop := ∀ j, j < L.length → rOk L most j

def bfr (L : List Int) (q : Nat) : Int := if q = 0 then 0 else iz L (q - 1)

theorem bfr_in {L : List Int} {most : Int} {q : Nat} (h0 : 0 ≤ most) (h : ∀ j, j < q → rOk L most j) : 0 ≤ bfr L q ∧ bfr L q ≤ most := by
 unfold bfr
 split
 ·omega
 ·have := h (q - 1) (by omega)
  unfold rOk at this
  omega

theorem rOk_iff {L : List Int} {most : Int} {q : Nat} (h : ∀ j, j < q → rOk L most j) (h0 : 0 ≤ most) : rOk L most q ↔ wi (iz L q) (bfr L q + 1) most = true := by
 have hb := bfr_in h0 h
 unfold wi
 rw [Bool.and_eq_true, decide_eq_true_iff, decide_eq_true_iff]
 unfold rOk bfr at *
 split at hb
 ·rename_i e; simp only [e, if_true]; omega
 ·rename_i e; simp only [e, if_false]; omega

set_option maxRecDepth 100000 in
set_option maxHeartbeats 2000000 in
theorem rising186 (v : Value) (L : List Int) (most : Int) (h0 : 0 ≤ most) (hmost : most ≤ 1000000) (w : World) (h : SlI w v L) :
  Calls Tryz.prog 186 #[v, .int .i64 most] w fun e w' => Say e (Ris L most) ∧ Below w.heap.size w w' := by
 obtain ⟨a, cap, rfl, hl, hc⟩ := h
 have HC := Lib.hid hc
 clear hc
 have HR : Hid (∀ q, q < L.length → ¬ rOk L most q → ¬ Ris L most) := Lib.hid fun q hq hn hr => hn (hr q hq)
 have HA : Hid ((∀ j, j < L.length → rOk L most j) → Ris L most) := Lib.hid fun h => h
 generalize Ris L most = RR at HR HA ⊢
 obtain ⟨n, hn⟩ : ∃ n, L.length = n := ⟨_, rfl⟩
 rw [hn] at HC hl HR HA ⊢
 clear hn
 have H0 := Lib.hid h0
 clear h0
 go_enter Tryz.func186, Tryz.ntmps186
 go_wp2_with fail
 go_loopw [5, 10] (fun s i wr => ∃ q : Nat, q ≤ n ∧ i = .int .i64 q ∧ s = .int .i64 (bfr L q) ∧ wr = w ∧ ∀ j, j < q → rOk L most j) (fun _ i _ => n - (intOf i).toNat)
 case atStart => exact ⟨0, Nat.zero_le _, rfl, rfl, rfl, by simp⟩
 case round =>
  obtain ⟨q, hq, rfl, rfl, rfl, hall⟩ := hrel
  have HB := Lib.hid (bfr_in H0.out hall)
  have HI := Lib.hid (rOk_iff hall H0.out)
  have HL := Lib.hid hall
  clear hall
  by_cases hlt : q < n
  ·obtain ⟨b, off, rfl, c0⟩ := HC.out q hlt
   have j1 : (q : Int) < (n : Int) := by omega
   obtain ⟨x, hx⟩ : ∃ x, iz L q = x := ⟨_, rfl⟩
   obtain ⟨y, hy⟩ : ∃ y, bfr L q = y := ⟨_, rfl⟩
   rw [hx] at c0 HI
   rw [hy] at HB HI ⊢
   have C := fun w => in84 x (y + 1) most w
   generalize wi x (y + 1) most = p at C HI
   have e1 : wrap64 (y + 1) = y + 1 := w64 _ (by have := HB.out; omega)
   have e2 : IntKind.i64.wrap (y + 1) = y + 1 := wi64 _ (by have := HB.out; omega)
   have HX := Lib.hid hx
   clear hx hy HB
   cases p
   ·go_wp2_with (go_at_call 84; with_reducible refine (C _).mono ?_; rintro e w1 ⟨rfl, rfl⟩)
    go_ret
    exact ⟨say_no (HR.out q hlt (fun hk => by have := HI.out.1 hk; simp at this)), Below.refl _ _⟩
   ·go_wp2_with (go_at_call 84; with_reducible refine (C _).mono ?_; rintro e w1 ⟨rfl, rfl⟩)
    refine ⟨⟨q + 1, hlt, by simp, ?_, by simp, fun j hj => ?_⟩, by simp [intOf]; omega⟩
    ·rw [show bfr L (q + 1) = iz L q from by unfold bfr; simp, HX.out]
    ·rcases Nat.lt_or_ge j q with h | h
     ·exact HL.out j h
     ·obtain rfl : j = q := by omega
      exact HI.out.2 (by simp)
  ·have j1 : ¬ (q : Int) < (n : Int) := by omega
   go_wp2
   go_ret
   exact ⟨say_yes (HA.out (fun j hj => HL.out j (by omega))), Below.refl _ _⟩

theorem ints_ne {L M : List Int} (q : Nat) (_hq : q < L.length) (h : iz L q ≠ iz M q) : L ≠ M := fun e => h (by rw [e])
theorem ints_eq {L M : List Int} (hl : L.length = M.length) (h : ∀ j, j < L.length → iz L j = iz M j) : L = M :=
 List.ext_getElem hl fun i h1 h2 => by
  have := h i h1
  unfold iz at this
  rw [List.getD_eq_getElem?_getD, List.getD_eq_getElem?_getD, List.getElem?_eq_getElem h1, List.getElem?_eq_getElem h2] at this
  exact this

set_option maxRecDepth 100000 in
set_option maxHeartbeats 2000000 in
theorem ints72 (v v' : Value) (L M : List Int) (w : World) (h : SlI w v L) (h' : SlI w v' M) :
  Calls Tryz.prog 72 #[v, v'] w fun e w' => Say e (L = M) ∧ Below w.heap.size w w' := by
 obtain ⟨a, cap, rfl, hl, hc⟩ := h
 obtain ⟨a', cap', rfl, hl', hc'⟩ := h'
 have HC := Lib.hid hc
 have HC' := Lib.hid hc'
 clear hc hc'
 by_cases hnm : L.length = M.length
 ·have HN : Hid (∀ q, q < L.length → iz L q ≠ iz M q → ¬ L = M) := Lib.hid ints_ne
  have HE : Hid ((∀ j, j < L.length → iz L j = iz M j) → L = M) := Lib.hid (ints_eq hnm)
  generalize (L = M) = RR at HN HE ⊢
  obtain ⟨n, hn⟩ : ∃ n, L.length = n := ⟨_, rfl⟩
  rw [← hnm] at HC' hl' ⊢
  rw [hn] at HC HC' hl hl' HN HE ⊢
  clear hn hnm
  go_enter Tryz.func72, Tryz.ntmps72
  go_wp2_with fail
  go_loopw [5] (fun i wr => ∃ q : Nat, q ≤ n ∧ i = .int .i64 q ∧ Below w.heap.size w wr ∧ ∀ j, j < q → iz L j = iz M j) (fun i _ => n - (intOf i).toNat)
  case atStart => exact ⟨0, Nat.zero_le _, rfl, Below.refl _ _, by simp⟩
  case round =>
   obtain ⟨q, hq, rfl, hbel, hall⟩ := hrel
   have HL := Lib.hid hall
   clear hall
   by_cases hlt : q < n
   ·obtain ⟨b, off, rfl, c0⟩ := HC.out q hlt
    obtain ⟨b', off', rfl, c1⟩ := HC'.out q hlt
    replace c0 := keep_cell hbel c0
    replace c1 := keep_cell hbel c1
    have HB := Lib.hid hbel
    clear hbel
    have j1 : (q : Int) < (n : Int) := by omega
    obtain ⟨x, hx⟩ : ∃ x, iz L q = x := ⟨_, rfl⟩
    obtain ⟨y, hy⟩ : ∃ y, iz M q = y := ⟨_, rfl⟩
    rw [hx] at c0
    rw [hy] at c1
    have HX := Lib.hid hx
    have HY := Lib.hid hy
    clear hx hy
    have j2 : wrap64 ((q : Int) + 1) = (q : Int) + 1 := w64 _ (by omega)
    by_cases hxy : x = y
    ·subst hxy
     go_wp2_with fail
     go_quiet (fail)
     go_wp2
     refine ⟨⟨q + 1, hlt, by simp, below_drewN HB.out _, fun j hj => ?_⟩, by simp [intOf]; omega⟩
     rcases Nat.lt_or_ge j q with h | h
     ·exact HL.out j h
     ·obtain rfl : j = q := by omega
      rw [HX.out, HY.out]
    ·have j3 : (x != y) = true := by simp [hxy]
     go_wp2_with fail
     go_quiet (fail)
     go_wp2
     go_ret
     exact ⟨say_no (HN.out q hlt (by rw [HX.out, HY.out]; exact hxy)), below_drewN HB.out _⟩
   ·have j1 : ¬ (q : Int) < (n : Int) := by omega
    go_wp2
    go_ret
    exact ⟨say_yes (HE.out (fun j hj => HL.out j (by omega))), hbel⟩
 ·have hne : ¬ L = M := fun e => hnm (by rw [e])
  have HN := Lib.hid hne
  clear hne
  generalize L.length = n at hnm hl HC ⊢
  generalize M.length = m at hnm hl' HC' ⊢
  have j1 : ¬ (n : Int) = (m : Int) := by omega
  go_enter Tryz.func72, Tryz.ntmps72
  go_wp2
  go_ret
  exact ⟨say_no HN.out, Below.refl _ _⟩

end Go.Proofs.YtcgmmfcphfkdhaaGreat

/- Walks: the reference's numbers that rise, references, items; a bench's own numbers. -/
namespace Go.Proofs.YtcgmmfcphfkdhaaGreat
open Go Go.RowKit Go.Proofs

set_option maxRecDepth 100000 in
set_option maxHeartbeats 1000000 in
theorem rising182 (v : Value) (L : List Int) (most : Int) (w : World) (h : SlI w v L) :
  Calls Tryz.prog 182 #[v, .int .i64 most] w fun e w' => Say e (Ris L most) ∧ Below w.heap.size w w' := by
 obtain ⟨a, cap, rfl, hl, hc⟩ := h
 have HC := Lib.hid hc
 clear hc
 have HR : Hid (∀ q, q < L.length → ¬ rOk L most q → ¬ Ris L most) := Lib.hid fun q hq hn hr => hn (hr q hq)
 have HA : Hid ((∀ j, j < L.length → rOk L most j) → Ris L most) := Lib.hid fun h => h
 generalize Ris L most = RR at HR HA ⊢
 obtain ⟨n, hn⟩ : ∃ n, L.length = n := ⟨_, rfl⟩
 rw [hn] at HC hl HR HA ⊢
 clear hn
 go_enter Tryz.func182, Tryz.ntmps182
 go_wp2_with fail
 go_loopw [5] (fun i wr => ∃ q : Nat, q ≤ n ∧ i = .int .i64 q ∧ Below w.heap.size w wr ∧ ∀ j, j < q → rOk L most j) (fun i _ => n - (intOf i).toNat)
 case atStart => exact ⟨0, Nat.zero_le _, rfl, Below.refl _ _, by simp⟩
 case round =>
  obtain ⟨q, hq, rfl, hbel, hall⟩ := hrel
  have HL := Lib.hid hall
  clear hall
  by_cases hlt : q < n
  ·obtain ⟨b, off, rfl, c0⟩ := HC.out q hlt
   have c1 := fun h : 0 < q => HC.out (q - 1) (by omega)
   replace c0 := keep_cell hbel c0
   have j1 : (q : Int) < (n : Int) := by omega
   have NX : Hid ((¬ (1 ≤ iz L q ∧ iz L q ≤ most ∧ (0 < q → iz L (q - 1) < iz L q))) → ¬ RR) := Lib.hid fun h => HR.out q hlt h
   have YS : Hid ((1 ≤ iz L q ∧ iz L q ≤ most ∧ (0 < q → iz L (q - 1) < iz L q)) → rOk L most q) := Lib.hid fun h => h
   obtain ⟨x, hx⟩ : ∃ x, iz L q = x := ⟨_, rfl⟩
   rw [hx] at c0 NX YS
   clear hx
   have j2 : wrap64 ((q : Int) + 1) = (q : Int) + 1 := w64 _ (by omega)
   have j5 : wrap64 ((q : Int) - 1) = (q : Int) - 1 := w64 _ (by omega)
   by_cases h1 : x < 1
   ·have HB := Lib.hid hbel
    clear hbel c1
    go_wp2_with fail
    go_quiet (fail)
    go_wp2
    go_ret
    exact ⟨say_no (NX.out (by omega)), below_drewN HB.out _⟩
   ·have d1 : decide (x < 1) = false := decide_eq_false h1
    have H1 := Lib.hid h1
    clear h1
    by_cases h2 : x > most
    ·have HB := Lib.hid hbel
     clear hbel c1
     go_wp2_with fail
     go_quiet (fail)
     go_wp2
     go_ret
     exact ⟨say_no (NX.out (by omega)), below_drewN HB.out _⟩
    ·have d2 : decide (x > most) = false := decide_eq_false h2
     have H2 := Lib.hid h2
     clear h2
     by_cases h3 : 0 < q
     ·obtain ⟨b', off', hbb, c2⟩ := c1 h3
      obtain ⟨rfl, rfl⟩ : b = b' ∧ off = off' := by cases hbb; exact ⟨rfl, rfl⟩
      clear hbb c1
      replace c2 := keep_cell hbel c2
      obtain ⟨y, hy⟩ : ∃ y, iz L (q - 1) = y := ⟨_, rfl⟩
      rw [hy] at c2 NX YS
      clear hy
      have HB := Lib.hid hbel
      clear hbel
      have g1 : (q : Int) > 0 := by omega
      have g2 : ((q : Int) - 1).toNat = q - 1 := by omega
      have g3 : (0 : Int) ≤ (q : Int) - 1 := by omega
      have g4 : (q : Int) - 1 < (n : Int) := by omega
      by_cases h4 : x ≤ y
      ·go_wp2_with fail
       go_quiet (fail)
       go_wp2
       go_ret
       exact ⟨say_no (NX.out (by omega)), below_drewN HB.out _⟩
      ·have d4 : decide (x ≤ y) = false := decide_eq_false h4
       have H4 := Lib.hid h4
       clear h4
       go_wp2_with fail
       go_quiet (fail)
       go_wp2
       refine ⟨⟨q + 1, hlt, by simp, below_drewN HB.out _, fun j hj => ?_⟩, by simp [intOf]; omega⟩
       rcases Nat.lt_or_ge j q with h | h
       ·exact HL.out j h
       ·obtain rfl : j = q := by omega
        exact YS.out (by have := H4.out; have := H1.out; have := H2.out; omega)
     ·have HB := Lib.hid hbel
      clear hbel c1
      have d3 : decide ((q : Int) > 0) = false := by simp; omega
      have d5 : decide (0 < q) = false := by simp; omega
      have H3 := Lib.hid h3
      clear h3
      go_wp2_with fail
      go_quiet (fail)
      go_wp2
      refine ⟨⟨q + 1, hlt, by simp, below_drewN HB.out _, fun j hj => ?_⟩, by simp [intOf]; omega⟩
      have := H3.out
      obtain rfl : j = q := by omega
      exact YS.out (by have := H1.out; have := H2.out; omega)
  ·have j1 : ¬ (q : Int) < (n : Int) := by omega
   go_wp2
   go_ret
   exact ⟨say_yes (HA.out (fun j hj => HL.out j (by omega))), hbel⟩

set_option maxHeartbeats 1000000 in
theorem ref110 (b n : Int) (w : World) : Calls Tryz.prog 110 #[rfv b n] w fun e w' => e = .returned (.bool (vRf b n)) ∧ Below w.heap.size w w' := by
 have b0 : Below w.heap.size w (w.alloc (.cells #[.int .i64 b, .int .i64 n] 31)) := (Below.refl _ _).alloc (Nat.le_refl _) _
 unfold vRf wi
 go_enter Tryz.func110, Tryz.ntmps110
 go_wp2
 all_goals go_ret
 all_goals refine ⟨?_, b0⟩
 all_goals first
  | (simp [*]; done)
  | (simp [*]; omega)

set_option maxRecDepth 100000 in
set_option maxHeartbeats 4000000 in
theorem item181 (x : Nv) (w : World) (h : IV w x) : Calls Tryz.prog 181 #[.agg x.itm] w fun e w' => e = .returned (.bool (vRc x.N.X)) ∧ Below w.heap.size w w' := by
 obtain ⟨⟨aP, cP, eP, -⟩, ⟨aC, cC, eC, -⟩, ⟨aS, cS, eS, -⟩⟩ := h
 have b0 : Below w.heap.size w (w.alloc (.cells x.itm 38)) := (Below.refl _ _).alloc (Nat.le_refl _) _
 have v0 : x.itm[0]? = some (.int .i64 x.N.X.id) := rfl
 have v1 : x.itm[1]? = some (.int .i64 x.N.X.k) := rfl
 have v7 : x.itm[7]? = some (.slice aP x.N.X.P.length cP) := congrArg some eP
 have v8 : x.itm[8]? = some (.slice aC x.N.X.C.length cC) := congrArg some eC
 have v11 : x.itm[11]? = some (.slice aS x.N.X.S.length cS) := congrArg some eS
 unfold vRc wi
 generalize x.itm = V at *
 generalize x.N.X.id = p0 at *
 generalize x.N.X.k = p1 at *
 generalize x.N.X.P.length = nP at *
 generalize x.N.X.C.length = nC at *
 generalize x.N.X.S.length = nS at *
 clear eP eC eS
 go_enter Tryz.func181, Tryz.ntmps181
 go_wp2
 all_goals go_ret
 all_goals refine ⟨?_, b0⟩
 all_goals first
  | (simp [*]; done)
  | (simp [*]; omega)

def ownB (b id : Int) : Bool := (wrap64 (id - b)).tmod 8 == 0

set_option maxHeartbeats 1000000 in
theorem own183 (b id : Int) (w : World) : Calls Tryz.prog 183 #[.int .i64 b, .int .i64 id] w fun e w' => e = .returned (.bool (ownB b id)) ∧ w' = w := by
 go_enter Tryz.func183, Tryz.ntmps183
 go_wp2
 go_ret
 exact ⟨rfl, rfl⟩

end Go.Proofs.YtcgmmfcphfkdhaaGreat

/- Walks: the program's test of own numbers. -/
namespace Go.Proofs.YtcgmmfcphfkdhaaGreat
open Go Go.RowKit Go.Proofs

set_option maxHeartbeats 1000000 in
theorem foreign117 (A : Nat) (b id : Int) (w : World) (h : w.cell? ⟨A, 0, none⟩ = some (.int .i64 b)) :
  Calls Tryz.prog 117 #[.int .i64 id, .pointer (some ⟨A, 0, none⟩)] w fun e w' => e = .returned (.bool (!ownB b id)) ∧ w' = w := by
 unfold ownB
 go_enter Tryz.func117, Tryz.ntmps117
 go_wp2
 go_ret
 exact ⟨rfl, rfl⟩

set_option maxHeartbeats 1000000 in
theorem foreign118 (F A : Nat) (b id : Int) (V : Array Value) (v0 : V[0]? = some (.int .i64 id)) (w : World) (hF : w.cell? ⟨F, 0, none⟩ = some (.func (.func 117) #[] #[.pointer (some ⟨A, 0, none⟩)])) (h : w.cell? ⟨A, 0, none⟩ = some (.int .i64 b)) :
  Calls Tryz.prog 118 #[.agg V, .pointer (some ⟨F, 0, none⟩)] w fun e w' => e = .returned (.bool (!ownB b id)) ∧ Below w.heap.size w w' := by
 have b0 : Below w.heap.size w (w.alloc (.cells V 106)) := (Below.refl _ _).alloc (Nat.le_refl _) _
 have hF' := keep_cell b0 hF
 have C := foreign117 A b id _ (keep_cell b0 h)
 go_enter Tryz.func118, Tryz.ntmps118
 go_wp2_with (go_at_call 117; with_reducible refine C.mono ?_; rintro e w1 ⟨rfl, rfl⟩)
 go_ret
 exact ⟨rfl, b0⟩

def foE (b : Int) (D : List Pc) : Prop := ∃ k, k < D.length ∧ ownB b (pz D k).id = false

set_option maxRecDepth 100000 in
set_option maxHeartbeats 2000000 in
theorem index190 (v : Value) (D : List Pc) (F A : Nat) (b : Int) (w : World) (h : SlP w v D) (hF : w.cell? ⟨F, 0, none⟩ = some (.func (.func 117) #[] #[.pointer (some ⟨A, 0, none⟩)])) (hA : w.cell? ⟨A, 0, none⟩ = some (.int .i64 b)) :
  Calls Tryz.prog 190 #[v, .func (.func 118) #[] #[.pointer (some ⟨F, 0, none⟩)]] w fun e w' => ∃ i : Int, (0 ≤ i ↔ foE b D) ∧ e = .returned (.int .i64 i) ∧ Below w.heap.size w w' := by
 obtain ⟨a, cap, rfl, hl, hc⟩ := h
 have HC := Lib.hid hc
 clear hc
 have HY : Hid (∀ k, k < D.length → ownB b (pz D k).id = false → foE b D) := Lib.hid fun k hk h => ⟨k, hk, h⟩
 have HN : Hid ((∀ k, k < D.length → ownB b (pz D k).id = true) → ¬ foE b D) := Lib.hid fun h => by rintro ⟨k, hk, h2⟩; rw [h k hk] at h2; cases h2
 generalize foE b D = RR at HY HN ⊢
 obtain ⟨n, hn⟩ : ∃ n, D.length = n := ⟨_, rfl⟩
 rw [hn] at HC hl HY HN ⊢
 clear hn
 have HF := Lib.hid hF
 have HA := Lib.hid hA
 clear hF hA
 go_enter Tryz.func190, Tryz.ntmps190
 go_wp2_with fail
 go_loopw [8] (fun i wr => ∃ q : Nat, q ≤ n ∧ i = .int .i64 q ∧ Below w.heap.size w wr ∧ ∀ j, j < q → ownB b (pz D j).id = true) (fun i _ => n - (intOf i).toNat)
 case atStart => exact ⟨0, Nat.zero_le _, rfl, Below.refl _ _, by simp⟩
 case round =>
  obtain ⟨q, hq, rfl, hbel, hall⟩ := hrel
  have HL := Lib.hid hall
  clear hall
  by_cases hlt : q < n
  ·obtain ⟨bb, off, rfl, vg, vm, -, -, c0, c1, c2, c3, c4, c5, c6⟩ := HC.out q hlt
   have j1 : (q : Int) < (n : Int) := by omega
   replace c0 := keep_cell hbel c0
   replace c1 := keep_cell hbel c1
   replace c2 := keep_cell hbel c2
   replace c3 := keep_cell hbel c3
   replace c4 := keep_cell hbel c4
   replace c5 := keep_cell hbel c5
   replace c6 := keep_cell hbel c6
   have C := foreign118 F A b (pz D q).id (pcs (pz D q).id (pz D q).c (pz D q).r (pz D q).m (pz D q).s vg vm).cells rfl wr (keep_cell hbel HF.out) (keep_cell hbel HA.out)
   simp only [Value.cells] at C
   obtain ⟨p, hp⟩ : ∃ p, ownB b (pz D q).id = p := ⟨_, rfl⟩
   rw [hp] at C
   have HP := Lib.hid hp
   clear hp
   generalize (pz D q).id = x0 at c0 C
   generalize (pz D q).c = x1 at c1 C
   generalize (pz D q).r = x2 at c2 C
   generalize (pz D q).m = x3 at c3 C
   generalize (pz D q).s = x4 at c4 C
   cases p
   ·go_wp2_with (go_at_call 118; with_reducible refine C.mono ?_; rintro e w1 ⟨rfl, hb⟩; have b2 := keep_below hbel hb)
    go_ret
    exact ⟨(q : Nat), ⟨fun _ => HY.out q hlt HP.out, fun _ => by omega⟩, rfl, b2⟩
   ·go_wp2_with (go_at_call 118; with_reducible refine C.mono ?_; rintro e w1 ⟨rfl, hb⟩; have b2 := keep_below hbel hb)
    refine ⟨⟨q + 1, hlt, by simp, b2, fun j hj => ?_⟩, by simp [intOf]; omega⟩
    rcases Nat.lt_or_ge j q with h | h
    ·exact HL.out j h
    ·obtain rfl : j = q := by omega
     exact HP.out
  ·have j1 : ¬ (q : Int) < (n : Int) := by omega
   go_wp2
   go_ret
   exact ⟨-1, ⟨fun h => absurd h (by omega), fun h => absurd h (HN.out fun j hj => HL.out j (by omega))⟩, rfl, hbel⟩

set_option maxHeartbeats 1000000 in
theorem contains119 (v : Value) (D : List Pc) (F A : Nat) (b : Int) (w : World) (h : SlP w v D) (hF : w.cell? ⟨F, 0, none⟩ = some (.func (.func 117) #[] #[.pointer (some ⟨A, 0, none⟩)])) (hA : w.cell? ⟨A, 0, none⟩ = some (.int .i64 b)) :
  Calls Tryz.prog 119 #[v, .func (.func 118) #[] #[.pointer (some ⟨F, 0, none⟩)]] w fun e w' => Say e (foE b D) ∧ Below w.heap.size w w' := by
 have C := index190 v D F A b w h hF hA
 generalize foE b D = RR at *
 clear hF hA h
 go_enter Tryz.func119, Tryz.ntmps119
 go_wp2_with (go_at_call 190; with_reducible refine C.mono ?_; rintro e w1 ⟨i, hi, rfl, hb⟩; have HI := Lib.hid hi; clear hi)
 go_ret
 exact ⟨say_is (by rw [decide_eq_true_iff]; exact HI.out), hb⟩

def Own (N : Nt) : Prop := ¬ foE N.b N.D ∧ (N.X.id = 0 ∨ ownB N.b N.X.id = true)

set_option maxRecDepth 100000 in
set_option maxHeartbeats 2000000 in
theorem own61 (x : Nv) (w : World) (h : NV w x) : Calls Tryz.prog 61 #[.agg x.arr] w fun e w' => Say e (Own x.N) ∧ Below w.heap.size w w' := by
 obtain ⟨m, hm, ⟨hm0, hm1, hm2⟩, hs38⟩ := m38.out
 obtain ⟨FS, hu40, fs0, -, -, -, -, -, -, -, -, -, -, -, -, -, fs14, fs15⟩ := f40.out
 have nb := NB.new w x.arr 40
 have v0 : x.arr[0]? = some (.int .i64 x.N.b) := rfl
 have v16 : x.arr[16]? = some x.uD := rfl
 have v17 : x.arr[17]? = some (.int .i64 x.N.X.id) := rfl
 have b0 : Below w.heap.size w (w.alloc (.cells x.arr 40)) := (Below.refl _ _).alloc (Nat.le_refl _) _
 have hD := h.D.keep b0
 have b1 := b0.alloc b0.size (.cells #[.func (.func 117) #[] #[.pointer (some ⟨w.heap.size, 0, none⟩)]] 163)
 have k1 := (Below.refl _ (w.alloc (.cells x.arr 40))).alloc (Nat.le_refl _) (.cells #[.func (.func 117) #[] #[.pointer (some ⟨w.heap.size, 0, none⟩)]] 163)
 have nF := (nb1 w (.cells x.arr 40) #[.func (.func 117) #[] #[.pointer (some ⟨w.heap.size, 0, none⟩)]] 163).c (k := 0) (v := .func (.func 117) #[] #[.pointer (some ⟨w.heap.size, 0, none⟩)]) rfl
 have cA := (nb.keep k1).c v0
 have c17 := (nb.keep k1).c v17
 have C := Lib.hid (contains119 x.uD x.N.D (w.heap.size + 1) w.heap.size x.N.b _ (hD.keep k1) nF cA)
 have NF := Lib.hid nF
 have CA := Lib.hid cA
 have C17 := Lib.hid c17
 clear nF cA c17
 have hR : Hid (Own x.N ↔ ¬ foE x.N.b x.N.D ∧ (x.N.X.id = 0 ∨ ownB x.N.b x.N.X.id = true)) := Lib.hid Iff.rfl
 have C2 := Lib.hid (fun A W h => foreign117 A x.N.b x.N.X.id W h)
 clear h hD nb hm
 generalize Own x.N = RR at *
 generalize foE x.N.b x.N.D = FE at *
 generalize x.arr = V at *
 generalize x.uD = uD at *
 generalize ownB x.N.b x.N.X.id = ob at *
 generalize x.N.b = b at *
 generalize x.N.X.id = id at *
 have B1 := Lib.hid b1
 clear b1 b0 k1
 go_enter Tryz.func61, Tryz.ntmps61
 go_wp2_with fail
 refine C.out.mono ?_
 rintro e w1 ⟨⟨r, hr, rfl⟩, hb⟩
 have HR2 := Lib.hid hr
 have qF := keep_cell hb NF.out
 have qA := keep_cell hb CA.out
 have q17 := keep_cell hb C17.out
 have HB := Lib.hid (B1.out.trans (hb.mono B1.out.size))
 clear hr hb C NF CA C17 v0 v16 v17
 have C3 := C2.out _ _ qA
 clear C2 qA
 cases r
 ·by_cases hz : id = 0
  ·have j : (id == 0) = true := by simp [hz]
   have HZ := Lib.hid hz
   clear hz
   go_wp2_with (go_at_call 117; with_reducible refine C3.mono ?_; rintro e w1 ⟨rfl, rfl⟩)
   go_ret
   exact ⟨say_yes (hR.out.2 ⟨fun h => by have := HR2.out.2 h; simp at this, .inl HZ.out⟩), HB.out⟩
  ·have j : (id == 0) = false := by simp [hz]
   have HZ := Lib.hid hz
   clear hz
   go_wp2_with (go_at_call 117; with_reducible refine C3.mono ?_; rintro e w1 ⟨rfl, rfl⟩)
   go_ret
   refine ⟨say_is ?_, HB.out⟩
   rw [hR.out]
   have h1 : ¬ FE := fun h => by have := HR2.out.2 h; simp at this
   have h2 := HZ.out
   simp [h1, h2]
 ·go_wp2_with fail
  go_ret
  exact ⟨say_no fun h => (hR.out.1 h).1 (HR2.out.1 (by simp)), HB.out⟩

end Go.Proofs.YtcgmmfcphfkdhaaGreat

/- Walks: lists of pieces that are valid and rise, the program's and the reference's. -/
namespace Go.Proofs.YtcgmmfcphfkdhaaGreat
open Go Go.RowKit Go.Proofs

def iv (L : List Int) : List Value := L.map (Value.int .i64)

theorem pushI {base g : Nat} {n : Int} {W : World} {e : Value} {E : List Int} (ty : TypeId) (h : W.ownsRow base 3 1 e E.length (iv E)) (hb : base ≤ W.heap.size) (hc : W.cell? ⟨g, 0, none⟩ = some (.int .i64 n)) (hl : E.length ≤ 1000000) :
  ∃ e' W', (Builtin.append_ #[32, 32] ty #[e, .slice (some ⟨g, 0, none⟩) 1 1]).run Tryz.prog W = .ok e' W' ∧ W'.ownsRow base 3 1 e' (E ++ [n]).length (iv (E ++ [n])) ∧ Below base W W' := by
 obtain ⟨i0, hi, hz0, hz1, hz2⟩ := info_parts info3
 obtain ⟨e', W', r1, r2, r3, -, r5⟩ := run_append_own_at (P := Tryz.prog) W base 32 ty 3 i0 (.int .i64 0) 1 8 Tryz.underlying32 hi hz0 hz1 hz2 rfl (by decide) e E.length _ h ⟨g, 0, none⟩ 1 1 [.int .i64 n] rfl (fun j z hz => by
   rw [Addr.add_lit]
   cases j with
   | zero => simp only [List.getElem?_cons_zero, Option.some.injEq] at hz; rw [← hz]; exact hc
   | succ j => simp at hz) (fun z hz => by
   simp only [List.mem_cons, List.not_mem_nil, or_false] at hz
   rw [hz]; rfl) (by unfold maxLen; omega) (by omega) hb
 refine ⟨e', W', r1, by simpa [iv] using r2, (Below.refl base W).grown r3 hb (fun j hj => (h.lt j hj).1)⟩

theorem own_SlI {w : World} {base : Nat} {v : Value} {x : List Int} (h : w.ownsRow base 3 1 v x.length (iv x)) (hl : x.length ≤ 4611686018427387904) : SlI w v x := by
 rcases h.2 with ⟨rfl, h0⟩ | ⟨g, cap, cur, rfl, -⟩
 ·exact ⟨none, 0, by rw [h0], by omega, fun k hk => by omega⟩
 ·refine ⟨some ⟨g, 0, none⟩, cap, rfl, by omega, fun k hk => ⟨g, 0, rfl, ?_⟩⟩
  rw [Nat.zero_add, h.cellAt k (by omega)]
  simp [iv, iz, List.getD, hk]

def pOk (p : Pc) : Bool := vP p.id p.c p.r p.m p.s p.G p.M
def idsOf (D : List Pc) : List Int := D.map Pc.id
def Dat (D : List Pc) : Prop := (∀ j, j < D.length → pOk (pz D j) = true) ∧ Ris (idsOf D) 65535

theorem ids_len (D : List Pc) : (idsOf D).length = D.length := by unfold idsOf; rw [List.length_map]
theorem ids_at (D : List Pc) (k : Nat) (h : k < D.length) : iz (idsOf D) k = (pz D k).id := by
 unfold iz idsOf pz
 rw [List.getD_eq_getElem?_getD, List.getD_eq_getElem?_getD, List.getElem?_map, List.getElem?_eq_getElem h]
 rfl
theorem ids_take (D : List Pc) (q : Nat) (h : q < D.length) : idsOf (D.take (q + 1)) = idsOf (D.take q) ++ [(pz D q).id] := by
 unfold idsOf pz
 rw [List.getD_eq_getElem?_getD, List.take_add_one, List.map_append, List.getElem?_eq_getElem h]
 rfl

set_option maxRecDepth 100000 in
set_option maxHeartbeats 4000000 in
theorem data184 (v : Value) (D : List Pc) (hD : D.length ≤ 1000) (w : World) (h : SlP w v D) :
  Calls Tryz.prog 184 #[v] w fun e w' => Say e (Dat D) ∧ Below w.heap.size w w' := by
 obtain ⟨a, cap, rfl, hl, hc⟩ := h
 have HC := Lib.hid hc
 clear hc
 have HR : Hid (∀ q, q < D.length → pOk (pz D q) = false → ¬ Dat D) := Lib.hid fun q hq hn hr => by have := hr.1 q hq; rw [hn] at this; cases this
 have HA : Hid ((∀ j, j < D.length → pOk (pz D j) = true) → (Ris (idsOf D) 65535 ↔ Dat D)) := Lib.hid fun h => ⟨fun k => ⟨h, k⟩, fun k => k.2⟩
 have HT := Lib.hid (fun q (hq : q < D.length) => ids_take D q hq)
 have HTL : Hid (∀ q, q ≤ D.length → (idsOf (D.take q)).length = q) := Lib.hid fun q hq => by rw [ids_len, List.length_take]; omega
 have HD : Hid (D.take D.length = D) := Lib.hid List.take_length
 generalize Dat D = RR at HR HA ⊢
 obtain ⟨n, hn⟩ : ∃ n, D.length = n := ⟨_, rfl⟩
 have H1000 := Lib.hid hD
 clear hD
 rw [hn] at HC hl HR HA HT HTL HD H1000 ⊢
 clear hn
 go_enter Tryz.func184, Tryz.ntmps184
 go_wp2_with fail
 go_loopw [3, 8] (fun s i wr => ∃ q : Nat, q ≤ n ∧ i = .int .i64 q ∧ Hid (wr.ownsRow w.heap.size 3 1 s (idsOf (D.take q)).length (iv (idsOf (D.take q)))) ∧ Hid (Below w.heap.size w wr) ∧ ∀ j, j < q → pOk (pz D j) = true) (fun _ i _ => n - (intOf i).toNat)
 case atStart => exact ⟨0, Nat.zero_le _, rfl, Lib.hid (World.ownsRow_nil _ _ _ _), Lib.hid (Below.refl _ _), by simp⟩
 case round =>
  obtain ⟨q, hq, rfl, ho, hbel, hall⟩ := hrel
  have HL := Lib.hid hall
  clear hall
  by_cases hlt : q < n
  ·obtain ⟨bb, off, rfl, vg, vm, hg, hm, c0, c1, c2, c3, c4, c5, c6⟩ := HC.out q hlt
   have j1 : (q : Int) < (n : Int) := by omega
   replace c0 := keep_cell hbel.out c0
   replace c1 := keep_cell hbel.out c1
   replace c2 := keep_cell hbel.out c2
   replace c3 := keep_cell hbel.out c3
   replace c4 := keep_cell hbel.out c4
   replace c5 := keep_cell hbel.out c5
   replace c6 := keep_cell hbel.out c6
   obtain ⟨x, hx⟩ : ∃ x, pz D q = x := ⟨_, rfl⟩
   rw [hx] at hg hm c0 c1 c2 c3 c4
   have HX := Lib.hid hx
   clear hx
   obtain ⟨x0, x1, x2, x3, x4, G, M⟩ := x
   simp only at hg hm c0 c1 c2 c3 c4
   have hal : Below wr.heap.size wr (wr.alloc (.cells #[.int .i64 x0, .int .i64 x1, .int .i64 x2, .int .i64 x3, .int .i64 x4, vg, vm] 106)) := (Below.refl _ _).alloc (Nat.le_refl _) _
   have hb1 := Lib.hid (hbel.out.trans (hal.mono hbel.out.size))
   have ho1 := Lib.hid (own_keep ho.out hal)
   have C := Lib.hid (validPiece_any x0 x1 x2 x3 x4 vg vm G M _ (hg.keep hb1.out) (hm.keep hb1.out))
   obtain ⟨p, hp⟩ : ∃ p, vP x0 x1 x2 x3 x4 G M = p := ⟨_, rfl⟩
   rw [hp] at C
   have HP : Hid (pOk (pz D q) = p) := Lib.hid (by rw [HX.out]; exact hp)
   have nb := Lib.hid (NB.new wr #[.int .i64 x0, .int .i64 x1, .int .i64 x2, .int .i64 x3, .int .i64 x4, vg, vm] 106)
   obtain ⟨⟨ga, gc, rfl, -⟩, ⟨ma, mc, rfl, -⟩⟩ := And.intro hg hm
   clear hp hg hm hal ho hbel
   go_wp2_with fail
   refine C.out.mono ?_
   rintro e w1 ⟨rfl, hb⟩
   have h0 := (nb.out.keep hb).c (k := 0) (v := .int .i64 x0) rfl
   have hb2 := hb1.out.trans (hb.mono hb1.out.size)
   have ho2 := own_keep ho1.out hb
   clear C nb hb1 ho1 hb c0 c1 c2 c3 c4 c5 c6
   cases p
   ·have HB2 := Lib.hid hb2
    clear hb2 ho2 h0
    go_wp2_with fail
    go_ret
    exact ⟨say_no (HR.out q hlt HP.out), HB2.out⟩
   ·have hal2 : Below w1.heap.size w1 (w1.alloc (.cells #[.int .i64 x0] 3)) := (Below.refl _ _).alloc (Nat.le_refl _) _
    have hb3 := hb2.trans (hal2.mono hb2.size)
    obtain ⟨e', w3, r1, o3, b3⟩ := pushI (g := w1.heap.size) (n := x0) 32 (own_keep ho2 hal2) hb3.size (by simp) (by rw [HTL.out q hq]; have := H1000.out; omega)
    have hfin := Lib.hid (And.intro o3 (hb3.trans b3))
    clear hb3 hal2 ho2 hb2 o3 b3
    have jw : wrap64 ((q : Int) + 1) = (q : Int) + 1 := w64 _ (by omega)
    go_wp2_with (at_builtin; refine Lib.wpList_append_run _ rfl _ _ _ _ rfl _ _ rfl rfl _ _ r1 ?_)
    have e1 : idsOf (D.take (q + 1)) = idsOf (D.take q) ++ [x0] := by rw [HT.out q hlt, HX.out]
    refine ⟨⟨q + 1, hlt, by simp, by rw [e1]; exact Lib.hid hfin.out.1, Lib.hid hfin.out.2, fun j hj => ?_⟩, by simp [intOf]; omega⟩
    rcases Nat.lt_or_ge j q with h | h
    ·exact HL.out j h
    ·obtain rfl : j = q := by omega
     exact HP.out
  ·have j1 : ¬ (q : Int) < (n : Int) := by omega
   obtain rfl : q = n := by omega
   have hN := HD.out
   rw [hN] at ho
   have hs := own_SlI ho.out (by have h1 := HTL.out q hq; rw [hN] at h1; rw [h1]; have := H1000.out; omega)
   have C := Lib.hid (rising186 _ (idsOf D) 65535 (by omega) (by omega) wr hs)
   have HA2 := Lib.hid (HA.out fun j hj => HL.out j hj)
   generalize Ris (idsOf D) 65535 = RS at C HA2
   clear HA hs ho hN
   go_wp2_with fail
   refine C.out.mono ?_
   rintro e w1 ⟨⟨r, hr, rfl⟩, hb⟩
   have HRR := Lib.hid hr
   have HBB := Lib.hid hb
   clear hr hb C
   go_wp2_with fail
   go_ret
   exact ⟨say_is (HRR.out.trans HA2.out), hbel.out.trans (HBB.out.mono hbel.out.size)⟩

end Go.Proofs.YtcgmmfcphfkdhaaGreat

/- Walks: lists of pieces, the reference's; equal pieces. -/
namespace Go.Proofs.YtcgmmfcphfkdhaaGreat
open Go Go.RowKit Go.Proofs

def Giv (D : List Pc) : Prop := ∀ j, j < D.length → pOk (pz D j) = true ∧ (0 < j → (pz D (j - 1)).id < (pz D j).id)

theorem giv_dat (D : List Pc) : Giv D ↔ Dat D := by
 have hid : ∀ j, j < D.length → pOk (pz D j) = true → 1 ≤ (pz D j).id ∧ (pz D j).id ≤ 65535 := by
  intro j _ h
  unfold pOk vP wi at h
  simp only [Bool.and_eq_true, decide_eq_true_iff] at h
  omega
 constructor
 ·intro h
  refine ⟨fun j hj => (h j hj).1, fun j hj => ?_⟩
  rw [ids_len] at hj
  have h1 := hid j hj (h j hj).1
  refine ⟨by rw [ids_at D j hj]; exact h1.1, by rw [ids_at D j hj]; exact h1.2, fun h0 => ?_⟩
  rw [ids_at D j hj, ids_at D (j - 1) (by omega)]
  exact (h j hj).2 h0
 ·rintro ⟨h1, h2⟩ j hj
  refine ⟨h1 j hj, fun h0 => ?_⟩
  have := (h2 j (by rw [ids_len]; exact hj)).2.2 h0
  rwa [ids_at D j hj, ids_at D (j - 1) (by omega)] at this

set_option maxRecDepth 100000 in
set_option maxHeartbeats 2000000 in
theorem given180 (v : Value) (D : List Pc) (w : World) (h : SlP w v D) :
  Calls Tryz.prog 180 #[v] w fun e w' => Say e (Dat D) ∧ Below w.heap.size w w' := by
 rw [show Dat D = Giv D from propext (giv_dat D).symm]
 obtain ⟨a, cap, rfl, hl, hc⟩ := h
 have HC := Lib.hid hc
 clear hc
 have HR : Hid (∀ q, q < D.length → ¬ (pOk (pz D q) = true ∧ (0 < q → (pz D (q - 1)).id < (pz D q).id)) → ¬ Giv D) := Lib.hid fun q hq hn hr => hn (hr q hq)
 have HA : Hid ((∀ j, j < D.length → pOk (pz D j) = true ∧ (0 < j → (pz D (j - 1)).id < (pz D j).id)) → Giv D) := Lib.hid fun h => h
 generalize Giv D = RR at HR HA ⊢
 obtain ⟨n, hn⟩ : ∃ n, D.length = n := ⟨_, rfl⟩
 rw [hn] at HC hl HR HA ⊢
 clear hn
 go_enter Tryz.func180, Tryz.ntmps180
 go_wp2_with fail
 go_loopw [3] (fun i wr => ∃ q : Nat, q ≤ n ∧ i = .int .i64 q ∧ Below w.heap.size w wr ∧ ∀ j, j < q → pOk (pz D j) = true ∧ (0 < j → (pz D (j - 1)).id < (pz D j).id)) (fun i _ => n - (intOf i).toNat)
 case atStart => exact ⟨0, Nat.zero_le _, rfl, Below.refl _ _, by simp⟩
 case round =>
  obtain ⟨q, hq, rfl, hbel, hall⟩ := hrel
  have HL := Lib.hid hall
  clear hall
  by_cases hlt : q < n
  ·obtain ⟨bb, off, rfl, vg, vm, hg, hm, c0, c1, c2, c3, c4, c5, c6⟩ := HC.out q hlt
   have c7 := fun h : 0 < q => HC.out (q - 1) (by omega)
   have j1 : (q : Int) < (n : Int) := by omega
   have j2 : wrap64 ((q : Int) + 1) = (q : Int) + 1 := w64 _ (by omega)
   have j5 : wrap64 ((q : Int) - 1) = (q : Int) - 1 := w64 _ (by omega)
   have G0 := grow_cell (keep_cell hbel c0)
   have G1 := grow_cell (keep_cell hbel c1)
   have G2 := grow_cell (keep_cell hbel c2)
   have G3 := grow_cell (keep_cell hbel c3)
   have G4 := grow_cell (keep_cell hbel c4)
   have G5 := grow_cell (keep_cell hbel c5)
   have G6 := grow_cell (keep_cell hbel c6)
   have NX := Lib.hid (HR.out q hlt)
   obtain ⟨x, hx⟩ : ∃ x, pz D q = x := ⟨_, rfl⟩
   rw [hx] at hg hm G0 G1 G2 G3 G4 NX
   have HX := Lib.hid hx
   clear hx c0 c1 c2 c3 c4 c5 c6
   obtain ⟨x0, x1, x2, x3, x4, G, M⟩ := x
   have C : ∀ x : Grow wr, Calls Tryz.prog 239 #[pcs x0 x1 x2 x3 x4 vg vm] x.w fun e w' => e = .returned (.bool (vP x0 x1 x2 x3 x4 G M)) ∧ Below x.w.heap.size x.w w' := fun x => refValidPiece_any x0 x1 x2 x3 x4 vg vm G M x.w ((hg.keep hbel).keep x.b) ((hm.keep hbel).keep x.b)
   obtain ⟨p, hp⟩ : ∃ p, vP x0 x1 x2 x3 x4 G M = p := ⟨_, rfl⟩
   rw [hp] at C
   have HP : Hid (pOk ⟨x0, x1, x2, x3, x4, G, M⟩ = p) := Lib.hid hp
   obtain ⟨⟨ga, gc, rfl, -⟩, ⟨ma, mc, rfl, -⟩⟩ := And.intro hg hm
   generalize G.length = gn at *
   generalize M.length = mn at *
   clear hp hg hm
   have HB := Lib.hid hbel
   clear hbel
   cases p
   ·clear c7
    go_wp2_with fail
    refine wp_region_grow (by kernel_rfl) (by kernel_rfl) ?_
    repeat (go_big_quiet_step ((go_at_call 239; with_reducible exact calls_grow (C _))))
    refine wpQuiet_nil ?_
    rintro w2 ⟨x, rfl⟩
    have HB2 := Lib.hid (HB.out.trans (x.b.mono HB.out.size))
    clear C G0 G1 G2 G3 G4 G5 G6
    generalize x.w = w2 at *
    go_wp2_with fail
    go_ret
    exact ⟨say_no (NX.out fun h => by have := h.1; rw [HP.out] at this; simp at this), HB2.out⟩
   ·by_cases h3 : 0 < q
    ·obtain ⟨b', off', hbb, -, -, -, -, k0, -⟩ := c7 h3
     obtain ⟨rfl, rfl⟩ : bb = b' ∧ off = off' := by cases hbb; exact ⟨rfl, rfl⟩
     have K0 := grow_cell (keep_cell HB.out k0)
     clear hbb c7 k0
     obtain ⟨y, hy⟩ : ∃ y, (pz D (q - 1)).id = y := ⟨_, rfl⟩
     rw [hy] at K0 NX
     have HY := Lib.hid hy
     clear hy
     have g1 : (q : Int) > 0 := by omega
     have g2 : ((q : Int) - 1).toNat = q - 1 := by omega
     have g3 : (0 : Int) ≤ (q : Int) - 1 := by omega
     have g4 : (q : Int) - 1 < (n : Int) := by omega
     by_cases h4 : x0 ≤ y
     ·go_wp2_with fail
      refine wp_region_grow (by kernel_rfl) (by kernel_rfl) ?_
      repeat (go_big_quiet_step ((go_at_call 239; with_reducible exact calls_grow (C _))))
      refine wpQuiet_nil ?_
      rintro w2 ⟨x, rfl⟩
      have HB2 := Lib.hid (HB.out.trans (x.b.mono HB.out.size))
      clear C G0 G1 G2 G3 G4 G5 G6
      generalize x.w = w2 at *
      go_wp2_with fail
      go_ret
      exact ⟨say_no (NX.out fun h => by have := h.2 h3; omega), HB2.out⟩
     ·have d4 : decide (x0 ≤ y) = false := decide_eq_false h4
      have H4 := Lib.hid h4
      clear h4
      go_wp2_with fail
      refine wp_region_grow (by kernel_rfl) (by kernel_rfl) ?_
      repeat (go_big_quiet_step ((go_at_call 239; with_reducible exact calls_grow (C _))))
      refine wpQuiet_nil ?_
      rintro w2 ⟨x, rfl⟩
      have HB2 := Lib.hid (HB.out.trans (x.b.mono HB.out.size))
      clear C G0 G1 G2 G3 G4 G5 G6
      generalize x.w = w2 at *
      go_wp2_with fail
      refine ⟨⟨q + 1, hlt, by simp, HB2.out, fun j hj => ?_⟩, by simp [intOf]; omega⟩
      rcases Nat.lt_or_ge j q with h | h
      ·exact HL.out j h
      ·obtain rfl : j = q := by omega
       rw [HX.out, HY.out]
       exact ⟨HP.out, fun _ => by have := H4.out; omega⟩
    ·have d3 : decide ((q : Int) > 0) = false := by simp; omega
     have d5 : decide (0 < q) = false := by simp; omega
     have H3 := Lib.hid h3
     clear h3 c7
     go_wp2_with fail
     refine wp_region_grow (by kernel_rfl) (by kernel_rfl) ?_
     repeat (go_big_quiet_step ((go_at_call 239; with_reducible exact calls_grow (C _))))
     refine wpQuiet_nil ?_
     rintro w2 ⟨x, rfl⟩
     have HB2 := Lib.hid (HB.out.trans (x.b.mono HB.out.size))
     clear C G0 G1 G2 G3 G4 G5 G6
     generalize x.w = w2 at *
     go_wp2_with fail
     refine ⟨⟨q + 1, hlt, by simp, HB2.out, fun j hj => ?_⟩, by simp [intOf]; omega⟩
     rcases Nat.lt_or_ge j q with h | h
     ·exact HL.out j h
     ·obtain rfl : j = q := by omega
      rw [HX.out]
      exact ⟨HP.out, fun h => absurd h H3.out⟩
  ·have j1 : ¬ (q : Int) < (n : Int) := by omega
   go_wp2
   go_ret
   exact ⟨say_yes (HA.out (fun j hj => HL.out j (by omega))), hbel⟩

end Go.Proofs.YtcgmmfcphfkdhaaGreat
