/- The abstract machine, part GrN6. -/
import Derived.Test.YtcgmmfcphfkdhaaGreatGrN5
/- Walks: the reference's used. -/
namespace Go.Proofs.YtcgmmfcphfkdhaaGreat
open Go Go.RowKit Go.Proofs

def z0 : Nv := ⟨⟨0, 0, 0, 0, 0, 0, 0, 0, 0, 0, 0, false, 0, 0, [], [], [], It0⟩, .slice none 0 0, .slice none 0 0, .slice none 0 0, .slice none 0 0, .slice none 0 0, .slice none 0 0⟩
theorem z0_nv (w : World) : NV w z0 := ⟨sli_nil _, sli_nil _, slp_nil _, ⟨sli_nil _, sli_nil _, sls_nil _⟩⟩

def us0 (_ : Nv) : Nv := z0
def us1 (x : Nv) : Nv := { z0 with N := { z0.N with D := x.N.D }, uD := x.uD }
def us2 (x : Nv) : Nv := { z0 with N := { z0.N with X := x.N.X }, iP := x.iP, iC := x.iC, iS := x.iS }
def us3 (x : Nv) : Nv := { z0 with N := { z0.N with Q := x.N.Q }, uQ := x.uQ }
def us4 (x : Nv) : Nv := { z0 with N := { z0.N with P := x.N.P, t := x.N.t }, uP := x.uP }
def us5 (x : Nv) : Nv := { z0 with N := { z0.N with rb := x.N.rb, rn := x.N.rn } }
def us6 (x : Nv) : Nv := { z0 with N := { z0.N with q := x.N.q, p := x.N.p, o := x.N.o, sh := x.N.sh, bk := x.N.bk } }
def us7 (x : Nv) : Nv := { z0 with N := { z0.N with q := x.N.q } }
def us8 (x : Nv) : Nv := { z0 with N := { z0.N with p := x.N.p, D := x.N.D }, uD := x.uD }

theorem there_of {W : World} {b o n : Nat} {V : Array Value} {t : TypeId} (h : NB W b V t) (hn : o + n ≤ V.size) : W.there b o n := fun j hj => by
  refine ⟨?_, h.f _⟩
  have hs : (V[o + j]?).isSome = true := by
    rw [Array.getElem?_eq_getElem (by omega)]; rfl
  obtain ⟨v, hv⟩ := Option.isSome_iff_exists.1 hs
  rw [h.c hv]
  rfl

theorem fin179 {W : World} {b : Nat} {Z U : Array Value} (h : NB W b Z 40) (hZ : Z.size = 29) (hU : U.size = 29) (h1 : U.all (·.oneCell') = true) :
    (storeCells ⟨b, 0, none⟩ U.toList 0).run Tryz.prog W = .ok () (W.setCells b 0 U.toList) ∧ (loadVar 40 ⟨b, 0, none⟩).run Tryz.prog (W.setCells b 0 U.toList) = .ok (.agg U) (W.setCells b 0 U.toList) := by
  have ht := there_of h (o := 0) (n := U.size) (by omega)
  constructor
  · have := run_storeVar_mid (P := Tryz.prog) W b 0 40 U ht (by rw [hU]; kernel_rfl) h1
    simpa [storeVar, Tryz.sizeOf40, Value.cells, hU] using this
  · have hr := World.rangeAt_setCells_same W b 0 U.toList (by simpa using ht)
    have := nlcf (W := W.setCells b 0 U.toList) (b := b) (o := 0) U hU (fun j v hv => hr j v (by simpa using hv))
    simp only [loadVar, Sem.run_bind, Tryz.isAgg40, Result.andThen, loadCells]
    simp [this, Result.andThen, Tryz.sizeOf40]

theorem storeI {w : World} {B : Nat} {V I : Array Value} (h : NB w B V 40) (hV : V.size = 29) (hI : I.size = 12) (h1 : I.all (·.oneCell') = true) : (storeCells ⟨B, 17, none⟩ I.toList 0).run Tryz.prog w = .ok () (w.setCells B 17 I.toList) := by
  have := run_storeVar_mid (P := Tryz.prog) w B 17 38 I (there_of h (by omega)) (by rw [hI]; kernel_rfl) h1
  simpa [storeVar, Tryz.sizeOf38, Value.cells, hI] using this

set_option maxRecDepth 100000 in
theorem setI {w : World} {B : Nat} {x y : Nv} (h : NB w B y.arr 40) : NB (w.setCells B 17 x.itm.toList) B (Nv.arr { y with N := { y.N with X := x.N.X }, iP := x.iP, iC := x.iC, iS := x.iS }) 40 := by
  have h0 : NB _ B (Nv.arr { y with N := { y.N with X := { y.N.X with id := x.N.X.id } } }) 40 := h.set 17 (.int .i64 x.N.X.id)
  have h1 : NB _ B (Nv.arr { y with N := { y.N with X := { y.N.X with id := x.N.X.id, k := x.N.X.k } } }) 40 := h0.set 18 (.int .i64 x.N.X.k)
  have h2 : NB _ B (Nv.arr { y with N := { y.N with X := { y.N.X with id := x.N.X.id, k := x.N.X.k, y := x.N.X.y } } }) 40 := h1.set 19 (.int .i64 x.N.X.y)
  have h3 : NB _ B (Nv.arr { y with N := { y.N with X := { y.N.X with id := x.N.X.id, k := x.N.X.k, y := x.N.X.y, f := x.N.X.f } } }) 40 := h2.set 20 (.int .i64 x.N.X.f)
  have h4 : NB _ B (Nv.arr { y with N := { y.N with X := { y.N.X with id := x.N.X.id, k := x.N.X.k, y := x.N.X.y, f := x.N.X.f, p := x.N.X.p } } }) 40 := h3.set 21 (.int .i64 x.N.X.p)
  have h5 : NB _ B (Nv.arr { y with N := { y.N with X := { y.N.X with id := x.N.X.id, k := x.N.X.k, y := x.N.X.y, f := x.N.X.f, p := x.N.X.p, l := x.N.X.l } } }) 40 := h4.set 22 (.int .i64 x.N.X.l)
  have h6 : NB _ B (Nv.arr { y with N := { y.N with X := { y.N.X with id := x.N.X.id, k := x.N.X.k, y := x.N.X.y, f := x.N.X.f, p := x.N.X.p, l := x.N.X.l, s := x.N.X.s } } }) 40 := h5.set 23 (.int .i64 x.N.X.s)
  have h7 : NB _ B (Nv.arr { y with N := { y.N with X := { y.N.X with id := x.N.X.id, k := x.N.X.k, y := x.N.X.y, f := x.N.X.f, p := x.N.X.p, l := x.N.X.l, s := x.N.X.s } }, iP := x.iP }) 40 := h6.set 24 (x.iP)
  have h8 : NB _ B (Nv.arr { y with N := { y.N with X := { y.N.X with id := x.N.X.id, k := x.N.X.k, y := x.N.X.y, f := x.N.X.f, p := x.N.X.p, l := x.N.X.l, s := x.N.X.s } }, iP := x.iP, iC := x.iC }) 40 := h7.set 25 (x.iC)
  have h9 : NB _ B (Nv.arr { y with N := { y.N with X := { y.N.X with id := x.N.X.id, k := x.N.X.k, y := x.N.X.y, f := x.N.X.f, p := x.N.X.p, l := x.N.X.l, s := x.N.X.s, lo := x.N.X.lo } }, iP := x.iP, iC := x.iC }) 40 := h8.set 26 (.int .i64 x.N.X.lo)
  have h10 : NB _ B (Nv.arr { y with N := { y.N with X := { y.N.X with id := x.N.X.id, k := x.N.X.k, y := x.N.X.y, f := x.N.X.f, p := x.N.X.p, l := x.N.X.l, s := x.N.X.s, lo := x.N.X.lo, hi := x.N.X.hi } }, iP := x.iP, iC := x.iC }) 40 := h9.set 27 (.int .i64 x.N.X.hi)
  exact h10.set 28 (x.iS)

theorem itm_one {w : World} {x : Nv} (h : IV w x) : x.itm.all (·.oneCell') = true := by
  have h4 := sl_one h.P
  have h5 := sl_one h.C
  have h6 := sls_one h.S
  rw [Array.all_eq_true]
  intro i hi
  match i, hi with
  | 0, _ | 1, _ | 2, _ | 3, _ | 4, _ | 5, _ | 6, _ | 9, _ | 10, _ => rfl
  | 7, _ => exact h4
  | 8, _ => exact h5
  | 11, _ => exact h6
  | i + 12, hi => exact absurd hi (by show ¬ i + 12 < 12; omega)

end Go.Proofs.YtcgmmfcphfkdhaaGreat

/- Walks: the reference's used, of the kind 0. -/
namespace Go.Proofs.YtcgmmfcphfkdhaaGreat
open Go Go.RowKit Go.Proofs

theorem us0_nv {x : Nv} {w : World} (_h : NV w x) : NV w (us0 x) := z0_nv _

set_option maxRecDepth 100000 in
set_option maxHeartbeats 4000000 in
theorem used179_0 (x : Nv) (k : Int) (hk : ¬ k = 1 ∧ ¬ k = 2 ∧ ¬ k = 3 ∧ ¬ k = 4 ∧ ¬ k = 5 ∧ ¬ k = 6 ∧ ¬ k = 7 ∧ ¬ k = 8) (w : World) (h : NV w x) :
    Calls Tryz.prog 179 #[.agg x.arr, .int .i64 k] w fun e w' => e = .returned (.agg (us0 x).arr) ∧ Below w.heap.size w w' := by
  obtain ⟨m, hm, ⟨hm0, hm1, hm2⟩, hs40⟩ := m40.out
  obtain ⟨FS, hu40, fs0, fs1, fs2, fs3, fs4, fs5, fs6, fs7, fs8, fs9, fs10, fs11, fs12, fs13, fs14, fs15⟩ := f40.out
  obtain ⟨k1, k2, k3, k4, k5, k6, k7, k8⟩ := hk
  have hz := zA_run
  have hZ1 : zA.size = 29 := rfl
  have hU : zA = (us0 x).arr := rfl
  have hU1 := (us0_nv h).one
  have hU2 : (us0 x).arr.size = 29 := rfl
  have b0 := ((((Below.refl _ w).alloc (Nat.le_refl _) (.cells x.arr 40)).alloc (by simp) (.cells zA 40)).alloc (by simp; omega) (.cells (us0 x).arr 40))
  have n1 : NB (((w.alloc (.cells x.arr 40)).alloc (.cells zA 40)).alloc (.cells (us0 x).arr 40)) (w.heap.size + 1) zA 40 := (nb1 w (.cells x.arr 40) zA 40).alloc _
  have n2 : NB (((w.alloc (.cells x.arr 40)).alloc (.cells zA 40)).alloc (.cells (us0 x).arr 40)) (w.heap.size + 1 + 1) (us0 x).arr 40 := by
    have := nb1 (w.alloc (.cells x.arr 40)) (.cells zA 40) (us0 x).arr 40
    rwa [World.size_alloc] at this
  obtain ⟨F1, F2⟩ := fin179 n1 hZ1 hU2 hU1
  have l2 := n2.load (hU2.trans hm)
  have b1 := below_sets b0 (Nat.le_succ w.heap.size) (us0 x).arr.toList 0
  have hZm : zA.size = m := hm
  have l3 := l2
  have F3 := F1
  rw [← hU] at l3 F3 F2 b1
  clear n1 n2 b0 hU1 hU2 hm h
  rw [← hU]
  clear hU
  have hU : zA = zA := rfl
  generalize x.arr = V at *
  generalize zA = Z at *
  have HU := Lib.hid hU
  have B1 := Lib.hid b1
  have FF2 := Lib.hid F2
  clear hU b1 F2 l2 F1 hZ1
  go_enter Tryz.func179, Tryz.ntmps179
  go_wp2_with fail
  exact bodyPost_ret (nres_cell (fn := Tryz.f179) rfl _ (by rfl) FF2.out) rfl ⟨rfl, B1.out⟩

end Go.Proofs.YtcgmmfcphfkdhaaGreat

/- Walks: the reference's used, of the kind 1. -/
namespace Go.Proofs.YtcgmmfcphfkdhaaGreat
open Go Go.RowKit Go.Proofs

theorem us1_nv {x : Nv} {w : World} (h : NV w x) : NV w (us1 x) := ⟨sli_nil _, sli_nil _, h.D, ⟨sli_nil _, sli_nil _, sls_nil _⟩⟩

set_option maxRecDepth 100000 in
set_option maxHeartbeats 4000000 in
theorem used179_1 (x : Nv) (w : World) (h : NV w x) :
    Calls Tryz.prog 179 #[.agg x.arr, .int .i64 1] w fun e w' => e = .returned (.agg (us1 x).arr) ∧ Below w.heap.size w w' := by
  obtain ⟨m, hm, ⟨hm0, hm1, hm2⟩, hs40⟩ := m40.out
  obtain ⟨FS, hu40, fs0, fs1, fs2, fs3, fs4, fs5, fs6, fs7, fs8, fs9, fs10, fs11, fs12, fs13, fs14, fs15⟩ := f40.out
  have hz := zA_run
  have hZ1 : zA.size = 29 := rfl
  have hU : (zA.setIfInBounds 16 (x.uD)) = (us1 x).arr := rfl
  have v16 : x.arr[16]? = some (x.uD) := rfl
  have zv16 : zA[16]? = some (.slice none 0 0) := rfl
  obtain ⟨a16, c16, e16, -⟩ := h.D
  have hU1 := (us1_nv h).one
  have hU2 : (us1 x).arr.size = 29 := rfl
  have b0 := ((((Below.refl _ w).alloc (Nat.le_refl _) (.cells x.arr 40)).alloc (by simp) (.cells zA 40)).alloc (by simp; omega) (.cells (us1 x).arr 40))
  have n1 : NB (((w.alloc (.cells x.arr 40)).alloc (.cells zA 40)).alloc (.cells (us1 x).arr 40)) (w.heap.size + 1) zA 40 := (nb1 w (.cells x.arr 40) zA 40).alloc _
  have n2 : NB (((w.alloc (.cells x.arr 40)).alloc (.cells zA 40)).alloc (.cells (us1 x).arr 40)) (w.heap.size + 1 + 1) (us1 x).arr 40 := by
    have := nb1 (w.alloc (.cells x.arr 40)) (.cells zA 40) (us1 x).arr 40
    rwa [World.size_alloc] at this
  obtain ⟨F1, F2⟩ := fin179 n1 hZ1 hU2 hU1
  have l2 := n2.load (hU2.trans hm)
  have b1 := below_sets b0 (Nat.le_succ w.heap.size) (us1 x).arr.toList 0
  have hZm : zA.size = m := hm
  have l3 := l2
  have F3 := F1
  rw [← hU] at l3 F3 F2 b1
  rw [e16] at hU l3 F3 F2 b1 v16
  clear e16
  generalize x.N.D.length = n16 at *
  clear n1 n2 b0 hU1 hU2 hm h
  generalize (us1 x).arr = U at *
  generalize x.arr = V at *
  generalize zA = Z at *
  simp only [Array.toList_setIfInBounds] at F3 F2 b1
  have HU := Lib.hid hU
  have B1 := Lib.hid b1
  have FF2 := Lib.hid F2
  clear hU b1 F2 l2 F1 hZ1
  go_enter Tryz.func179, Tryz.ntmps179
  go_wp2_with fail
  exact bodyPost_ret (nres_cell (fn := Tryz.f179) rfl _ (by rfl) FF2.out) rfl ⟨by rw [HU.out], B1.out⟩

end Go.Proofs.YtcgmmfcphfkdhaaGreat

/- Walks: the reference's used, of the kind 2. -/
namespace Go.Proofs.YtcgmmfcphfkdhaaGreat
open Go Go.RowKit Go.Proofs

theorem us2_nv {x : Nv} {w : World} (h : NV w x) : NV w (us2 x) := ⟨sli_nil _, sli_nil _, slp_nil _, ⟨h.X.P, h.X.C, h.X.S⟩⟩

theorem NB.others {b c : Nat} {V : Array Value} {t : TypeId} (hn : b ≠ c) : ∀ (l : List Value) (o : Nat) (w : World), NB w b V t → NB (w.setCells c o l) b V t
  | [], _, _, h => h
  | v :: l, o, _, h => NB.others hn l (o + 1) _ (h.other v hn)

set_option maxRecDepth 100000 in
set_option maxHeartbeats 4000000 in
theorem used179_2 (x : Nv) (w : World) (h : NV w x) :
    Calls Tryz.prog 179 #[.agg x.arr, .int .i64 2] w fun e w' => e = .returned (.agg (us2 x).arr) ∧ Below w.heap.size w w' := by
  obtain ⟨m, hm, ⟨hm0, hm1, hm2⟩, hs40⟩ := m40.out
  obtain ⟨m', hm', ⟨hm0', hm1', hm2'⟩, hs38⟩ := m38.out
  obtain ⟨FS, hu40, fs0, fs1, fs2, fs3, fs4, fs5, fs6, fs7, fs8, fs9, fs10, fs11, fs12, fs13, fs14, fs15⟩ := f40.out
  have hz := zA_run
  have hZ1 : zA.size = 29 := rfl
  have hU1 := (us2_nv h).one
  have hU2 : (us2 x).arr.size = 29 := rfl
  have hI : x.itm.size = m' := (itm_size x).trans hm'
  have b0 := ((((Below.refl _ w).alloc (Nat.le_refl _) (.cells x.arr 40)).alloc (by simp) (.cells zA 40)).alloc (by simp; omega) (.cells zA 40))
  have n0 : NB (((w.alloc (.cells x.arr 40)).alloc (.cells zA 40)).alloc (.cells zA 40)) w.heap.size x.arr 40 := ((NB.new w x.arr 40).alloc _).alloc _
  have n1 : NB (((w.alloc (.cells x.arr 40)).alloc (.cells zA 40)).alloc (.cells zA 40)) (w.heap.size + 1) zA 40 := (nb1 w (.cells x.arr 40) zA 40).alloc _
  have n2 : NB (((w.alloc (.cells x.arr 40)).alloc (.cells zA 40)).alloc (.cells zA 40)) (w.heap.size + 1 + 1) z0.arr 40 := by
    have := nb1 (w.alloc (.cells x.arr 40)) (.cells zA 40) zA 40
    rwa [World.size_alloc] at this
  have lX := n0.loadX hm'
  have s1 := storeI n2 rfl (itm_size x) (itm_one h.X)
  have n3 : NB _ _ (us2 x).arr 40 := setI (x := x) n2
  have n4 := NB.others (b := w.heap.size + 1) (c := w.heap.size + 1 + 1) (by omega) x.itm.toList 17 _ n1
  have b1 := below_sets b0 (b := w.heap.size + 1 + 1) (by omega) x.itm.toList 17
  obtain ⟨W0, hW0⟩ : ∃ W0, ((w.alloc (.cells x.arr 40)).alloc (.cells zA 40)).alloc (.cells zA 40) = W0 := ⟨_, rfl⟩
  rw [hW0] at n3 n4 b1
  have s2 := s1
  rw [show (((w.alloc (.cells x.arr 40)).alloc (.cells zA 40)).alloc (.cells zA 40)).setCells (w.heap.size + 1 + 1) 17 x.itm.toList = W0.setCells (w.heap.size + 1 + 1) 17 x.itm.toList from by rw [hW0]] at s2
  obtain ⟨W3, hW3⟩ : ∃ W3, W0.setCells (w.heap.size + 1 + 1) 17 x.itm.toList = W3 := ⟨_, rfl⟩
  rw [hW3] at n3 n4 b1 s2
  obtain ⟨F1, F2⟩ := fin179 n4 hZ1 hU2 hU1
  have l3 := n3.load (hU2.trans hm)
  have b2 := below_sets b1 (Nat.le_succ w.heap.size) (us2 x).arr.toList 0
  have hsz : (us2 x).arr.size = m := hU2.trans hm
  have hZm : zA.size = m := hm
  clear s1 n0 n1 n2 n3 n4 b0 b1 hW0 hW3 hZ1 hU1 hU2 hm hm' h
  generalize (us2 x).arr = U at *
  generalize x.itm = I at *
  generalize x.arr = V at *
  generalize zA = Z at *
  have FF2 := Lib.hid F2
  have B2 := Lib.hid b2
  clear F2 b2
  go_enter Tryz.func179, Tryz.ntmps179
  go_wp2_with fail
  exact bodyPost_ret (nres_cell (fn := Tryz.f179) rfl _ (by rfl) FF2.out) rfl ⟨rfl, B2.out⟩

end Go.Proofs.YtcgmmfcphfkdhaaGreat

/- Walks: the reference's used, of the kind 3. -/
namespace Go.Proofs.YtcgmmfcphfkdhaaGreat
open Go Go.RowKit Go.Proofs

theorem us3_nv {x : Nv} {w : World} (h : NV w x) : NV w (us3 x) := ⟨sli_nil _, h.Q, slp_nil _, ⟨sli_nil _, sli_nil _, sls_nil _⟩⟩

set_option maxRecDepth 100000 in
set_option maxHeartbeats 4000000 in
theorem used179_3 (x : Nv) (w : World) (h : NV w x) :
    Calls Tryz.prog 179 #[.agg x.arr, .int .i64 3] w fun e w' => e = .returned (.agg (us3 x).arr) ∧ Below w.heap.size w w' := by
  obtain ⟨m, hm, ⟨hm0, hm1, hm2⟩, hs40⟩ := m40.out
  obtain ⟨FS, hu40, fs0, fs1, fs2, fs3, fs4, fs5, fs6, fs7, fs8, fs9, fs10, fs11, fs12, fs13, fs14, fs15⟩ := f40.out
  have hz := zA_run
  have hZ1 : zA.size = 29 := rfl
  have hU : (zA.setIfInBounds 15 (x.uQ)) = (us3 x).arr := rfl
  have v15 : x.arr[15]? = some (x.uQ) := rfl
  have zv15 : zA[15]? = some (.slice none 0 0) := rfl
  obtain ⟨a15, c15, e15, -⟩ := h.Q
  have hU1 := (us3_nv h).one
  have hU2 : (us3 x).arr.size = 29 := rfl
  have b0 := ((((Below.refl _ w).alloc (Nat.le_refl _) (.cells x.arr 40)).alloc (by simp) (.cells zA 40)).alloc (by simp; omega) (.cells (us3 x).arr 40))
  have n1 : NB (((w.alloc (.cells x.arr 40)).alloc (.cells zA 40)).alloc (.cells (us3 x).arr 40)) (w.heap.size + 1) zA 40 := (nb1 w (.cells x.arr 40) zA 40).alloc _
  have n2 : NB (((w.alloc (.cells x.arr 40)).alloc (.cells zA 40)).alloc (.cells (us3 x).arr 40)) (w.heap.size + 1 + 1) (us3 x).arr 40 := by
    have := nb1 (w.alloc (.cells x.arr 40)) (.cells zA 40) (us3 x).arr 40
    rwa [World.size_alloc] at this
  obtain ⟨F1, F2⟩ := fin179 n1 hZ1 hU2 hU1
  have l2 := n2.load (hU2.trans hm)
  have b1 := below_sets b0 (Nat.le_succ w.heap.size) (us3 x).arr.toList 0
  have hZm : zA.size = m := hm
  have l3 := l2
  have F3 := F1
  rw [← hU] at l3 F3 F2 b1
  rw [e15] at hU l3 F3 F2 b1 v15
  clear e15
  generalize x.N.Q.length = n15 at *
  clear n1 n2 b0 hU1 hU2 hm h
  generalize (us3 x).arr = U at *
  generalize x.arr = V at *
  generalize zA = Z at *
  simp only [Array.toList_setIfInBounds] at F3 F2 b1
  have HU := Lib.hid hU
  have B1 := Lib.hid b1
  have FF2 := Lib.hid F2
  clear hU b1 F2 l2 F1 hZ1
  go_enter Tryz.func179, Tryz.ntmps179
  go_wp2_with fail
  exact bodyPost_ret (nres_cell (fn := Tryz.f179) rfl _ (by rfl) FF2.out) rfl ⟨by rw [HU.out], B1.out⟩

end Go.Proofs.YtcgmmfcphfkdhaaGreat

/- Walks: the reference's used, of the kind 4. -/
namespace Go.Proofs.YtcgmmfcphfkdhaaGreat
open Go Go.RowKit Go.Proofs

theorem us4_nv {x : Nv} {w : World} (h : NV w x) : NV w (us4 x) := ⟨h.P, sli_nil _, slp_nil _, ⟨sli_nil _, sli_nil _, sls_nil _⟩⟩

set_option maxRecDepth 100000 in
set_option maxHeartbeats 4000000 in
theorem used179_4 (x : Nv) (w : World) (h : NV w x) :
    Calls Tryz.prog 179 #[.agg x.arr, .int .i64 4] w fun e w' => e = .returned (.agg (us4 x).arr) ∧ Below w.heap.size w w' := by
  obtain ⟨m, hm, ⟨hm0, hm1, hm2⟩, hs40⟩ := m40.out
  obtain ⟨FS, hu40, fs0, fs1, fs2, fs3, fs4, fs5, fs6, fs7, fs8, fs9, fs10, fs11, fs12, fs13, fs14, fs15⟩ := f40.out
  have hz := zA_run
  have hZ1 : zA.size = 29 := rfl
  have hU : ((zA.setIfInBounds 14 (x.uP)).setIfInBounds 9 (.int .i64 x.N.t)) = (us4 x).arr := rfl
  have v14 : x.arr[14]? = some (x.uP) := rfl
  have zv14 : zA[14]? = some (.slice none 0 0) := rfl
  have v9 : x.arr[9]? = some (.int .i64 x.N.t) := rfl
  have zv9 : zA[9]? = some (.int .i64 0) := rfl
  obtain ⟨a14, c14, e14, -⟩ := h.P
  have hU1 := (us4_nv h).one
  have hU2 : (us4 x).arr.size = 29 := rfl
  have b0 := ((((Below.refl _ w).alloc (Nat.le_refl _) (.cells x.arr 40)).alloc (by simp) (.cells zA 40)).alloc (by simp; omega) (.cells (us4 x).arr 40))
  have n1 : NB (((w.alloc (.cells x.arr 40)).alloc (.cells zA 40)).alloc (.cells (us4 x).arr 40)) (w.heap.size + 1) zA 40 := (nb1 w (.cells x.arr 40) zA 40).alloc _
  have n2 : NB (((w.alloc (.cells x.arr 40)).alloc (.cells zA 40)).alloc (.cells (us4 x).arr 40)) (w.heap.size + 1 + 1) (us4 x).arr 40 := by
    have := nb1 (w.alloc (.cells x.arr 40)) (.cells zA 40) (us4 x).arr 40
    rwa [World.size_alloc] at this
  obtain ⟨F1, F2⟩ := fin179 n1 hZ1 hU2 hU1
  have l2 := n2.load (hU2.trans hm)
  have b1 := below_sets b0 (Nat.le_succ w.heap.size) (us4 x).arr.toList 0
  have hZm : zA.size = m := hm
  have l3 := l2
  have F3 := F1
  rw [← hU] at l3 F3 F2 b1
  rw [e14] at hU l3 F3 F2 b1 v14
  clear e14
  generalize x.N.P.length = n14 at *
  clear n1 n2 b0 hU1 hU2 hm h
  generalize (us4 x).arr = U at *
  generalize x.arr = V at *
  generalize x.N.t = g9 at *
  generalize zA = Z at *
  simp only [Array.toList_setIfInBounds] at F3 F2 b1
  have HU := Lib.hid hU
  have B1 := Lib.hid b1
  have FF2 := Lib.hid F2
  clear hU b1 F2 l2 F1 hZ1
  go_enter Tryz.func179, Tryz.ntmps179
  go_wp2_with fail
  exact bodyPost_ret (nres_cell (fn := Tryz.f179) rfl _ (by rfl) FF2.out) rfl ⟨by rw [HU.out], B1.out⟩

end Go.Proofs.YtcgmmfcphfkdhaaGreat

/- Walks: the reference's used, of the kind 5. -/
namespace Go.Proofs.YtcgmmfcphfkdhaaGreat
open Go Go.RowKit Go.Proofs

theorem us5_nv {x : Nv} {w : World} (_h : NV w x) : NV w (us5 x) := ⟨sli_nil _, sli_nil _, slp_nil _, ⟨sli_nil _, sli_nil _, sls_nil _⟩⟩

set_option maxRecDepth 100000 in
set_option maxHeartbeats 4000000 in
theorem used179_5 (x : Nv) (w : World) (h : NV w x) :
    Calls Tryz.prog 179 #[.agg x.arr, .int .i64 5] w fun e w' => e = .returned (.agg (us5 x).arr) ∧ Below w.heap.size w w' := by
  obtain ⟨m, hm, ⟨hm0, hm1, hm2⟩, hs40⟩ := m40.out
  obtain ⟨FS, hu40, fs0, fs1, fs2, fs3, fs4, fs5, fs6, fs7, fs8, fs9, fs10, fs11, fs12, fs13, fs14, fs15⟩ := f40.out
  have hz := zA_run
  have hZ1 : zA.size = 29 := rfl
  have hU : ((zA.setIfInBounds 12 (.int .i64 x.N.rb)).setIfInBounds 13 (.int .i64 x.N.rn)) = (us5 x).arr := rfl
  have v12 : x.arr[12]? = some (.int .i64 x.N.rb) := rfl
  have zv12 : zA[12]? = some (.int .i64 0) := rfl
  have v13 : x.arr[13]? = some (.int .i64 x.N.rn) := rfl
  have zv13 : zA[13]? = some (.int .i64 0) := rfl
  have hU1 := (us5_nv h).one
  have hU2 : (us5 x).arr.size = 29 := rfl
  have b0 := ((((Below.refl _ w).alloc (Nat.le_refl _) (.cells x.arr 40)).alloc (by simp) (.cells zA 40)).alloc (by simp; omega) (.cells (us5 x).arr 40))
  have n1 : NB (((w.alloc (.cells x.arr 40)).alloc (.cells zA 40)).alloc (.cells (us5 x).arr 40)) (w.heap.size + 1) zA 40 := (nb1 w (.cells x.arr 40) zA 40).alloc _
  have n2 : NB (((w.alloc (.cells x.arr 40)).alloc (.cells zA 40)).alloc (.cells (us5 x).arr 40)) (w.heap.size + 1 + 1) (us5 x).arr 40 := by
    have := nb1 (w.alloc (.cells x.arr 40)) (.cells zA 40) (us5 x).arr 40
    rwa [World.size_alloc] at this
  obtain ⟨F1, F2⟩ := fin179 n1 hZ1 hU2 hU1
  have l2 := n2.load (hU2.trans hm)
  have b1 := below_sets b0 (Nat.le_succ w.heap.size) (us5 x).arr.toList 0
  have hZm : zA.size = m := hm
  have l3 := l2
  have F3 := F1
  rw [← hU] at l3 F3 F2 b1
  clear n1 n2 b0 hU1 hU2 hm h
  generalize (us5 x).arr = U at *
  generalize x.arr = V at *
  generalize x.N.rb = g12 at *
  generalize x.N.rn = g13 at *
  generalize zA = Z at *
  simp only [Array.toList_setIfInBounds] at F3 F2 b1
  have HU := Lib.hid hU
  have B1 := Lib.hid b1
  have FF2 := Lib.hid F2
  clear hU b1 F2 l2 F1 hZ1
  go_enter Tryz.func179, Tryz.ntmps179
  go_wp2_with fail
  exact bodyPost_ret (nres_cell (fn := Tryz.f179) rfl _ (by rfl) FF2.out) rfl ⟨by rw [HU.out], B1.out⟩

end Go.Proofs.YtcgmmfcphfkdhaaGreat

/- Walks: the reference's used, of the kind 6. -/
namespace Go.Proofs.YtcgmmfcphfkdhaaGreat
open Go Go.RowKit Go.Proofs

theorem us6_nv {x : Nv} {w : World} (_h : NV w x) : NV w (us6 x) := ⟨sli_nil _, sli_nil _, slp_nil _, ⟨sli_nil _, sli_nil _, sls_nil _⟩⟩

set_option maxRecDepth 100000 in
set_option maxHeartbeats 4000000 in
theorem used179_6 (x : Nv) (w : World) (h : NV w x) :
    Calls Tryz.prog 179 #[.agg x.arr, .int .i64 6] w fun e w' => e = .returned (.agg (us6 x).arr) ∧ Below w.heap.size w w' := by
  obtain ⟨m, hm, ⟨hm0, hm1, hm2⟩, hs40⟩ := m40.out
  obtain ⟨FS, hu40, fs0, fs1, fs2, fs3, fs4, fs5, fs6, fs7, fs8, fs9, fs10, fs11, fs12, fs13, fs14, fs15⟩ := f40.out
  have hz := zA_run
  have hZ1 : zA.size = 29 := rfl
  have w0 : zA.setIfInBounds 7 (.int .i64 x.N.q) = (Nv.arr { z0 with N := { z0.N with q := x.N.q } }) := rfl
  have w1 : (Nv.arr { z0 with N := { z0.N with q := x.N.q } }).setIfInBounds 6 (.int .i64 x.N.p) = (Nv.arr { z0 with N := { z0.N with q := x.N.q, p := x.N.p } }) := rfl
  have w2 : (Nv.arr { z0 with N := { z0.N with q := x.N.q, p := x.N.p } }).setIfInBounds 8 (.int .i64 x.N.o) = (Nv.arr { z0 with N := { z0.N with q := x.N.q, p := x.N.p, o := x.N.o } }) := rfl
  have w3 : (Nv.arr { z0 with N := { z0.N with q := x.N.q, p := x.N.p, o := x.N.o } }).setIfInBounds 10 (.int .i64 x.N.sh) = (Nv.arr { z0 with N := { z0.N with q := x.N.q, p := x.N.p, o := x.N.o, sh := x.N.sh } }) := rfl
  have w4 : (Nv.arr { z0 with N := { z0.N with q := x.N.q, p := x.N.p, o := x.N.o, sh := x.N.sh } }).setIfInBounds 11 (.bool x.N.bk) = (Nv.arr { z0 with N := { z0.N with q := x.N.q, p := x.N.p, o := x.N.o, sh := x.N.sh, bk := x.N.bk } }) := rfl
  have hU : (((((zA.setIfInBounds 7 (.int .i64 x.N.q)).setIfInBounds 6 (.int .i64 x.N.p)).setIfInBounds 8 (.int .i64 x.N.o)).setIfInBounds 10 (.int .i64 x.N.sh)).setIfInBounds 11 (.bool x.N.bk)) = (us6 x).arr := by rw [w0, w1, w2, w3, w4]; rfl
  clear w0 w1 w2 w3 w4
  have v7 : x.arr[7]? = some (.int .i64 x.N.q) := rfl
  have zv7 : zA[7]? = some (.int .i64 0) := rfl
  have v6 : x.arr[6]? = some (.int .i64 x.N.p) := rfl
  have zv6 : zA[6]? = some (.int .i64 0) := rfl
  have v8 : x.arr[8]? = some (.int .i64 x.N.o) := rfl
  have zv8 : zA[8]? = some (.int .i64 0) := rfl
  have v10 : x.arr[10]? = some (.int .i64 x.N.sh) := rfl
  have zv10 : zA[10]? = some (.int .i64 0) := rfl
  have v11 : x.arr[11]? = some (.bool x.N.bk) := rfl
  have zv11 : zA[11]? = some (.bool false) := rfl
  have hU1 := (us6_nv h).one
  have hU2 : (us6 x).arr.size = 29 := rfl
  have b0 := ((((Below.refl _ w).alloc (Nat.le_refl _) (.cells x.arr 40)).alloc (by simp) (.cells zA 40)).alloc (by simp; omega) (.cells (us6 x).arr 40))
  have n1 : NB (((w.alloc (.cells x.arr 40)).alloc (.cells zA 40)).alloc (.cells (us6 x).arr 40)) (w.heap.size + 1) zA 40 := (nb1 w (.cells x.arr 40) zA 40).alloc _
  have n2 : NB (((w.alloc (.cells x.arr 40)).alloc (.cells zA 40)).alloc (.cells (us6 x).arr 40)) (w.heap.size + 1 + 1) (us6 x).arr 40 := by
    have := nb1 (w.alloc (.cells x.arr 40)) (.cells zA 40) (us6 x).arr 40
    rwa [World.size_alloc] at this
  obtain ⟨F1, F2⟩ := fin179 n1 hZ1 hU2 hU1
  have l2 := n2.load (hU2.trans hm)
  have b1 := below_sets b0 (Nat.le_succ w.heap.size) (us6 x).arr.toList 0
  have hZm : zA.size = m := hm
  have l3 := l2
  have F3 := F1
  rw [← hU] at l3 F3 F2 b1
  clear n1 n2 b0 hU1 hU2 hm h
  generalize (us6 x).arr = U at *
  generalize x.arr = V at *
  generalize x.N.q = g7 at *
  generalize x.N.p = g6 at *
  generalize x.N.o = g8 at *
  generalize x.N.sh = g10 at *
  generalize x.N.bk = g11 at *
  generalize zA = Z at *
  simp only [Array.toList_setIfInBounds] at F3 F2 b1
  have HU := Lib.hid hU
  have B1 := Lib.hid b1
  have FF2 := Lib.hid F2
  clear hU b1 F2 l2 F1 hZ1
  go_enter Tryz.func179, Tryz.ntmps179
  go_wp2_with fail
  exact bodyPost_ret (nres_cell (fn := Tryz.f179) rfl _ (by rfl) FF2.out) rfl ⟨by rw [HU.out], B1.out⟩

end Go.Proofs.YtcgmmfcphfkdhaaGreat

/- Walks: the reference's used, of the kind 7. -/
namespace Go.Proofs.YtcgmmfcphfkdhaaGreat
open Go Go.RowKit Go.Proofs

theorem us7_nv {x : Nv} {w : World} (_h : NV w x) : NV w (us7 x) := ⟨sli_nil _, sli_nil _, slp_nil _, ⟨sli_nil _, sli_nil _, sls_nil _⟩⟩

set_option maxRecDepth 100000 in
set_option maxHeartbeats 4000000 in
theorem used179_7 (x : Nv) (w : World) (h : NV w x) :
    Calls Tryz.prog 179 #[.agg x.arr, .int .i64 7] w fun e w' => e = .returned (.agg (us7 x).arr) ∧ Below w.heap.size w w' := by
  obtain ⟨m, hm, ⟨hm0, hm1, hm2⟩, hs40⟩ := m40.out
  obtain ⟨FS, hu40, fs0, fs1, fs2, fs3, fs4, fs5, fs6, fs7, fs8, fs9, fs10, fs11, fs12, fs13, fs14, fs15⟩ := f40.out
  have hz := zA_run
  have hZ1 : zA.size = 29 := rfl
  have hU : (zA.setIfInBounds 7 (.int .i64 x.N.q)) = (us7 x).arr := rfl
  have v7 : x.arr[7]? = some (.int .i64 x.N.q) := rfl
  have zv7 : zA[7]? = some (.int .i64 0) := rfl
  have hU1 := (us7_nv h).one
  have hU2 : (us7 x).arr.size = 29 := rfl
  have b0 := ((((Below.refl _ w).alloc (Nat.le_refl _) (.cells x.arr 40)).alloc (by simp) (.cells zA 40)).alloc (by simp; omega) (.cells (us7 x).arr 40))
  have n1 : NB (((w.alloc (.cells x.arr 40)).alloc (.cells zA 40)).alloc (.cells (us7 x).arr 40)) (w.heap.size + 1) zA 40 := (nb1 w (.cells x.arr 40) zA 40).alloc _
  have n2 : NB (((w.alloc (.cells x.arr 40)).alloc (.cells zA 40)).alloc (.cells (us7 x).arr 40)) (w.heap.size + 1 + 1) (us7 x).arr 40 := by
    have := nb1 (w.alloc (.cells x.arr 40)) (.cells zA 40) (us7 x).arr 40
    rwa [World.size_alloc] at this
  obtain ⟨F1, F2⟩ := fin179 n1 hZ1 hU2 hU1
  have l2 := n2.load (hU2.trans hm)
  have b1 := below_sets b0 (Nat.le_succ w.heap.size) (us7 x).arr.toList 0
  have hZm : zA.size = m := hm
  have l3 := l2
  have F3 := F1
  rw [← hU] at l3 F3 F2 b1
  clear n1 n2 b0 hU1 hU2 hm h
  generalize (us7 x).arr = U at *
  generalize x.arr = V at *
  generalize x.N.q = g7 at *
  generalize zA = Z at *
  simp only [Array.toList_setIfInBounds] at F3 F2 b1
  have HU := Lib.hid hU
  have B1 := Lib.hid b1
  have FF2 := Lib.hid F2
  clear hU b1 F2 l2 F1 hZ1
  go_enter Tryz.func179, Tryz.ntmps179
  go_wp2_with fail
  exact bodyPost_ret (nres_cell (fn := Tryz.f179) rfl _ (by rfl) FF2.out) rfl ⟨by rw [HU.out], B1.out⟩

end Go.Proofs.YtcgmmfcphfkdhaaGreat

/- Walks: the reference's used, of the kind 8. -/
namespace Go.Proofs.YtcgmmfcphfkdhaaGreat
open Go Go.RowKit Go.Proofs

theorem us8_nv {x : Nv} {w : World} (h : NV w x) : NV w (us8 x) := ⟨sli_nil _, sli_nil _, h.D, ⟨sli_nil _, sli_nil _, sls_nil _⟩⟩

set_option maxRecDepth 100000 in
set_option maxHeartbeats 4000000 in
theorem used179_8 (x : Nv) (w : World) (h : NV w x) :
    Calls Tryz.prog 179 #[.agg x.arr, .int .i64 8] w fun e w' => e = .returned (.agg (us8 x).arr) ∧ Below w.heap.size w w' := by
  obtain ⟨m, hm, ⟨hm0, hm1, hm2⟩, hs40⟩ := m40.out
  obtain ⟨FS, hu40, fs0, fs1, fs2, fs3, fs4, fs5, fs6, fs7, fs8, fs9, fs10, fs11, fs12, fs13, fs14, fs15⟩ := f40.out
  have hz := zA_run
  have hZ1 : zA.size = 29 := rfl
  have hU : ((zA.setIfInBounds 6 (.int .i64 x.N.p)).setIfInBounds 16 (x.uD)) = (us8 x).arr := rfl
  have v6 : x.arr[6]? = some (.int .i64 x.N.p) := rfl
  have zv6 : zA[6]? = some (.int .i64 0) := rfl
  have v16 : x.arr[16]? = some (x.uD) := rfl
  have zv16 : zA[16]? = some (.slice none 0 0) := rfl
  obtain ⟨a16, c16, e16, -⟩ := h.D
  have hU1 := (us8_nv h).one
  have hU2 : (us8 x).arr.size = 29 := rfl
  have b0 := ((((Below.refl _ w).alloc (Nat.le_refl _) (.cells x.arr 40)).alloc (by simp) (.cells zA 40)).alloc (by simp; omega) (.cells (us8 x).arr 40))
  have n1 : NB (((w.alloc (.cells x.arr 40)).alloc (.cells zA 40)).alloc (.cells (us8 x).arr 40)) (w.heap.size + 1) zA 40 := (nb1 w (.cells x.arr 40) zA 40).alloc _
  have n2 : NB (((w.alloc (.cells x.arr 40)).alloc (.cells zA 40)).alloc (.cells (us8 x).arr 40)) (w.heap.size + 1 + 1) (us8 x).arr 40 := by
    have := nb1 (w.alloc (.cells x.arr 40)) (.cells zA 40) (us8 x).arr 40
    rwa [World.size_alloc] at this
  obtain ⟨F1, F2⟩ := fin179 n1 hZ1 hU2 hU1
  have l2 := n2.load (hU2.trans hm)
  have b1 := below_sets b0 (Nat.le_succ w.heap.size) (us8 x).arr.toList 0
  have hZm : zA.size = m := hm
  have l3 := l2
  have F3 := F1
  rw [← hU] at l3 F3 F2 b1
  rw [e16] at hU l3 F3 F2 b1 v16
  clear e16
  generalize x.N.D.length = n16 at *
  clear n1 n2 b0 hU1 hU2 hm h
  generalize (us8 x).arr = U at *
  generalize x.arr = V at *
  generalize x.N.p = g6 at *
  generalize zA = Z at *
  simp only [Array.toList_setIfInBounds] at F3 F2 b1
  have HU := Lib.hid hU
  have B1 := Lib.hid b1
  have FF2 := Lib.hid F2
  clear hU b1 F2 l2 F1 hZ1
  go_enter Tryz.func179, Tryz.ntmps179
  go_wp2_with fail
  exact bodyPost_ret (nres_cell (fn := Tryz.f179) rfl _ (by rfl) FF2.out) rfl ⟨by rw [HU.out], B1.out⟩

end Go.Proofs.YtcgmmfcphfkdhaaGreat
