/- The abstract machine, part GrNA. -/
import Derived.Test.YtcgmmfcphfkdhaaGreatGrN9
/- Walks: sets of notes, the program's CheckSet. -/
namespace Go.Proofs.YtcgmmfcphfkdhaaGreat
open Go Go.RowKit Go.Proofs

def nz (L : List Nt) (k : Nat) : Nt := L.getD k z0.N

def SlN (w : World) (v : Value) (L : List Nt) : Prop := ∃ a cap, v = .slice a L.length cap ∧ L.length ≤ 9223372036854775807 ∧
 ∀ k, k < L.length → ∃ b off, a = some ⟨b, off, none⟩ ∧ ∃ x : Nv, x.N = nz L k ∧ NV w x ∧ ∀ j v, x.arr[j]? = some v → w.cell? ⟨b, off + k * 29 + j, none⟩ = some v

theorem SlN.keep {w w' : World} {v : Value} {L : List Nt} (h : SlN w v L) (hb : Below w.heap.size w w') : SlN w' v L := by
 obtain ⟨a, cap, rfl, hl, hc⟩ := h
 refine ⟨a, cap, rfl, hl, fun k hk => ?_⟩
 obtain ⟨b, off, rfl, x, hx, hn, hcell⟩ := hc k hk
 exact ⟨b, off, rfl, x, hx, hn.keep hb, fun j v hv => keep_cell hb (hcell j v hv)⟩

noncomputable def csF (L : List Nt) : Nat → Nat → Int → Int → Int × Int
 | 0, _, _, _ => (0, 0)
 | d + 1, q, b, n => if gdE (nz L q) ≠ 0 then (90, q) else if cmR (nz L q).b (nz L q).n b n = 0 then (91, q) else if cmR (nz L q).b (nz L q).n b n < 0 then (1, q) else csF L d (q + 1) (nz L q).b (nz L q).n

theorem csF_step (L : List Nt) (q n : Nat) (h : q < n) (b c : Int) : csF L (n - q) q b c = if gdE (nz L q) ≠ 0 then (90, (q : Int)) else if cmR (nz L q).b (nz L q).n b c = 0 then (91, (q : Int)) else if cmR (nz L q).b (nz L q).n b c < 0 then (1, (q : Int)) else csF L (n - (q + 1)) (q + 1) (nz L q).b (nz L q).n := by
 rw [show n - q = (n - (q + 1)) + 1 by omega]
 rfl

set_option maxRecDepth 100000 in
set_option maxHeartbeats 8000000 in
theorem set11 (v : Value) (L : List Nt) (hl500 : L.length ≤ 1000) (w : World) (h : SlN w v L) :
  Calls Tryz.prog 11 #[v] w fun e w' => e = .returned (if L.length ≤ 400 then .tuple #[.int .i64 (csF L L.length 0 0 0).1, .int .i64 (csF L L.length 0 0 0).2] else .tuple #[.int .i64 2, .int .i64 0]) ∧ Below w.heap.size w w' := by
 obtain ⟨m, hm, ⟨hm0, hm1, hm2⟩, hs40⟩ := m40.out
 obtain ⟨Z, hz, hZ1, hZ2⟩ := z40.out
 obtain ⟨a, cap, rfl, hl, hc⟩ := h
 have HC := Lib.hid hc
 clear hc
 by_cases h4 : L.length ≤ 400
 ·rw [if_pos h4]
  have HT := Lib.hid (csF_step L)
  have hst := Lib.hid (fun (W : World) (x : Nv) (h : NV W x) => run_storeCells_new (P := Tryz.prog) W 40 Z x.arr (by rw [arr_size]; kernel_rfl) (by rw [hZ1, arr_size]) h.one)
  have HM := Lib.hid hm
  obtain ⟨R, hR⟩ : ∃ R, csF L L.length 0 0 0 = R := ⟨_, rfl⟩
  rw [hR]
  have HR := Lib.hid hR
  obtain ⟨n, hn⟩ : ∃ n, L.length = n := ⟨_, rfl⟩
  rw [hn] at HC hl HR h4 ⊢
  clear hn hR hZ1 hZ2 hm hl500
  have j0 : ¬ (n : Int) > 400 := by omega
  have b0 : Below w.heap.size w (w.alloc (.cells #[.int .i64 0, .int .i64 0] 31)) := (Below.refl _ _).alloc (Nat.le_refl _) _
  go_enter Tryz.func11, Tryz.ntmps11
  go_wp2_with fail
  go_loopw [14] (fun i wr => ∃ q : Nat, q ≤ n ∧ i = .int .i64 q ∧ Hid (Below w.heap.size w wr) ∧ ∃ b c : Int, Hid (NB wr w.heap.size #[.int .i64 b, .int .i64 c] 31) ∧ csF L (n - q) q b c = R) (fun i _ => n - (intOf i).toNat)
  case atStart => exact ⟨0, Nat.zero_le _, rfl, Lib.hid b0, 0, 0, Lib.hid (NB.new _ _ _), by rw [Nat.sub_zero]; exact HR.out⟩
  case round =>
   obtain ⟨q, hq, rfl, hbel, b, c, hnb, hcs⟩ := hrel
   by_cases hlt : q < n
   ·obtain ⟨bb, off, rfl, x, hx, hnv, hcell⟩ := HC.out q hlt
    have j1 : (q : Int) < (n : Int) := by omega
    have hnv := hnv.keep hbel.out
    have hl0 : (loadCellsFrom ⟨bb, off + q * 29, none⟩ 0 m #[]).run Tryz.prog wr = .ok x.arr wr := nlcf x.arr ((arr_size x).trans HM.out) fun j v hv => keep_cell hbel.out (hcell j v hv)
    have hl1 : (loadCellsFrom ⟨bb, off + q * m, none⟩ 0 m #[]).run Tryz.prog wr = .ok x.arr wr := by
     have e : off + q * m = off + q * 29 := by rw [HM.out]
     rw [e]
     exact hl0
    have s0 := hst.out wr x hnv
    have hszV : x.arr.size = m := (arr_size x).trans HM.out
    have n6 := NB.new wr x.arr 40
    have n4 := hnb.out.alloc (.cells x.arr 40)
    have bal : Below wr.heap.size wr (wr.alloc (.cells x.arr 40)) := (Below.refl _ _).alloc (Nat.le_refl _) _
    obtain ⟨W1, hW1⟩ : ∃ W1, wr.alloc (.cells x.arr 40) = W1 := ⟨_, rfl⟩
    have hnv1 := hnv.keep bal
    rw [hW1] at n6 n4 bal hnv1
    have hb1 := hbel.out.trans (bal.mono hbel.out.size)
    have C55 := Lib.hid (fun w => refOf55 x w)
    have C54 := Lib.hid (fun w => refs54 x.N.b x.N.n b c w)
    have C13 := Lib.hid (fun w1 (hb : Below W1.heap.size W1 w1) => check13 x w1 (hnv1.keep hb))
    have HS := Lib.hid (HT.out q n hlt b c)
    rw [hcs, ← hx] at HS
    have HHs := HS.out
    have N6 := Lib.hid n6
    have N4 := Lib.hid n4
    have B1 := Lib.hid hb1
    have HW := Lib.hid hW1
    have HF := Lib.hid (fun w5 (hb : Below W1.heap.size W1 w5) => show Below w.heap.size w ((w5.setCell ⟨w.heap.size, 0, none⟩ (.int .i64 x.N.b)).setCell ⟨w.heap.size, 1, none⟩ (.int .i64 x.N.n)) ∧ NB ((w5.setCell ⟨w.heap.size, 0, none⟩ (.int .i64 x.N.b)).setCell ⟨w.heap.size, 1, none⟩ (.int .i64 x.N.n)) w.heap.size #[.int .i64 x.N.b, .int .i64 x.N.n] 31 from
     ⟨below_set (below_set (hb1.trans (hb.mono hb1.size)) (Nat.le_refl _) 0 _) (Nat.le_refl _) 1 _, ((n4.keep hb).set 0 (.int .i64 x.N.b)).set 1 (.int .i64 x.N.n)⟩)
    clear hl0 hnv hcell n6 n4 bal hW1 hnv1 hb1 hbel hnb hcs HS
    generalize x.arr = V at *
    generalize x.N.b = xb at *
    generalize x.N.n = xn at *
    generalize gdE x.N = ge at *
    generalize cmR xb xn b c = o at *
    have HH := Lib.hid HHs
    clear HHs
    go_wp2_with fail
    rw [HW.out]
    clear HW s0 hl1
    have L6 := fun z : Grow W1 => (N6.out.keep z.b).load (m := m) hszV
    have G0 := grow_cell (N4.out.c (k := 0) (v := .int .i64 b) rfl)
    have G1 := grow_cell (N4.out.c (k := 1) (v := .int .i64 c) rfl)
    have D1 := C55.out
    have D2 := C54.out
    refine wp_region_grow (by kernel_rfl) (by kernel_rfl) ?_
    repeat (go_big_quiet_step (first | (go_at_call 55; with_reducible exact calls_grow (D1 _)) | (go_at_call 54; with_reducible exact calls_grow (D2 _))))
    refine wpQuiet_nil ?_
    rintro w2 ⟨z, rfl⟩
    have Z2 := Lib.hid z.b
    clear L6 G0 G1 D1 D2 C54
    generalize z.w = w2 at *
    clear z
    have l2 := (N6.out.keep Z2.out).load (m := m) hszV
    go_wp2_with fail
    refine (C13.out w2 Z2.out).mono ?_
    rintro e w3 ⟨rfl, hb⟩
    have Z3 := Lib.hid (Z2.out.trans (hb.mono Z2.out.size))
    have BF := Lib.hid (B1.out.trans (Z3.out.mono B1.out.size))
    clear hb l2 C13
    by_cases hg : ge = 0
    ·have g1 : (ge != 0) = false := by simp [hg]
     have e1 : (ge == 0) = true := by simp [hg]
     rw [hg] at HH
     subst hg
     by_cases ho : o = 0
     ·subst ho
      go_wp2_with fail
      go_ret2
      exact ⟨by rw [HH.out]; simp, BF.out⟩
     ·by_cases ho2 : o < 0
      ·have HO := Lib.hid (And.intro ho ho2)
       have d1 : (o == 0) = false := by simp [ho]
       have d2 : decide (o < 0) = true := decide_eq_true ho2
       clear ho ho2
       go_wp2_with fail
       go_ret2
       exact ⟨by rw [HH.out]; simp [HO.out.1, HO.out.2], BF.out⟩
      ·have HO := Lib.hid (And.intro ho ho2)
       have d1 : (o == 0) = false := by simp [ho]
       have d2 : decide (o < 0) = false := decide_eq_false ho2
       have l3 := (N6.out.keep Z3.out).load (m := m) hszV
       clear ho ho2
       go_wp2_with fail
       refine (C55.out w3).mono ?_
       rintro e w5 ⟨rfl, hb⟩
       have Z5 := Z3.out.trans (hb.mono Z3.out.size)
       obtain ⟨f1, f2⟩ := HF.out w5 Z5
       have t0 := (N4.out.keep Z5).c (k := 0) (v := .int .i64 b) rfl
       have t1 := (N4.out.keep Z5).c (k := 1) (v := .int .i64 c) rfl
       have t0f := (N4.out.keep Z5).f 0
       have t1f := (N4.out.keep Z5).f 1
       have F1 := Lib.hid f1
       have F2 := Lib.hid f2
       have jw : wrap64 ((q : Int) + 1) = (q : Int) + 1 := w64 _ (by omega)
       clear hb Z5 f1 f2 l3 C55
       go_wp2_with fail
       refine ⟨⟨q + 1, hlt, by simp, Lib.hid F1.out, xb, xn, Lib.hid F2.out, ?_⟩, by simp [intOf]; omega⟩
       have h1 := HO.out.1
       have h2 : ¬ o < 0 := by have := HO.out.2; omega
       rw [HH.out]
       simp [h1, h2]
    ·have g1 : (ge != 0) = true := by simp [hg]
     have e1 : (ge == 0) = false := by simp [hg]
     have HG := Lib.hid hg
     clear hg
     go_wp2_with fail
     go_ret2
     exact ⟨by rw [HH.out]; simp [HG.out], BF.out⟩
   ·have j1 : ¬ (q : Int) < (n : Int) := by omega
    obtain rfl : q = n := by omega
    rw [Nat.sub_self] at hcs
    have HS := Lib.hid hcs
    clear hcs
    go_wp2_with fail
    go_ret2
    exact ⟨by rw [← HS.out]; rfl, hbel.out⟩
 ·rw [if_neg h4]
  generalize L.length = n at *
  have j0 : (n : Int) > 400 := by omega
  go_enter Tryz.func11, Tryz.ntmps11
  go_wp2_with fail
  go_ret2
  exact ⟨rfl, Below.refl _ _⟩

end Go.Proofs.YtcgmmfcphfkdhaaGreat

/- Walks: sets of notes, the reference's CheckSet. -/
namespace Go.Proofs.YtcgmmfcphfkdhaaGreat
open Go Go.RowKit Go.Proofs

set_option maxRecDepth 100000 in
theorem eql31 (a b a' b' : Int) : ∀ w, (binOp .eql 31 (rfv a b) (rfv a' b')).run Tryz.prog w = .ok (.bool (a == a' && b == b')) w := by
 intro w
 by_cases h0 : a = a'
 ·by_cases h1 : b = b'
  ·subst h0 h1
   go_simp
  ·subst h0
   go_simp
 ·go_simp

theorem gdE_zero (N : Nt) : gdE N = 0 ↔ Gd N := by
 by_cases h : Gd N
 ·rw [show gdE N = 0 from if_pos h]; simp [h]
 ·rw [show gdE N = 90 from if_neg h]; simp [h]

def lsN (L : List Nt) (q : Nat) : Nt := if q = 0 then z0.N else nz L (q - 1)

open Classical in
theorem cs_ref (L : List Nt) (q n : Nat) (h : q < n) : csF L (n - q) q (lsN L q).b (lsN L q).n = if Gd (nz L q) then (if 0 < q ∧ ((nz L q).b = (nz L (q - 1)).b ∧ (nz L q).n = (nz L (q - 1)).n) then (91, (q : Int)) else if 0 < q ∧ lsR (nz L q).b (nz L q).n (nz L (q - 1)).b (nz L (q - 1)).n = true then (1, (q : Int)) else csF L (n - (q + 1)) (q + 1) (lsN L (q + 1)).b (lsN L (q + 1)).n) else (90, (q : Int)) := by
 rw [csF_step L q n h]
 by_cases hg : Gd (nz L q)
 ·rw [if_neg (by rw [(gdE_zero _).2 hg]; simp), if_pos hg]
  have e1 : lsN L (q + 1) = nz L q := by unfold lsN; simp
  rw [e1]
  by_cases h0 : 0 < q
  ·have e2 : lsN L q = nz L (q - 1) := by unfold lsN; rw [if_neg (by omega)]
   rw [e2]
   have e3 := cmR_zero (nz L q).b (nz L q).n (nz L (q - 1)).b (nz L (q - 1)).n
   have e4 := cmR_lt (nz L q).b (nz L q).n (nz L (q - 1)).b (nz L (q - 1)).n
   rw [← e4]
   simp only [e3, h0, true_and, decide_eq_true_iff]
  ·have hq : q = 0 := by omega
   subst hq
   have e2 : lsN L 0 = z0.N := rfl
   rw [e2]
   have hb := (vSt_iff _).1 hg.1
   have e5 : ¬ cmR (nz L 0).b (nz L 0).n z0.N.b z0.N.n = 0 := by
    rw [cmR_zero]
    show ¬ ((nz L 0).b = 0 ∧ _)
    omega
   have e6 : ¬ cmR (nz L 0).b (nz L 0).n z0.N.b z0.N.n < 0 := by
    have := cmR_lt (nz L 0).b (nz L 0).n z0.N.b z0.N.n
    have h2 : lsR (nz L 0).b (nz L 0).n z0.N.b z0.N.n = false := by
     unfold lsR
     have : z0.N.b = 0 := rfl
     rw [this]
     have h3 : ¬ (nz L 0).b < 0 := by omega
     have h4 : ¬ (nz L 0).b = 0 := by omega
     simp [h3, h4]
    rw [h2] at this
    exact of_decide_eq_false this
   rw [if_neg e5, if_neg e6]
   simp
 ·rw [if_pos (by rw [Ne, gdE_zero]; exact hg), if_neg hg]

set_option maxRecDepth 100000 in
set_option maxHeartbeats 8000000 in
theorem set12n (v : Value) (L : List Nt) (w : World) (h : SlN w v L) :
  Calls Tryz.prog 12 #[v] w fun e w' => e = .returned (if L.length ≤ 400 then .tuple #[.int .i64 (csF L L.length 0 0 0).1, .int .i64 (csF L L.length 0 0 0).2] else .tuple #[.int .i64 2, .int .i64 0]) ∧ Below w.heap.size w w' := by
 obtain ⟨m, hm, ⟨hm0, hm1, hm2⟩, hs40⟩ := m40.out
 obtain ⟨a, cap, rfl, hl, hc⟩ := h
 have HC := Lib.hid hc
 clear hc
 by_cases h4 : L.length ≤ 400
 ·rw [if_pos h4]
  have HT := Lib.hid (cs_ref L)
  have HM := Lib.hid hm
  obtain ⟨R, hR⟩ : ∃ R, csF L L.length 0 0 0 = R := ⟨_, rfl⟩
  rw [hR]
  have HR := Lib.hid hR
  obtain ⟨n, hn⟩ : ∃ n, L.length = n := ⟨_, rfl⟩
  rw [hn] at HC hl HR h4 ⊢
  clear hn hR hm
  have j0 : ¬ (n : Int) > 400 := by omega
  go_enter Tryz.func12, Tryz.ntmps12
  go_wp2_with fail
  go_loopw [4] (fun i wr => ∃ q : Nat, q ≤ n ∧ i = .int .i64 q ∧ Hid (Below w.heap.size w wr) ∧ Hid (csF L (n - q) q (lsN L q).b (lsN L q).n = R)) (fun i _ => n - (intOf i).toNat)
  case atStart => exact ⟨0, Nat.zero_le _, rfl, Lib.hid (Below.refl _ _), Lib.hid (by rw [Nat.sub_zero]; exact HR.out)⟩
  case round =>
   obtain ⟨q, hq, rfl, hbel, hcs⟩ := hrel
   by_cases hlt : q < n
   ·obtain ⟨bb, off, rfl, x, hx, hnv, hcell⟩ := HC.out q hlt
    have j1 : (q : Int) < (n : Int) := by omega
    have jw : wrap64 ((q : Int) + 1) = (q : Int) + 1 := w64 _ (by omega)
    have j5 : wrap64 ((q : Int) - 1) = (q : Int) - 1 := w64 _ (by omega)
    have hnv := hnv.keep hbel.out
    have e : off + q * m = off + q * 29 := by rw [HM.out]
    have HLx := Lib.hid (fun w1 (hb : Below wr.heap.size wr w1) => show (loadCellsFrom ⟨bb, off + q * m, none⟩ 0 m #[]).run Tryz.prog w1 = .ok x.arr w1 from by
     rw [e]
     exact nlcf x.arr ((arr_size x).trans HM.out) fun j v hv => keep_cell hb (keep_cell hbel.out (hcell j v hv)))
    have C56 := Lib.hid (good56_any x wr hnv)
    have D1 := Lib.hid (fun w => refOf57 x w)
    have HP := fun h0 : 0 < q => HC.out (q - 1) (by omega)
    have HS := Lib.hid ((HT.out q n hlt).symm.trans hcs.out)
    rw [← hx] at HS
    have l1 := HLx.out wr (Below.refl _ _)
    clear e hnv hcell hcs
    by_cases hg : Gd x.N
    ·replace C56 := Lib.hid (C56.out.mono fun e w' (h : Say e (Gd x.N) ∧ _) => And.intro (say_t h.1 hg) h.2)
     have HS2 := HS.out
     rw [if_pos hg] at HS2
     clear HS hg
     by_cases h0 : 0 < q
     ·obtain ⟨bb', off', hbb, y, hy, hnvy, hcelly⟩ := HP h0
      obtain ⟨rfl, rfl⟩ : bb = bb' ∧ off = off' := by cases hbb; exact ⟨rfl, rfl⟩
      rw [← hy] at HS2
      have e : off + (q - 1) * m = off + (q - 1) * 29 := by rw [HM.out]
      have HLy := Lib.hid (fun w1 (hb : Below wr.heap.size wr w1) => show (loadCellsFrom ⟨bb, off + (q - 1) * m, none⟩ 0 m #[]).run Tryz.prog w1 = .ok y.arr w1 from by
       rw [e]
       exact nlcf y.arr ((arr_size y).trans HM.out) fun j v hv => keep_cell hb (keep_cell hbel.out (hcelly j v hv)))
      have D2 := Lib.hid (fun w => refOf57 y w)
      have D3 := Lib.hid (fun w => less58 x.N.b x.N.n y.N.b y.N.n w)
      have g1 : (q : Int) > 0 := by omega
      have g2 : ((q : Int) - 1).toNat = q - 1 := by omega
      have g3 : (0 : Int) ≤ (q : Int) - 1 := by omega
      have g4 : (q : Int) - 1 < (n : Int) := by omega
      have EQ := eql31 x.N.b x.N.n y.N.b y.N.n
      have HS3 : Hid ((if x.N.b = y.N.b ∧ x.N.n = y.N.n then (91, (q : Int)) else if lsR x.N.b x.N.n y.N.b y.N.n = true then (1, (q : Int)) else csF L (n - (q + 1)) (q + 1) (lsN L (q + 1)).b (lsN L (q + 1)).n) = R) := Lib.hid (by simpa [h0] using HS2)
      clear HS2 hbb hnvy hcelly HP e hx hy
      generalize x.arr = V at *
      generalize y.arr = U at *
      generalize lsR x.N.b x.N.n y.N.b y.N.n = lr at *
      generalize x.N.b = xb at *
      generalize x.N.n = xn at *
      generalize y.N.b = yb at *
      generalize y.N.n = yn at *
      go_wp2_with fail
      refine C56.out.mono ?_
      rintro e w1 ⟨rfl, hb1⟩
      have Z1 := Lib.hid hb1
      clear hb1 C56 l1
      have L1 := fun z : Grow w1 => HLx.out z.w (Z1.out.trans (z.b.mono Z1.out.size))
      have L2 := fun z : Grow w1 => HLy.out z.w (Z1.out.trans (z.b.mono Z1.out.size))
      have E1 := D1.out
      have E2 := D2.out
      by_cases he : xb = yb ∧ xn = yn
      ·have q1 : (xb == yb && xn == yn) = true := by simp [he.1, he.2]
       rw [q1] at EQ
       have HE := Lib.hid he
       clear he q1
       go_wp2_with fail
       refine wp_region_grow (by kernel_rfl) (by kernel_rfl) ?_
       repeat (go_big_quiet_step (first | (go_at_call 57; with_reducible exact calls_grow (E1 _)) | (go_at_call 57; with_reducible exact calls_grow (E2 _))))
       refine wpQuiet_nil ?_
       rintro w2 ⟨z, rfl⟩
       have Z2 := Lib.hid (Z1.out.trans (z.b.mono Z1.out.size))
       clear L1 L2 E1 E2 EQ
       generalize z.w = w2 at *
       go_wp2_with fail
       go_ret2
       exact ⟨by rw [← HS3.out, if_pos HE.out]; rfl, hbel.out.trans (Z2.out.mono hbel.out.size)⟩
      ·have q1 : (xb == yb && xn == yn) = false := by
        rw [Bool.eq_false_iff]
        intro h
        simp only [Bool.and_eq_true, beq_iff_eq] at h
        exact he h
       rw [q1] at EQ
       have HE := Lib.hid he
       clear he q1
       go_wp2_with fail
       refine wp_region_grow (by kernel_rfl) (by kernel_rfl) ?_
       repeat (go_big_quiet_step (first | (go_at_call 57; with_reducible exact calls_grow (E1 _)) | (go_at_call 57; with_reducible exact calls_grow (E2 _))))
       refine wpQuiet_nil ?_
       rintro w2 ⟨z, rfl⟩
       have Z2 := Lib.hid (Z1.out.trans (z.b.mono Z1.out.size))
       clear L1 L2 EQ
       generalize z.w = w2 at *
       clear z
       go_wp2_with fail
       have L1 := fun z : Grow w2 => HLx.out z.w (Z2.out.trans (z.b.mono Z2.out.size))
       have L2 := fun z : Grow w2 => HLy.out z.w (Z2.out.trans (z.b.mono Z2.out.size))
       have E3 := D3.out
       refine wp_region_grow (by kernel_rfl) (by kernel_rfl) ?_
       repeat (go_big_quiet_step (first | (go_at_call 57; with_reducible exact calls_grow (E1 _)) | (go_at_call 57; with_reducible exact calls_grow (E2 _)) | (go_at_call 58; with_reducible exact calls_grow (E3 _))))
       refine wpQuiet_nil ?_
       rintro w4 ⟨z, rfl⟩
       have Z4 := Lib.hid (Z2.out.trans (z.b.mono Z2.out.size))
       clear L1 L2 E1 E2 E3
       generalize z.w = w4 at *
       cases lr
       ·go_wp2_with fail
        refine ⟨⟨q + 1, hlt, by simp, Lib.hid (hbel.out.trans (Z4.out.mono hbel.out.size)), Lib.hid ?_⟩, by simp [intOf]; omega⟩
        rw [← HS3.out, if_neg HE.out]
        simp
       ·go_wp2_with fail
        go_ret2
        exact ⟨by rw [← HS3.out, if_neg HE.out]; rfl, hbel.out.trans (Z4.out.mono hbel.out.size)⟩
     ·have HS3 : Hid (csF L (n - (q + 1)) (q + 1) (lsN L (q + 1)).b (lsN L (q + 1)).n = R) := Lib.hid (by simpa [h0] using HS2)
      have d3 : decide ((q : Int) > 0) = false := by simp; omega
      have d5 : decide (0 < q) = false := by simp; omega
      clear HS2 HP h0 hx
      generalize x.arr = V at *
      go_wp2_with fail
      refine C56.out.mono ?_
      rintro e w1 ⟨rfl, hb1⟩
      have Z1 := Lib.hid hb1
      clear hb1 C56 l1
      go_wp2_with fail
      refine wp_region_grow (by kernel_rfl) (by kernel_rfl) ?_
      repeat (go_big_quiet_step (fail))
      refine wpQuiet_nil ?_
      rintro w2 ⟨z, rfl⟩
      have Z2 := Lib.hid (Z1.out.trans (z.b.mono Z1.out.size))
      generalize z.w = w2 at *
      clear z
      go_wp2_with fail
      refine wp_region_grow (by kernel_rfl) (by kernel_rfl) ?_
      repeat (go_big_quiet_step (fail))
      refine wpQuiet_nil ?_
      rintro w4 ⟨z, rfl⟩
      have Z4 := Lib.hid (Z2.out.trans (z.b.mono Z2.out.size))
      generalize z.w = w4 at *
      go_wp2_with fail
      refine ⟨⟨q + 1, hlt, by simp, Lib.hid (hbel.out.trans (Z4.out.mono hbel.out.size)), Lib.hid HS3.out⟩, by simp [intOf]; omega⟩
    ·replace C56 := Lib.hid (C56.out.mono fun e w' (h : Say e (Gd x.N) ∧ _) => And.intro (say_f h.1 hg) h.2)
     have HS2 := HS.out
     rw [if_neg hg] at HS2
     have HS3 := Lib.hid HS2
     clear HS HS2 hg HP hx
     generalize x.arr = V at *
     go_wp2_with fail
     refine C56.out.mono ?_
     rintro e w1 ⟨rfl, hb1⟩
     have Z1 := Lib.hid (hbel.out.trans (hb1.mono hbel.out.size))
     clear hb1 C56 l1
     go_wp2_with fail
     go_ret2
     exact ⟨by rw [← HS3.out]; rfl, Z1.out⟩
   ·have j1 : ¬ (q : Int) < (n : Int) := by omega
    obtain rfl : q = n := by omega
    have HS := Lib.hid hcs.out
    rw [Nat.sub_self] at HS
    clear hcs
    go_wp2_with fail
    go_ret2
    exact ⟨by rw [← HS.out]; rfl, hbel.out⟩
 ·rw [if_neg h4]
  generalize L.length = n at *
  have j0 : (n : Int) > 400 := by omega
  go_enter Tryz.func12, Tryz.ntmps12
  go_wp2_with fail
  go_ret2
  exact ⟨rfl, Below.refl _ _⟩

end Go.Proofs.YtcgmmfcphfkdhaaGreat

/- Walks: the law BenchesNotes. -/
namespace Go.Proofs.YtcgmmfcphfkdhaaGreat
open Go Go.RowKit Go.Proofs

end Go.Proofs.YtcgmmfcphfkdhaaGreat
