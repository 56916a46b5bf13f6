/- Walks: equal lists of notes; whether notes are a set. -/
import Derived.Test.YtcgmmfcphfkdhaaGreatGrNA
namespace Go.Proofs.YtcgmmfcphfkdhaaGreat
open Go Go.RowKit Go.Proofs

theorem nz_eq {G H : List Nt} (hl : G.length = H.length) (h : ∀ j, j < G.length → nz G j = nz H j) : G = H :=
 List.ext_getElem hl fun i h1 h2 => by
  have := h i h1
  unfold nz at this
  rw [List.getD_eq_getElem?_getD, List.getD_eq_getElem?_getD, List.getElem?_eq_getElem h1, List.getElem?_eq_getElem h2] at this
  exact this

set_option maxRecDepth 100000 in
set_option maxHeartbeats 4000000 in
theorem sameNotes19 (v v' : Value) (D E : List Nt) (w : World) (h : SlN w v D) (h' : SlN w v' E) :
  Calls Tryz.prog 19 #[v, v'] w fun e w' => Say e (D = E) ∧ Below w.heap.size w w' := by
 obtain ⟨m, hm, ⟨hm0, hm1, hm2⟩, hs40⟩ := m40.out
 obtain ⟨a, cap, rfl, hl, hc⟩ := h
 obtain ⟨a', cap', rfl, hl', hc'⟩ := h'
 have HC := Lib.hid hc
 have HC' := Lib.hid hc'
 have HM := Lib.hid hm
 clear hc hc' hm
 by_cases hnm : D.length = E.length
 ·have HN : Hid (∀ q, q < D.length → nz D q ≠ nz E q → ¬ D = E) := Lib.hid fun q _ h e => h (by rw [e])
  have HE : Hid ((∀ j, j < D.length → nz D j = nz E j) → D = E) := Lib.hid (nz_eq hnm)
  generalize (D = E) = RR at HN HE ⊢
  obtain ⟨n, hn⟩ : ∃ n, D.length = n := ⟨_, rfl⟩
  rw [← hnm] at HC' hl' ⊢
  rw [hn] at HC HC' hl hl' HN HE ⊢
  clear hn hnm
  go_enter Tryz.func19, Tryz.ntmps19
  go_wp2_with fail
  go_loopw [5] (fun i wr => ∃ q : Nat, q ≤ n ∧ i = .int .i64 q ∧ Hid (Below w.heap.size w wr) ∧ ∀ j, j < q → nz D j = nz E j) (fun i _ => n - (intOf i).toNat)
  case atStart => exact ⟨0, Nat.zero_le _, rfl, Lib.hid (Below.refl _ _), by simp⟩
  case round =>
   obtain ⟨q, hq, rfl, hbel, hall⟩ := hrel
   have HL := Lib.hid hall
   clear hall
   by_cases hlt : q < n
   ·obtain ⟨b, off, rfl, x, hx, hnv, hcell⟩ := HC.out q hlt
    obtain ⟨b', off', rfl, y, hy, hnvy, hcelly⟩ := HC'.out q hlt
    have e : off + q * m = off + q * 29 := by rw [HM.out]
    have e' : off' + q * m = off' + q * 29 := by rw [HM.out]
    have HLx := Lib.hid (fun w1 (hb : Below wr.heap.size wr w1) => show (loadCellsFrom ⟨b, off + q * m, none⟩ 0 m #[]).run Tryz.prog w1 = .ok x.arr w1 from by
     rw [e]
     exact nlcf x.arr ((arr_size x).trans HM.out) fun j v hv => keep_cell hb (keep_cell hbel.out (hcell j v hv)))
    have HLy := Lib.hid (fun w1 (hb : Below wr.heap.size wr w1) => show (loadCellsFrom ⟨b', off' + q * m, none⟩ 0 m #[]).run Tryz.prog w1 = .ok y.arr w1 from by
     rw [e']
     exact nlcf y.arr ((arr_size y).trans HM.out) fun j v hv => keep_cell hb (keep_cell hbel.out (hcelly j v hv)))
    have CS := Lib.hid (fun z : Grow wr => sameNote_any x y z.w ((hnv.keep hbel.out).keep z.b) ((hnvy.keep hbel.out).keep z.b))
    have HN2 := Lib.hid (HN.out q hlt)
    rw [← hx, ← hy] at HN2
    have HXY : Hid (x.N = y.N → nz D q = nz E q) := Lib.hid fun e => by rw [← hx, ← hy, e]
    clear hcell hcelly hnv hnvy e e' hx hy
    have j1 : (q : Int) < (n : Int) := by omega
    have j2 : wrap64 ((q : Int) + 1) = (q : Int) + 1 := w64 _ (by omega)
    by_cases hE : x.N = y.N
    ·have C := Lib.hid (fun z : Grow wr => (CS.out z).mono fun e w' (h : Say e _ ∧ _) => And.intro (say_t h.1 hE) h.2)
     have HE2 := Lib.hid (HXY.out hE)
     clear hE CS
     generalize x.arr = V at *
     generalize y.arr = U at *
     go_wp2_with fail
     have L1 := fun z : Grow wr => HLx.out z.w z.b
     have L2 := fun z : Grow wr => HLy.out z.w z.b
     have C2 := C.out
     refine wp_region_grow (by kernel_rfl) (by kernel_rfl) ?_
     repeat (go_big_quiet_step ((go_at_call 23; with_reducible exact calls_grow (C2 _))))
     refine wpQuiet_nil ?_
     rintro w2 ⟨z, rfl⟩
     have HB2 := Lib.hid (hbel.out.trans (z.b.mono hbel.out.size))
     clear C C2 L1 L2
     generalize z.w = w2 at *
     go_wp2_with fail
     refine ⟨⟨q + 1, hlt, by simp, Lib.hid HB2.out, fun j hj => ?_⟩, by simp [intOf]; omega⟩
     rcases Nat.lt_or_ge j q with h | h
     ·exact HL.out j h
     ·obtain rfl : j = q := by omega
      exact HE2.out
    ·have C := Lib.hid (fun z : Grow wr => (CS.out z).mono fun e w' (h : Say e _ ∧ _) => And.intro (say_f h.1 hE) h.2)
     have HE2 := Lib.hid (HN2.out hE)
     clear hE CS
     generalize x.arr = V at *
     generalize y.arr = U at *
     go_wp2_with fail
     have L1 := fun z : Grow wr => HLx.out z.w z.b
     have L2 := fun z : Grow wr => HLy.out z.w z.b
     have C2 := C.out
     refine wp_region_grow (by kernel_rfl) (by kernel_rfl) ?_
     repeat (go_big_quiet_step ((go_at_call 23; with_reducible exact calls_grow (C2 _))))
     refine wpQuiet_nil ?_
     rintro w2 ⟨z, rfl⟩
     have HB2 := Lib.hid (hbel.out.trans (z.b.mono hbel.out.size))
     clear C C2 L1 L2
     generalize z.w = w2 at *
     go_wp2_with fail
     go_ret
     exact ⟨say_no HE2.out, HB2.out⟩
   ·have j1 : ¬ (q : Int) < (n : Int) := by omega
    go_wp2
    go_ret
    exact ⟨say_yes (HE.out (fun j hj => HL.out j (by omega))), hbel.out⟩
 ·have hne : ¬ D = E := fun e => hnm (by rw [e])
  have HN := Lib.hid hne
  clear hne
  generalize D.length = n at hnm hl HC ⊢
  generalize E.length = k at hnm hl' HC' ⊢
  have j1 : ¬ (n : Int) = (k : Int) := by omega
  go_enter Tryz.func19, Tryz.ntmps19
  go_wp2
  go_ret
  exact ⟨say_no HN.out, Below.refl _ _⟩

def StOk (L : List Nt) : Prop := L.length ≤ 400 ∧ (csF L L.length 0 0 0).1 = 0

set_option maxHeartbeats 1000000 in
theorem isSet63 (v : Value) (L : List Nt) (hl : L.length ≤ 1000) (w : World) (h : SlN w v L) :
  Calls Tryz.prog 63 #[v] w fun e w' => Say e (StOk L) ∧ Below w.heap.size w w' := by
 have C := set11 v L hl w h
 have HS : Hid (StOk L ↔ L.length ≤ 400 ∧ (csF L L.length 0 0 0).1 = 0) := Lib.hid Iff.rfl
 generalize StOk L = RR at *
 by_cases h4 : L.length ≤ 400
 ·rw [if_pos h4] at C
  have H4 := Lib.hid h4
  clear h4 hl h
  generalize (csF L L.length 0 0 0).1 = e0 at *
  generalize (csF L L.length 0 0 0).2 = i0 at *
  go_enter Tryz.func63, Tryz.ntmps63
  go_wp2_with fail
  refine C.mono ?_
  rintro e w1 ⟨rfl, hb⟩
  have HB := Lib.hid hb
  clear hb C
  go_wp2_with fail
  go_ret
  refine ⟨say_is ?_, HB.out⟩
  rw [HS.out]
  simp [H4.out]
 ·rw [if_neg h4] at C
  have H4 := Lib.hid h4
  clear h4 hl h
  go_enter Tryz.func63, Tryz.ntmps63
  go_wp2_with fail
  refine C.mono ?_
  rintro e w1 ⟨rfl, hb⟩
  have HB := Lib.hid hb
  clear hb C
  go_wp2_with fail
  go_ret
  exact ⟨say_no (fun k => H4.out (HS.out.1 k).1), HB.out⟩

set_option maxHeartbeats 1000000 in
theorem set67 (v : Value) (L : List Nt) (w : World) (h : SlN w v L) :
  Calls Tryz.prog 67 #[v] w fun e w' => Say e (StOk L) ∧ Below w.heap.size w w' := by
 have C := set12n v L w h
 have HS : Hid (StOk L ↔ L.length ≤ 400 ∧ (csF L L.length 0 0 0).1 = 0) := Lib.hid Iff.rfl
 generalize StOk L = RR at *
 by_cases h4 : L.length ≤ 400
 ·rw [if_pos h4] at C
  have H4 := Lib.hid h4
  clear h4 h
  generalize (csF L L.length 0 0 0).1 = e0 at *
  generalize (csF L L.length 0 0 0).2 = i0 at *
  go_enter Tryz.func67, Tryz.ntmps67
  go_wp2_with fail
  refine C.mono ?_
  rintro e w1 ⟨rfl, hb⟩
  have HB := Lib.hid hb
  clear hb C
  go_wp2_with fail
  go_ret
  refine ⟨say_is ?_, HB.out⟩
  rw [HS.out]
  simp [H4.out]
 ·rw [if_neg h4] at C
  have H4 := Lib.hid h4
  clear h4 h
  go_enter Tryz.func67, Tryz.ntmps67
  go_wp2_with fail
  refine C.mono ?_
  rintro e w1 ⟨rfl, hb⟩
  have HB := Lib.hid hb
  clear hb C
  go_wp2_with fail
  go_ret
  exact ⟨say_no (fun k => H4.out (HS.out.1 k).1), HB.out⟩

end Go.Proofs.YtcgmmfcphfkdhaaGreat
