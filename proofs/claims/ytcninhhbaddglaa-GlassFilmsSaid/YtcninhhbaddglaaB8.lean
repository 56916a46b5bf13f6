/- Walks: the reference's Greys. -/
import Derived.Test.YtcninhhbaddglaaB7
import Derived.Test.YtcninhhbaddglaaB2
import Derived.Deep.Cut
namespace Go.Proofs.Ytcninhhbaddglaa
open Go Go.RowKit Go.Proofs

theorem rises_of {L : List Int} (h : ∀ k, k + 1 < L.length → iz L k < iz L (k + 1)) : rises L = true := by
  unfold rises
  rw [List.all_eq_true]
  intro k hk
  exact decide_eq_true (h k (by have := List.mem_range.1 hk; omega))

theorem rises_not {L : List Int} (k : Nat) (hk : k + 1 < L.length) (h : iz L (k + 1) ≤ iz L k) : rises L = false := by
  unfold rises
  rw [List.all_eq_false]
  exact ⟨k, List.mem_range.2 (by omega), by simp; omega⟩

theorem anyI_bad {cs : List Int} (k : Nat) (hk : k < cs.length) (h : wi (iz cs k) 1 16 = false) : anyI (fun x => !wi x 1 16) cs = true := anyI_true k hk (by simp [h])

theorem anyI_good {cs : List Int} (h : ∀ k, k < cs.length → wi (iz cs k) 1 16 = true) : anyI (fun x => !wi x 1 16) cs = false := anyI_false fun k hk => by simp [h k hk]

/-- The least span of the first k greys, as the reference holds it. -/
def RM (L cs : List Int) (k : Nat) (lo hi : Int) : Prop := (k = 0 ∧ lo = 1 ∧ hi = 0) ∨ (0 < k ∧ MM L cs k lo hi)

theorem set_cell_other {w : World} {b o c k : Nat} {v : Value} (h : b ≠ c) : (w.setCell ⟨c, k, none⟩ v).cell? ⟨b, o, none⟩ = w.cell? ⟨b, o, none⟩ := cell_block (Below.heap_setCell _ _ _ _ h)

set_option maxRecDepth 100000 in
set_option maxHeartbeats 4000000 in
theorem refGreys_any (id : Int) (v u : Value) (L cs : List Int) (w : World) (h : SlI w v L) (hc : SlI w u cs) :
    Calls Try.prog 33 #[film id v, u] w fun e w' => ∃ lo hi E, e = .returned (.tuple #[spn lo hi, .int .i64 E]) ∧ GV id L cs lo hi E ∧ Below w.heap.size w w' := by
  have b0 : Below w.heap.size w ((w.alloc (filmObj id v)).alloc (spnObj 0 0)) := ((Below.refl _ _).alloc (Nat.le_refl _) _).alloc (by simp) _
  have z0 : ((w.alloc (filmObj id v)).alloc (spnObj 0 0)).heap.size = w.heap.size + 2 := by simp
  have f0 := film_new w id v
  have s0 := Sp.new (w.alloc (filmObj id v)) 0 0
  rw [World.size_alloc] at s0
  have f1 := pt_old (w.alloc (filmObj id v)) (spnObj 0 0) f0.1
  have f2 := pt_old (w.alloc (filmObj id v)) (spnObj 0 0) f0.2
  have C1 := refValidFilm_any id v L _ (h.keep b0)
  go_enter Try.func33, Try.ntmps33
  go_wp2_with fail
  refine C1.mono ?_
  rintro e w1 ⟨rfl, hb⟩
  have g2 := keep_cell hb f2
  have r := s0.keep hb
  have b1 := keep_below b0 hb
  have z1 : w.heap.size + 2 ≤ w1.heap.size := by have := hb.size; simp at this; omega
  clear C1 f1 f2 s0 f0 z0 hb b0
  have r0 := r.c0
  have r1 := r.c1
  have r2 := r.f 0
  have r3 := r.f 1
  obtain ⟨q, hq⟩ : ∃ q, vFilm id L = q := ⟨_, rfl⟩
  rw [hq]
  have HQ := Lib.hid hq
  cases q
  · clear hq
    go_wp2
    refine bodyPost_ret (v := .tuple #[spn 0 0, .int .i64 32]) ?_ rfl ⟨_, _, _, rfl, .inl ⟨HQ.out, rfl, rfl, rfl⟩, (b1.setCell (by show w.heap.size ≤ w.heap.size + 1; omega) _).setCell (by show w.heap.size ≤ w.heap.size + 1; omega) _⟩
    exact (results_cell_tmp (fn := Try.f33) rfl _ (by rfl) (r.set 0 0).load).trans (by rfl)
  · obtain ⟨hL, -, hval⟩ := vFilm_val hq
    have HV := Lib.hid hval
    clear hq hval
    obtain ⟨va, vcap, rfl, hvl, hvc⟩ := h
    obtain ⟨ua, ucap, rfl, hul, huc⟩ := hc
    have HVC := Lib.hid hvc
    have HUC := Lib.hid huc
    clear hvc huc
    go_wp2_with fail
    go_loopw [6] (fun i wr => ∃ k : Nat, k ≤ cs.length ∧ i = .int .i64 k ∧ (∃ q, wr = w1.drewN q) ∧ (∀ j, j < k → wi (iz cs j) 1 16 = true) ∧ ∀ j, j + 1 < k → iz cs j < iz cs (j + 1)) (fun i _ => cs.length - (intOf i).toNat)
    case atStart => exact ⟨0, Nat.zero_le _, rfl, ⟨0, rfl⟩, fun _ h => absurd h (Nat.not_lt_zero _), fun _ h => absurd h (Nat.not_lt_zero _)⟩
    case round =>
      obtain ⟨k, hk, rfl, ⟨q, rfl⟩, hw, hr⟩ := hrel
      have HW := Lib.hid hw
      have HR := Lib.hid hr
      clear hw hr
      have rq := r.keep (belowN w1 q)
      have bq := b1.trans ((belowN w1 q).mono b1.size)
      by_cases hlt : k < cs.length
      · have j1 : (k : Int) < (cs.length : Int) := by omega
        obtain ⟨cb, coff, rfl, c0⟩ := HUC.out k hlt
        have c1 := keep_cell b1 c0
        have C := fun w => refWithin_any (iz cs k) 1 16 w
        obtain ⟨p, hp⟩ : ∃ p, wi (iz cs k) 1 16 = p := ⟨_, rfl⟩
        simp only [hp] at C
        have HP := Lib.hid hp
        clear hp
        cases p
        · obtain ⟨x, hx⟩ : ∃ x, iz cs k = x := ⟨_, rfl⟩
          rw [hx] at c0 c1
          simp only [hx] at C
          clear hx c0
          go_wp2_with fail
          go_quiet ((go_at_call 39; exact quiet_add_same (C _)))
          clear c1 C
          have rn := rq.keep (belowN _ nq)
          have bn := bq.trans ((belowN (w1.drewN q) nq).mono bq.size)
          have t0 := rn.c0
          have t1 := rn.c1
          have t2 := rn.f 0
          have t3 := rn.f 1
          obtain ⟨w2, hw2⟩ : ∃ w2, (w1.drewN q).drewN nq = w2 := ⟨_, rfl⟩
          rw [hw2] at rn bn t0 t1 t2 t3 ⊢
          clear hw2 rq bq r0 r1 r2 r3
          go_wp2
          refine bodyPost_ret (v := .tuple #[spn 0 0, .int .i64 1]) ?_ rfl ⟨_, _, _, rfl, .inr (.inl ⟨HQ.out, .inl (anyI_bad k hlt HP.out), rfl, rfl, rfl⟩), (bn.setCell (by show w.heap.size ≤ w.heap.size + 1; omega) _).setCell (by show w.heap.size ≤ w.heap.size + 1; omega) _⟩
          exact (results_cell_tmp (fn := Try.f33) rfl _ (by rfl) (rn.set 0 0).load).trans (by rfl)
        · rcases k with _ | k
          · obtain ⟨x, hx⟩ : ∃ x, iz cs 0 = x := ⟨_, rfl⟩
            rw [hx] at c0 c1
            simp only [hx] at C
            rw [Nat.add_zero] at c1
            clear hx c0
            go_wp2_with fail
            go_quiet ((go_at_call 39; exact quiet_add_same (C _)))
            clear c1 C
            go_wp2
            refine ⟨⟨1, by omega, by simp, ⟨q + nq, by simp⟩, fun j hj => ?_, fun j hj => absurd hj (by omega)⟩, by simp [intOf]; omega⟩
            obtain rfl : j = 0 := by omega
            exact HP.out
          · obtain ⟨cb', coff', hcc, d0⟩ := HUC.out k (by omega)
            obtain ⟨rfl, rfl⟩ : cb = cb' ∧ coff = coff' := by cases hcc; exact ⟨rfl, rfl⟩
            have d1 := keep_cell b1 d0
            obtain ⟨x, hx⟩ : ∃ x, iz cs (k + 1) = x := ⟨_, rfl⟩
            obtain ⟨y, hy⟩ : ∃ y, iz cs k = y := ⟨_, rfl⟩
            rw [hx] at c0 c1
            rw [hy] at d0 d1
            simp only [hx] at C
            have HX := Lib.hid hx
            have HY := Lib.hid hy
            clear hx hy c0 d0 hcc
            have e1 : IntKind.i64.wrap (k : Int) = k := wi64 _ (by omega)
            have j0 : (0 : Int) < (k : Int) + 1 := by omega
            have j2 : (k : Int) < (cs.length : Int) := by omega
            have j3 : (0 : Int) ≤ (k : Int) := by omega
            have j4 : (0 : Int) ≤ (k : Int) + 1 := by omega
            have j5 : ((k : Int) + 1).toNat = k + 1 := by omega
            have j6 : (k : Int) + 1 < (cs.length : Int) := by omega
            clear j1
            go_wp2_with fail
            go_quiet ((go_at_call 39; exact quiet_add_same (C _)))
            clear c1 d1 C e1 j0 j2 j3 j4 j5
            by_cases hxy : x ≤ y
            · have rn := rq.keep (belowN _ nq)
              have bn := bq.trans ((belowN (w1.drewN q) nq).mono bq.size)
              have t0 := rn.c0
              have t1 := rn.c1
              have t2 := rn.f 0
              have t3 := rn.f 1
              obtain ⟨w2, hw2⟩ : ∃ w2, (w1.drewN q).drewN nq = w2 := ⟨_, rfl⟩
              rw [hw2] at rn bn t0 t1 t2 t3 ⊢
              clear hw2 rq bq r0 r1 r2 r3
              go_wp2
              refine bodyPost_ret (v := .tuple #[spn 0 0, .int .i64 1]) ?_ rfl ⟨_, _, _, rfl, .inr (.inl ⟨HQ.out, .inr (rises_not k hlt (by rw [HX.out, HY.out]; exact hxy)), rfl, rfl, rfl⟩), (bn.setCell (by show w.heap.size ≤ w.heap.size + 1; omega) _).setCell (by show w.heap.size ≤ w.heap.size + 1; omega) _⟩
              exact (results_cell_tmp (fn := Try.f33) rfl _ (by rfl) (rn.set 0 0).load).trans (by rfl)
            · have HXY := Lib.hid hxy
              go_wp2
              refine ⟨⟨k + 1 + 1, by omega, by simp, ⟨q + nq, by simp⟩, fun j hj => ?_, fun j hj => ?_⟩, by simp [intOf]; omega⟩
              · rcases Nat.lt_or_ge j (k + 1) with h | h
                · exact HW.out j h
                · obtain rfl : j = k + 1 := by omega
                  exact HP.out
              · rcases Nat.lt_or_ge (j + 1) (k + 1) with h | h
                · exact HR.out j h
                · obtain rfl : j = k := by omega
                  rw [HX.out, HY.out]
                  have := HXY.out
                  omega
      · obtain rfl : k = cs.length := by omega
        have HBAD := Lib.hid (anyI_good HW.out)
        have HUP := Lib.hid (rises_of HR.out)
        have HCIN := Lib.hid (colours_in HBAD.out)
        have g3 := keep_cell (belowN w1 q) g2
        have zq : w.heap.size + 2 ≤ (w1.drewN q).heap.size := z1
        obtain ⟨w2, hw2⟩ : ∃ w2, w1.drewN q = w2 := ⟨_, rfl⟩
        rw [hw2] at rq bq g3 zq ⊢
        clear hw2 HW HR r r0 r1 r2 r3 g2 b1 z1 hlt hk
        go_upto_region 9 with (fail)
        have s6 := Sp.new w2 1 0
        have r6 := rq.alloc (Obj.cells #[.int .i64 1, .int .i64 0] 42)
        have b6 := bq.alloc bq.size (Obj.cells #[.int .i64 1, .int .i64 0] 42)
        have g6 := pt_old w2 (Obj.cells #[.int .i64 1, .int .i64 0] 42) g3
        obtain ⟨w6, hw6⟩ : ∃ w6, w2.alloc (Obj.cells #[Value.int .i64 1, .int .i64 0] 42) = w6 := ⟨_, rfl⟩
        obtain ⟨C, hC⟩ : ∃ C, w2.heap.size = C := ⟨_, rfl⟩
        rw [hw6] at s6 r6 b6 g6 ⊢
        rw [hC] at s6 zq ⊢
        clear hw6 hC rq bq g3
        go_wp2_with fail
        go_loopw [8] (fun i wr => ∃ k : Nat, k ≤ cs.length ∧ i = .int .i64 k ∧ Below w.heap.size w wr ∧ Sp wr (w.heap.size + 1) 0 0 ∧ wr.cell? ⟨w.heap.size, 1, none⟩ = some (.slice va L.length vcap) ∧ ∃ lo hi, Sp wr C lo hi ∧ RM L cs k lo hi) (fun i _ => cs.length - (intOf i).toNat)
        case atStart => exact ⟨0, Nat.zero_le _, rfl, b6, r6, g6, 1, 0, s6, .inl ⟨rfl, rfl, rfl⟩⟩
        case round =>
          clear b6 r6 s6 g6
          obtain ⟨k, hk, rfl, hb, r, g2, lo, hi, sC, hG⟩ := hrel
          have HGO := Lib.hid hG
          clear hG
          by_cases hlt : k < cs.length
          · have j1 : (k : Int) < (cs.length : Int) := by omega
            obtain ⟨cb, coff, rfl, c0⟩ := HUC.out k hlt
            have c1 := keep_cell hb c0
            obtain ⟨e0, m0⟩ := mz_spec (HCIN.out k hlt)
            rw [e0] at c1
            clear c0 e0
            have hstep : ∀ lo hi, MM L cs k lo hi → gr L (mz cs k) ≠ -1 → MM L cs (k + 1) (min lo (gr L (mz cs k))) (max hi (gr L (mz cs k))) := fun lo hi h hn => h.step hn
            have hstop := fun (hn : gr L (mz cs k) = -1) => (show ∃ i, i < cs.length ∧ gr L (mz cs i) = -1 from ⟨k, hlt, hn⟩)
            have hst0 := MM.start (L := L) (cs := cs)
            have hm0 : k = 0 → mz cs 0 = mz cs k := fun e => by rw [e]
            obtain ⟨m, hm⟩ : ∃ m, mz cs k = m := ⟨_, rfl⟩
            rw [hm] at c1 m0 hstep hstop hm0
            clear hm
            have HSTEP := Lib.hid hstep
            have HSTOP := Lib.hid hstop
            have HST0 := Lib.hid hst0
            have HM0 := Lib.hid hm0
            clear hstep hstop hst0 hm0
            by_cases hl1 : m < L.length
            · have j2 : ¬ (L.length : Int) < (m : Int) + 1 := by omega
              obtain ⟨lb, loff, rfl, l0⟩ := HVC.out m hl1
              have l1 := keep_cell hb l0
              have hg0 := (HV.out m hl1).1
              have hgr : gr L m = iz L m := by unfold gr; rw [if_pos hl1]
              have j3 : (m : Int) < (L.length : Int) := by omega
              have j4 : (0 : Int) ≤ (m : Int) := by omega
              have e1 : IntKind.i64.wrap (m : Int) = m := wi64 _ (by omega)
              obtain ⟨g, hg⟩ : ∃ g, iz L m = g := ⟨_, rfl⟩
              rw [hg] at l1 hg0 hgr
              have HG := Lib.hid hgr
              have HNE : Hid (g ≠ -1) := Lib.hid (by omega)
              clear hg l0 hg0 hgr hl1
              go_wp2_with fail
              go_quiet (fail)
              have bA := belowN wr nq
              have rA := r.keep bA
              have sA := sC.keep bA
              have gA := keep_cell bA g2
              have cA := keep_cell bA c1
              have lA := keep_cell bA l1
              have BA := hb.trans (bA.mono hb.size)
              obtain ⟨wA, hwA⟩ : ∃ wA, wr.drewN nq = wA := ⟨_, rfl⟩
              rw [hwA] at rA sA gA cA lA BA ⊢
              clear hwA bA r sC g2 c1 l1 hb
              go_wp2_with fail
              go_quiet (fail)
              have bB := belowN wA nq
              have rB := rA.keep bB
              have sB := sA.keep bB
              have gB := keep_cell bB gA
              have BB := BA.trans (bB.mono BA.size)
              obtain ⟨wB, hwB⟩ : ∃ wB, wA.drewN nq = wB := ⟨_, rfl⟩
              rw [hwB] at rB sB gB BB ⊢
              clear hwB bB rA sA gA cA lA BA e1 j3 j4 j2
              have s0 := sB.c0
              have s1 := sB.c1
              have s2 := sB.f 0
              have s3 := sB.f 1
              rcases k with _ | k
              · have h0 := HST0.out
                rw [HM0.out rfl, HG.out] at h0
                have h1 := HSTEP.out g g h0 (by rw [HG.out]; exact HNE.out)
                rw [HG.out, Int.min_self, Int.max_self] at h1
                have HN := Lib.hid h1
                clear h0 h1
                go_wp2
                have q1 := (set_cell_other (k := 0) (o := 1) (w := wB) (v := .int .i64 g) (show w.heap.size ≠ C by omega)).trans gB
                refine ⟨⟨1, by omega, by simp, (((BB.setCell (by show w.heap.size ≤ C; omega) _).setCell (by show w.heap.size ≤ C; omega) _).setCell (by show w.heap.size ≤ C; omega) _).setCell (by show w.heap.size ≤ C; omega) _,
                  (((rB.other _ (by omega)).other _ (by omega)).other _ (by omega)).other _ (by omega), ?_, _, _, (sB.set g g).set g g, .inr ⟨by omega, HN.out⟩⟩, by simp [intOf]; omega⟩
                exact (set_cell_other (by omega)).trans ((set_cell_other (by omega)).trans ((set_cell_other (by omega)).trans q1))
              · have j0 : (((k : Int) + 1) == 0) = false := by rw [beq_eq_false_iff_ne]; omega
                have hMM : MM L cs (k + 1) lo hi := by
                  rcases HGO.out with ⟨h0, -⟩ | ⟨-, h1⟩
                  · exact absurd h0 (by omega)
                  · exact h1
                have hN := HSTEP.out lo hi hMM (by rw [HG.out]; exact HNE.out)
                rw [HG.out] at hN
                have HN := Lib.hid hN
                clear hMM hN
                go_wp2
                rw [show (if g < lo then g else lo) = min lo g from by split <;> omega, show (if hi < g then g else hi) = max hi g from by split <;> omega]
                refine ⟨⟨k + 1 + 1, by omega, by simp, (BB.setCell (by show w.heap.size ≤ C; omega) _).setCell (by show w.heap.size ≤ C; omega) _, (rB.other _ (by omega)).other _ (by omega), ?_, _, _, sB.set _ _, .inr ⟨by omega, HN.out⟩⟩, by simp [intOf]; omega⟩
                exact (set_cell_other (by show w.heap.size ≠ C; omega)).trans ((set_cell_other (by show w.heap.size ≠ C; omega)).trans gB)
            · have j2 : (L.length : Int) < (m : Int) + 1 := by omega
              have hg : gr L m = -1 := by unfold gr; rw [if_neg hl1]
              have HE := Lib.hid (HSTOP.out hg)
              clear hg hl1
              go_wp2_with fail
              go_quiet (fail)
              have rn := r.keep (belowN _ nq)
              have bn := hb.trans ((belowN wr nq).mono hb.size)
              have t0 := rn.c0
              have t1 := rn.c1
              have t2 := rn.f 0
              have t3 := rn.f 1
              obtain ⟨w2, hw2⟩ : ∃ w2, wr.drewN nq = w2 := ⟨_, rfl⟩
              rw [hw2] at rn bn t0 t1 t2 t3 ⊢
              clear hw2 c1 g2
              go_wp2
              refine bodyPost_ret (v := .tuple #[spn 0 0, .int .i64 3]) ?_ rfl ⟨_, _, _, rfl, .inr (.inr (.inr (.inl ⟨HQ.out, HBAD.out, HUP.out, HE.out, rfl, rfl, rfl⟩))), (bn.setCell (by show w.heap.size ≤ w.heap.size + 1; omega) _).setCell (by show w.heap.size ≤ w.heap.size + 1; omega) _⟩
              exact (results_cell_tmp (fn := Try.f33) rfl _ (by rfl) (rn.set 0 0).load).trans (by rfl)
          · obtain rfl : k = cs.length := by omega
            have r0 := r.c0
            have r1 := r.c1
            have r2 := r.f 0
            have r3 := r.f 1
            have s0 := sC.c0
            have s1 := sC.c1
            go_wp2
            refine bodyPost_ret (v := .tuple #[spn lo hi, .int .i64 0]) ?_ rfl ⟨lo, hi, 0, rfl, ?_, (hb.setCell (by show w.heap.size ≤ w.heap.size + 1; omega) _).setCell (by show w.heap.size ≤ w.heap.size + 1; omega) _⟩
            · exact (results_cell_tmp (fn := Try.f33) rfl _ (by rfl) (r.set lo hi).load).trans (by rfl)
            · rcases HGO.out with ⟨h0, h1, h2⟩ | ⟨h0, h1⟩
              · exact .inr (.inr (.inl ⟨HQ.out, HBAD.out, HUP.out, h0, h1, h2, rfl⟩))
              · exact .inr (.inr (.inr (.inr ⟨HQ.out, HBAD.out, HUP.out, h0, h1, rfl⟩)))

end Go.Proofs.Ytcninhhbaddglaa
