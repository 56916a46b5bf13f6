/- Walks: Greys. -/
import Derived.Test.YtiebbbeijlfedaaA6
import Derived.Test.YtiebbbeijlfedaaM1
namespace Go.Proofs.Ytiebbbeijlfedaa
open Go Go.RowKit Go.Proofs

/-- A span lies in a block of its own. -/
def Sp (w : World) (b : Nat) (lo hi : Int) : Prop := w.heap[b]? = some (.cells #[.int .i64 lo, .int .i64 hi] 42 (0, 0))

theorem Sp.c0 {w : World} {b : Nat} {lo hi : Int} (h : Sp w b lo hi) : w.cell? ⟨b, 0, none⟩ = some (.int .i64 lo) := cell_of h rfl
theorem Sp.c1 {w : World} {b : Nat} {lo hi : Int} (h : Sp w b lo hi) : w.cell? ⟨b, 1, none⟩ = some (.int .i64 hi) := cell_of h rfl
theorem Sp.f {w : World} {b : Nat} {lo hi : Int} (h : Sp w b lo hi) (k : Nat) : w.frozen? ⟨b, k, none⟩ = false := frozen_of h
theorem Sp.lt {w : World} {b : Nat} {lo hi : Int} (h : Sp w b lo hi) : b < w.heap.size := (Array.getElem?_eq_some_iff.1 h).1
theorem Sp.keep {w w' : World} {b : Nat} {lo hi : Int} (h : Sp w b lo hi) (hb : Below w.heap.size w w') : Sp w' b lo hi := (hb.block b h.lt).trans h
theorem Sp.set {w : World} {b : Nat} {lo hi : Int} (h : Sp w b lo hi) (x y : Int) : Sp ((w.setCell ⟨b, 0, none⟩ (.int .i64 x)).setCell ⟨b, 1, none⟩ (.int .i64 y)) b x y :=
  setCell_heap _ (setCell_heap _ h)
theorem Sp.other {w : World} {b c k : Nat} {lo hi : Int} (h : Sp w b lo hi) (v : Value) (hn : b ≠ c) : Sp (w.setCell ⟨c, k, none⟩ v) b lo hi := (Below.heap_setCell _ _ _ _ hn).trans h
theorem Sp.new (w : World) (lo hi : Int) : Sp (w.alloc (.cells #[.int .i64 lo, .int .i64 hi] 42)) w.heap.size lo hi := alloc_heap_new _ _
theorem Sp.alloc {w : World} {b : Nat} {lo hi : Int} (h : Sp w b lo hi) (o : Obj) : Sp (w.alloc o) b lo hi := (alloc_heap_old w o h.lt).trans h

theorem results_cell_tmp {P : Program} {fn : Func} {a u : Tmp} {t : TypeId} {w : World} {v : Value} {p : Addr} (h : fn.results = #[.cell a t, .tmp u]) (tmps : Array Value) (hp : tmps.getD a undef = .pointer (some p))
    (hl : (loadVar t p).run P w = .ok v w) : (results fn tmps).run P w = .ok (.tuple #[v, tmps.getD u undef]) w := by
  have hp' : tmps[a]?.getD undef = .pointer (some p) := by simpa using hp
  simp only [results, h]
  simp [hp', asAddr, hl]

theorem Sp.load {w : World} {b : Nat} {lo hi : Int} (h : Sp w b lo hi) : (loadVar 42 ⟨b, 0, none⟩).run Try.prog w = .ok (spn lo hi) w :=
  run_loadVar_mid (P := Try.prog) w b 0 42 [.int .i64 lo, .int .i64 hi] _ (range_of h) Try.underlying42 rfl (by kernel_rfl)

def gr (L : List Int) (m : Nat) : Int := if m < L.length then iz L m else -1
def mz (cs : List Int) (k : Nat) : Nat := (iz cs k - 1).toNat

/-- The least span of the greys of the first k colours; all are there. -/
def Got (L cs : List Int) (k : Nat) (lo hi : Int) : Prop := lo ≤ hi ∧ (∃ i, i < cs.length ∧ gr L (mz cs i) = lo) ∧ (∃ i, i < cs.length ∧ gr L (mz cs i) = hi) ∧ ∀ i, i < k → gr L (mz cs i) ≠ -1 ∧ lo ≤ gr L (mz cs i) ∧ gr L (mz cs i) ≤ hi

theorem Got.start {L cs : List Int} (h : 0 < cs.length) : Got L cs 0 (gr L (mz cs 0)) (gr L (mz cs 0)) := ⟨Int.le_refl _, ⟨0, h, rfl⟩, ⟨0, h, rfl⟩, fun _ hi => absurd hi (Nat.not_lt_zero _)⟩

theorem Got.step {L cs : List Int} {k : Nat} {lo hi : Int} (h : Got L cs k lo hi) (hk : k < cs.length) (hn : gr L (mz cs k) ≠ -1) : Got L cs (k + 1) (min lo (gr L (mz cs k))) (max hi (gr L (mz cs k))) := by
  obtain ⟨h1, h2, h3, h4⟩ := h
  refine ⟨by omega, ?_, ?_, fun i hi => ?_⟩
  · rcases Int.le_total lo (gr L (mz cs k)) with h | h
    · rw [Int.min_eq_left h]; exact h2
    · rw [Int.min_eq_right h]; exact ⟨k, hk, rfl⟩
  · rcases Int.le_total hi (gr L (mz cs k)) with h | h
    · rw [Int.max_eq_right h]; exact ⟨k, hk, rfl⟩
    · rw [Int.max_eq_left h]; exact h3
  · rcases Nat.lt_or_ge i k with h | h
    · have := h4 i h
      exact ⟨this.1, by omega, by omega⟩
    · obtain rfl : i = k := by omega
      exact ⟨hn, by omega, by omega⟩

def greysOK (L cs : List Int) (lo hi : Int) : Prop := (cs.length = 0 ∧ lo = 1 ∧ hi = 0) ∨ (0 < cs.length ∧ Got L cs cs.length lo hi ∧ ∀ i, i < cs.length → 1 ≤ iz cs i ∧ iz cs i ≤ 16)

theorem colours_in {cs : List Int} (h : anyI (fun x => !wi x 1 16) cs = false) : ∀ i, i < cs.length → 1 ≤ iz cs i ∧ iz cs i ≤ 16 := by
  intro k hk
  unfold anyI at h
  rw [List.any_eq_false] at h
  have h5 := h k (List.mem_range.2 hk)
  unfold wi at h5
  simp at h5
  omega

theorem mz_spec {cs : List Int} {k : Nat} (h : 1 ≤ iz cs k ∧ iz cs k ≤ 16) : iz cs k = (mz cs k : Int) + 1 ∧ mz cs k < 16 := by
  unfold mz
  omega

theorem tab_get (L : List Int) {m : Nat} (h : m < 16) : (tab L).toArray[m]? = some (.int .i64 (gr L m)) := by
  rw [List.getElem?_toArray]
  unfold tab
  rw [List.getElem?_map, List.getElem?_range h]
  rfl

set_option maxRecDepth 100000 in
set_option maxHeartbeats 2000000 in
theorem greys_any (id : Int) (v u : Value) (L cs : List Int) (w : World) (h : SlI w v L) (hc : SlI w u cs) :
    Calls Try.prog 32 #[film id v, u] w fun e w' => ∃ lo hi E, e = .returned (.tuple #[spn lo hi, .int .i64 E]) ∧ (E = 0 → vFilm id L = true ∧ greysOK L cs lo hi) ∧ Below w.heap.size w w' := by
  have b0 : Below w.heap.size w ((w.alloc (filmObj id v)).alloc (spnObj 0 0)) := ((Below.refl _ _).alloc (Nat.le_refl _) _).alloc (by simp) _
  have z0 : ((w.alloc (filmObj id v)).alloc (spnObj 0 0)).heap.size = w.heap.size + 2 := by simp
  have f0 := film_new w id v
  have s0 := Sp.new (w.alloc (filmObj id v)) 0 0
  rw [World.size_alloc] at s0
  have f1 := pt_old (w.alloc (filmObj id v)) (spnObj 0 0) f0.1
  have f2 := pt_old (w.alloc (filmObj id v)) (spnObj 0 0) f0.2
  have C1 := validFilm_any id v L _ (h.keep b0)
  go_enter Try.func32, Try.ntmps32
  go_wp2_with fail
  refine C1.mono ?_
  rintro e w1 ⟨rfl, hb⟩
  have g1 := keep_cell hb f1
  have g2 := keep_cell hb f2
  have r := s0.keep hb
  have b1 := keep_below b0 hb
  have z1 : w.heap.size + 2 ≤ w1.heap.size := by have := hb.size; omega
  clear C1 f1 f2 s0 f0 z0 hb b0
  have r0 := r.c0
  have r1 := r.c1
  have r2 := r.f 0
  have r3 := r.f 1
  obtain ⟨q, hq⟩ : ∃ q, vFilm id L = q := ⟨_, rfl⟩
  rw [hq]
  cases q
  · clear hq
    go_wp2
    refine bodyPost_ret (v := .tuple #[spn 0 0, .int .i64 32]) ?_ rfl ⟨_, _, _, rfl, by simp, (b1.setCell (by show w.heap.size ≤ w.heap.size + 1; omega) _).setCell (by show w.heap.size ≤ w.heap.size + 1; omega) _⟩
    exact (results_cell_tmp (fn := Try.f32) rfl _ (by rfl) (r.set 0 0).load).trans (by rfl)
  · obtain ⟨hL, -, hval⟩ := vFilm_val hq
    have HQ := Lib.hid hq
    clear hq
    have X1 := contains59_any u cs w1 (hc.keep b1)
    have X2 := rising_any u cs w1 (hc.keep b1)
    have HCI := Lib.hid (colours_in (cs := cs))
    generalize anyI (fun x => !wi x 1 16) cs = bad at X1 HCI
    generalize rises cs = up at X2
    cases bad
    · cases up
      · go_wp2_with (first
          | (go_at_call 43; with_reducible refine X1.mono ?_; rintro e w2 ⟨rfl, rfl⟩)
          | (go_at_call 60; with_reducible refine X2.mono ?_; rintro e w2 ⟨rfl, hb⟩
             have r' := r.keep hb
             have r0' := r'.c0
             have r1' := r'.c1
             have r2' := r'.f 0
             have r3' := r'.f 1
             have b2 := keep_below b1 hb))
        refine bodyPost_ret (v := .tuple #[spn 0 0, .int .i64 1]) ?_ rfl ⟨_, _, _, rfl, by simp, (b2.setCell (by show w.heap.size ≤ w.heap.size + 1; omega) _).setCell (by show w.heap.size ≤ w.heap.size + 1; omega) _⟩
        exact (results_cell_tmp (fn := Try.f32) rfl _ (by rfl) (r'.set 0 0).load).trans (by rfl)
      · have hc' := hc
        obtain ⟨cad, ccap, rfl, hcl, hcc⟩ := hc'
        have HCC := Lib.hid hcc
        clear hcc
        by_cases hn0 : cs.length = 0
        · have j0 : ((cs.length : Int) == 0) = true := by simp [hn0]
          have H0 := Lib.hid hn0
          clear hn0
          go_wp2_with (first
            | (go_at_call 43; with_reducible refine X1.mono ?_; rintro e w2 ⟨rfl, rfl⟩)
            | (go_at_call 60; with_reducible refine X2.mono ?_; rintro e w2 ⟨rfl, hb⟩
               have r' := r.keep hb
               have r0' := r'.c0
               have r1' := r'.c1
               have r2' := r'.f 0
               have r3' := r'.f 1
               have b2 := keep_below b1 hb))
          refine bodyPost_ret (v := .tuple #[spn 1 0, .int .i64 0]) ?_ rfl ⟨1, 0, 0, rfl, fun _ => ⟨HQ.out, .inl ⟨H0.out, rfl, rfl⟩⟩, (b2.setCell (by show w.heap.size ≤ w.heap.size + 1; omega) _).setCell (by show w.heap.size ≤ w.heap.size + 1; omega) _⟩
          exact (results_cell_tmp (fn := Try.f32) rfl _ (by rfl) (r'.set 1 0).load).trans (by rfl)
        · have j0 : ((cs.length : Int) == 0) = false := by simp [hn0]
          have hpos : 0 < cs.length := by omega
          have hci := HCI.out rfl
          clear HCI hn0
          have HPOS := Lib.hid hpos
          have HCIN := Lib.hid hci
          clear hci hpos
          go_upto_region 8 with (first
            | (go_at_call 43; with_reducible refine X1.mono ?_; rintro e w2 ⟨rfl, rfl⟩)
            | (go_at_call 60; with_reducible refine X2.mono ?_; rintro e w2 ⟨rfl, hb⟩
               have r' := r.keep hb
               have b2 := keep_below b1 hb
               have g1' := keep_cell hb g1
               have g2' := keep_cell hb g2
               have z2 : w.heap.size + 2 ≤ w2.heap.size := Nat.le_trans z1 hb.size))
          clear X1 X2 g1 g2 r0 r1 r2 r3 r b1 z1 hb j0
          have hpos := HPOS.out
          have C2 := tableOf_any id v L w2 (h.keep b2) hL
          go_wp2_with fail
          refine C2.mono ?_
          rintro e w3 ⟨rfl, hb⟩
          have r3 := r'.keep hb
          have b3 := keep_below b2 hb
          have z3 : w.heap.size + 2 ≤ w3.heap.size := Nat.le_trans z2 hb.size
          clear C2 r' b2 g1' g2' z2 hb
          go_upto_region 9 with (refine wpList_store_new rfl 94 (.tmp 7) (.tmp 30) rfl (tab L).toArray rfl rfl (by kernel_rfl) rfl (tab_one L) ?_)
          have hT := alloc_heap_new w3 (Obj.cells (tab L).toArray 94)
          have r4 := r3.alloc (Obj.cells (tab L).toArray 94)
          have b4 := b3.alloc (Nat.le_trans (by omega) z3) (Obj.cells (tab L).toArray 94)
          have z4 := World.size_alloc w3 (Obj.cells (tab L).toArray 94)
          change Code.wp _ _ _ _ (w3.alloc (Obj.cells (tab L).toArray 94))
          obtain ⟨w4, hw4⟩ : ∃ w4, w3.alloc (Obj.cells (tab L).toArray 94) = w4 := ⟨_, rfl⟩
          obtain ⟨B, hB⟩ : ∃ B, w3.heap.size = B := ⟨_, rfl⟩
          rw [hw4] at hT r4 b4 z4 ⊢
          rw [hB] at hT z4 z3 ⊢
          clear hw4 hB r3 b3 w3
          obtain ⟨cb, coff, rfl, -⟩ := HCC.out 0 hpos
          have HC : ∀ k, k < cs.length → w.cell? ⟨cb, coff + k, none⟩ = some (.int .i64 (iz cs k)) := by
            intro k hk
            obtain ⟨b', off', e, hcell⟩ := HCC.out k hk
            cases e
            exact hcell
          have HCX := Lib.hid HC
          have c0 := keep_cell b4 (HC 0 hpos)
          obtain ⟨e0, m0⟩ := mz_spec (HCIN.out 0 hpos)
          rw [Nat.add_zero, e0] at c0
          have t0 := cell_of hT (tab_get L m0)
          obtain ⟨m, hm⟩ : ∃ m, mz cs 0 = m := ⟨_, rfl⟩
          have HG := Got.start (L := L) hpos
          rw [hm] at c0 t0 m0 HG
          obtain ⟨g, hg⟩ : ∃ g, gr L m = g := ⟨_, rfl⟩
          rw [hg] at t0 HG
          have e1 : IntKind.i64.wrap (m : Int) = m := wi64 _ (by omega)
          have j1 : (m : Int) < 16 := by omega
          have jl : (0 : Int) < (cs.length : Int) := by omega
          have HG0 := Lib.hid HG
          have HT := Lib.hid hT
          clear e0 hm hg HC HG hT HCC
          go_upto_region 10 with (go_at_call 46; refine (one_any _ _).mono ?_; rintro e w5 ⟨rfl, hb⟩)
          have hT5 := (hb.block B (by omega)).trans HT.out
          have r5 := r4.keep hb
          have b5 := keep_below b4 hb
          have z5 : B + 1 ≤ w5.heap.size := by have := hb.size; omega
          have s6 := Sp.new w5 g g
          have hT6 := (alloc_heap_old w5 (Obj.cells #[.int .i64 g, .int .i64 g] 42) (show B < w5.heap.size by omega)).trans hT5
          have r6 := r5.alloc (Obj.cells #[.int .i64 g, .int .i64 g] 42)
          have b6 := b5.alloc b5.size (Obj.cells #[.int .i64 g, .int .i64 g] 42)
          obtain ⟨w6, hw6⟩ : ∃ w6, w5.alloc (Obj.cells #[Value.int .i64 g, .int .i64 g] 42) = w6 := ⟨_, rfl⟩
          obtain ⟨C, hC⟩ : ∃ C, w5.heap.size = C := ⟨_, rfl⟩
          rw [hw6] at s6 hT6 r6 b6 ⊢
          rw [hC] at s6 z5 ⊢
          clear hw6 hC HT hT5 r5 b5 hb r4 b4 z4 c0 t0 e1 j1 w5 w4
          go_wp2_with fail
          go_loopw [40] (fun i wr => ∃ k : Nat, k ≤ cs.length ∧ i = .int .i64 k ∧ Below w.heap.size w wr ∧ Sp wr (w.heap.size + 1) 0 0 ∧ wr.heap[B]? = some (.cells (tab L).toArray 94 (0, 0)) ∧ ∃ lo hi, Sp wr C lo hi ∧ Got L cs k lo hi) (fun i _ => cs.length - (intOf i).toNat)
          case atStart => exact ⟨0, Nat.zero_le _, rfl, b6, r6, hT6, g, g, s6, HG0.out⟩
          case round =>
            clear b6 r6 hT6 s6 HG0 w6 m0
            obtain ⟨k, hk, rfl, hb, r, hT, lo, hi, sC, hG⟩ := hrel
            have HGO := Lib.hid hG
            clear hG
            have r0 := r.c0
            have r1 := r.c1
            have r2 := r.f 0
            have r3 := r.f 1
            have s0 := sC.c0
            have s1 := sC.c1
            have s2 := sC.f 0
            have s3 := sC.f 1
            by_cases hlt : k < cs.length
            · have j1 : (k : Int) < (cs.length : Int) := by omega
              have c0 := keep_cell hb (HCX.out k hlt)
              obtain ⟨e0, m0⟩ := mz_spec (HCIN.out k hlt)
              rw [e0] at c0
              have t0 := cell_of hT (tab_get L m0)
              have hstep := fun hn => HGO.out.step hlt hn
              obtain ⟨m', hm⟩ : ∃ m', mz cs k = m' := ⟨_, rfl⟩
              rw [hm] at c0 t0 m0 hstep
              obtain ⟨g', hg⟩ : ∃ g', gr L m' = g' := ⟨_, rfl⟩
              rw [hg] at t0 hstep
              have HS := Lib.hid hstep
              have e1 : IntKind.i64.wrap (m' : Int) = m' := wi64 _ (by omega)
              have j2 : (m' : Int) < 16 := by omega
              have HT := Lib.hid hT
              clear e0 hm hg hstep hT
              by_cases hg1 : g' = -1
              · subst hg1
                go_wp2
                refine bodyPost_ret (v := .tuple #[spn 0 0, .int .i64 3]) ?_ rfl ⟨_, _, _, rfl, by simp, (hb.setCell (by show w.heap.size ≤ w.heap.size + 1; omega) _).setCell (by show w.heap.size ≤ w.heap.size + 1; omega) _⟩
                exact (results_cell_tmp (fn := Try.f32) rfl _ (by rfl) (r.set 0 0).load).trans (by rfl)
              · have HNE := Lib.hid hg1
                go_wp2
                rw [show (if g' < lo then g' else lo) = min lo g' from by split <;> omega, show (if hi < g' then g' else hi) = max hi g' from by split <;> omega]
                refine ⟨⟨k + 1, by omega, by simp, (hb.setCell (by show w.heap.size ≤ C; omega) _).setCell (by show w.heap.size ≤ C; omega) _, (r.other _ (by omega)).other _ (by omega), ?_, _, _, sC.set _ _, HS.out HNE.out⟩, by simp [intOf]; omega⟩
                exact (Below.heap_setCell _ _ _ _ (by show B ≠ C; omega)).trans ((Below.heap_setCell _ _ _ _ (by show B ≠ C; omega)).trans HT.out)
            · obtain rfl : k = cs.length := by omega
              have hpos := HPOS.out
              go_wp2
              refine bodyPost_ret (v := .tuple #[spn lo hi, .int .i64 0]) ?_ rfl ⟨lo, hi, 0, rfl, fun _ => ⟨HQ.out, .inr ⟨hpos, HGO.out, HCIN.out⟩⟩, (hb.setCell (by show w.heap.size ≤ w.heap.size + 1; omega) _).setCell (by show w.heap.size ≤ w.heap.size + 1; omega) _⟩
              exact (results_cell_tmp (fn := Try.f32) rfl _ (by rfl) (r.set lo hi).load).trans (by rfl)
    · go_wp2_with (first
        | (go_at_call 43; with_reducible refine X1.mono ?_; rintro e w2 ⟨rfl, rfl⟩))
      refine bodyPost_ret (v := .tuple #[spn 0 0, .int .i64 1]) ?_ rfl ⟨_, _, _, rfl, by simp, (b1.setCell (by show w.heap.size ≤ w.heap.size + 1; omega) _).setCell (by show w.heap.size ≤ w.heap.size + 1; omega) _⟩
      exact (results_cell_tmp (fn := Try.f32) rfl _ (by rfl) (r.set 0 0).load).trans (by rfl)

end Go.Proofs.Ytiebbbeijlfedaa
