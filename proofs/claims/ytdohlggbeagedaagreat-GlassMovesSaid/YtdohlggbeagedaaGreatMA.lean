/- The abstract machine, part MA. -/
import Derived.Test.YtdohlggbeagedaaGreatXA
import Derived.Test.YtdohlggbeagedaaGreatLZ
import Derived.Test.YtdohlggbeagedaaGreatVQ
import Derived.Deep.Cut
/- What fits an outline fits the moved one by the composed setting, plain. -/
namespace Go.Proofs.YtdohlggbeagedaaGreat
open Go Go.RowKit Go.Proofs Go.Abs

/-- The measures that belong to gauge i, by the corners on which the setting lays. -/
theorem mea_lay {Q : List (Int × Int)} {n s : Nat} {b : Bool} (h3 : 3 ≤ n) (hn : n = Q.length) (hs : s < n) {i : Nat} (hi : i < n) :
    meA Q n s b i = sqK Q (layN n s b i) (layN n s b ((i + 1) % n)) ∧ meB Q n s b i = sqK Q (layN n s b i) (layN n s b ((i + 2) % n)) ∧ meC Q n s b i = bendS (px Q) (py Q) n (layN n s b ((i + 1) % n)) := by
  have i1 : (i + 1) % n < n := Nat.mod_lt _ (by omega)
  have i2 : (i + 2) % n < n := Nat.mod_lt _ (by omega)
  unfold meA meB meC m1 m2 m3
  rw [← hn]
  cases b
  · simp only [Bool.false_eq_true, if_false]
    rw [layN_forth hs hi, layN_forth hs i1, layN_forth hs i2, fw_one h3 hs hi 1 (by omega), fw_one h3 hs hi 2 (by omega)]
    exact ⟨rfl, rfl, rfl⟩
  · simp only [if_true]
    have k1 := kb_lt hs hi
    rw [layN_kb h3 hs hi, layN_kb h3 hs i1, layN_kb h3 hs i2, kb_one h3 hs hi, kb_two h3 hs hi]
    have e1 : (pr n (kb n s i) + 1) % n = kb n s i := by
      unfold pr
      split
      · rw [show n - 1 + 1 = n by omega, Nat.mod_self]; omega
      · rw [show kb n s i - 1 + 1 = kb n s i by omega, Nat.mod_eq_of_lt k1]
    have e2 : (pr n (kb n s i) + 2) % n = (kb n s i + 1) % n := by
      have := mod_forth (pr_lt k1) h3
      rw [e1] at this
      exact this.symm
    rw [e1, e2]
    exact ⟨sqK_comm _ _ _, sqK_comm _ _ _, rfl⟩

/-- A congruence keeps what fits. -/
theorem cong_fits {P Q : List (Int × Int)} {G : List G5} {S s : Nat} {b c : Bool} (h3 : 3 ≤ P.length) (hn : P.length = Q.length) (hS : S < P.length) (hs : s < P.length) (h : congS (px P) (py P) (px Q) (py Q) P.length S b = true) :
    fitP G P P.length s c = fitP G Q Q.length (comN P.length s c S b) (c != b) := by
  obtain ⟨hb, hq⟩ := cong_all h
  have hcm : comN P.length s c S b < P.length := comN_lt hs hS
  rw [fit_eq _ _ _ hs, fit_eq _ _ _ (by omega)]
  unfold fitR
  rw [← hn, Bool.eq_iff_iff, List.all_eq_true, List.all_eq_true]
  have key : ∀ i, i < P.length → meA Q P.length (comN P.length s c S b) (c != b) i = meA P P.length s c i ∧ meB Q P.length (comN P.length s c S b) (c != b) i = meB P P.length s c i ∧ meC Q P.length (comN P.length s c S b) (c != b) i = meC P P.length s c i := by
    intro i hi
    have i1 : (i + 1) % P.length < P.length := Nat.mod_lt _ (by omega)
    have i2 : (i + 2) % P.length < P.length := Nat.mod_lt _ (by omega)
    obtain ⟨a1, a2, a3⟩ := mea_lay (Q := P) (b := c) h3 rfl hs hi
    obtain ⟨c1, c2, c3⟩ := mea_lay (Q := Q) (b := c != b) h3 hn hcm hi
    rw [a1, a2, a3, c1, c2, c3, ← lay_com hs hS hi, ← lay_com hs hS i1, ← lay_com hs hS i2]
    exact ⟨(hq _ _ (layN_lt hs hi) (layN_lt hs i1)).symm, (hq _ _ (layN_lt hs hi) (layN_lt hs i2)).symm, (hb _ (layN_lt hs i1)).symm⟩
  constructor
  · intro g i hi
    obtain ⟨k1, k2, k3⟩ := key i (List.mem_range.1 hi)
    rw [k1, k2, k3]
    exact g i hi
  · intro g i hi
    obtain ⟨k1, k2, k3⟩ := key i (List.mem_range.1 hi)
    have := g i hi
    rwa [k1, k2, k3] at this

/-- Fits of an outline and of the moved one. -/
theorem move_fits {L : List (Int × Int)} {G : List G5} {t : Int} {b : Bool} {x y : Int} {s : Nat} {c : Bool} (hv : vOut L = true) (hm : vPts (mvL b t.toNat x y L) = true) (hn : G.length = L.length) (hs : s < L.length) :
    fitsV true G L s c = fitsV true G (mvQ b t.toNat x y L) (Plain.ed (shiftS b L.length (mvM b t.toNat x y L) : Nat) b L.length s) (c != b) ∧ vOut (mvQ b t.toNat x y L) = true ∧ (mvQ b t.toNat x y L).length = L.length ∧ shiftS b L.length (mvM b t.toNat x y L) < L.length ∧
      vset (Plain.ed (shiftS b L.length (mvM b t.toNat x y L) : Nat) b L.length s) L.length = true := by
  have hQ := mvQ_out hv hm
  have hl := mvQ_len (b := b) (t := t.toNat) (x := x) (y := y) (L := L)
  obtain ⟨h3, h24, -⟩ := vOut_n hv
  have hse := mvQ_sett hv hm
  generalize mvQ b t.toNat x y L = Q at hQ hl hse ⊢
  generalize shiftS b L.length (mvM b t.toNat x y L) = S at hse ⊢
  unfold settV at hse
  rw [if_pos ⟨hv, hQ, hl.symm⟩] at hse
  obtain ⟨hS, hcg⟩ := mem_settL.1 hse
  have hci : (comN L.length s c S b : Int) = Plain.ed S b L.length s := comN_int hs hS
  have hcl : comN L.length s c S b < L.length := comN_lt hs hS
  have v1 : vset (s : Int) L.length = true := by unfold vset; simp; omega
  have v2 : vset (Plain.ed S b L.length s) L.length = true := by rw [← hci]; unfold vset; simp; omega
  refine ⟨?_, hQ, hl, hS, v2⟩
  unfold fitsV
  rw [hn, hv, hQ, v1, v2, decide_eq_true rfl, hl, decide_eq_true rfl, ← hci]
  simp only [Bool.true_and, Int.toNat_natCast]
  rw [cong_fits h3 hl.symm hS hs hcg, hl]

end Go.Proofs.YtdohlggbeagedaaGreat

/- Walks: law 8 (GlassMoves). -/
namespace Go.Proofs.YtdohlggbeagedaaGreat
open Go Go.RowKit Go.Proofs Go.Abs

abbrev moObj (t : Int) (b : Bool) (x y : Int) : Obj := .cells #[.int .i64 t, .bool b, .int .i64 x, .int .i64 y] 68

theorem pcs_st_mo (w : World) (id c r m z : Int) (vg vm : Value) (sh : Int) (bk : Bool) (t : Int) (b : Bool) (x y : Int) :
    (((w.alloc (pcsObj id c r m z vg vm)).alloc (stObj sh bk)).alloc (moObj t b x y)).heap[w.heap.size]? = some (pcsObj id c r m z vg vm) ∧ (((w.alloc (pcsObj id c r m z vg vm)).alloc (stObj sh bk)).alloc (moObj t b x y)).heap[w.heap.size + 1]? = some (stObj sh bk) ∧
    (((w.alloc (pcsObj id c r m z vg vm)).alloc (stObj sh bk)).alloc (moObj t b x y)).heap[w.heap.size + 2]? = some (moObj t b x y) := by
  obtain ⟨h1, h2⟩ := pcs_st w id c r m z vg vm sh bk
  refine ⟨(alloc_heap_old _ _ (by simp; omega)).trans h1, (alloc_heap_old _ _ (by simp)).trans h2, ?_⟩
  have := alloc_heap_new ((w.alloc (pcsObj id c r m z vg vm)).alloc (stObj sh bk)) (moObj t b x y)
  rwa [World.size_alloc, World.size_alloc] at this

set_option maxRecDepth 100000 in
set_option maxHeartbeats 8000000 in
theorem movesLaw_bad (id c r m z sh t x y : Int) (bk b : Bool) (vg vm pv : Value) (ag la : Option Addr) (n l gcap lcap : Nat) (pb ov sv mv : Bool) (w : World) (hvg : vg = .slice ag n gcap) (hpv : pv = .slice la l lcap)
    (H35 : ∀ W, Below w.heap.size w W → Calls Tryz.prog 35 #[pcs id c r m z vg vm] W fun e w' => e = .returned (.bool pb) ∧ Below W.heap.size W w')
    (H29 : ∀ W, Below w.heap.size w W → Calls Tryz.prog 29 #[pv] W fun e w' => e = .returned (.bool ov) ∧ Below W.heap.size W w')
    (H36 : ∀ W, Calls Tryz.prog 36 #[st sh bk, .int .i64 (n : Nat)] W fun e w' => e = .returned (.bool sv) ∧ Below W.heap.size W w')
    (H40 : ∀ W, Calls Tryz.prog 40 #[mo t b x y] W fun e w' => e = .returned (.bool mv) ∧ Below W.heap.size W w')
    (hbad : (pb && (ov && (decide (n = l) && (sv && mv)))) = false) :
    Calls Tryz.prog 8 #[pcs id c r m z vg vm, pv, st sh bk, mo t b x y] w fun e w' => e = .returned (.bool true) ∧ Below w.heap.size w w' := by
  have b0 : Below w.heap.size w (((w.alloc (pcsObj id c r m z vg vm)).alloc (stObj sh bk)).alloc (moObj t b x y)) := (((Below.refl _ _).alloc (Nat.le_refl _) _).alloc (by simp) _).alloc (by simp; omega) _
  obtain ⟨hp0, hq0, hm0⟩ := pcs_st_mo w id c r m z vg vm sh bk t b x y
  subst hvg hpv
  have H35 := Lib.hid H35
  have H29 := Lib.hid H29
  have H36 := Lib.hid H36
  have H40 := Lib.hid H40
  have he : decide (n = l) = !((n : Int) != (l : Int)) := by
    rw [Bool.eq_iff_iff]
    simp
    omega
  rw [he] at hbad
  obtain ⟨ne, hne⟩ : ∃ ne, ((n : Int) != (l : Int)) = ne := ⟨_, rfl⟩
  rw [hne] at hbad
  clear he
  go_enter Tryz.func8, Tryz.ntmps8
  go_upto_region 2 with (go_at_call 10; refine (awake_any _).mono ?_; rintro e w1 ⟨rfl, hb⟩)
  have b1 := keep_below b0 hb
  have hp := (hb.block w.heap.size (by simp; omega)).trans hp0
  have hq := (hb.block (w.heap.size + 1) (by simp)).trans hq0
  have hm := (hb.block (w.heap.size + 2) (by simp)).trans hm0
  have q0 := cell_of hp (k := 0) rfl
  have q1 := cell_of hp (k := 1) rfl
  have q2 := cell_of hp (k := 2) rfl
  have q3 := cell_of hp (k := 3) rfl
  have q4 := cell_of hp (k := 4) rfl
  have q5 := cell_of hp (k := 5) rfl
  have q6 := cell_of hp (k := 6) rfl
  have s0 := cell_of hq (k := 0) rfl
  have s1 := cell_of hq (k := 1) rfl
  have m0 := cell_of hm (k := 0) rfl
  have m1 := cell_of hm (k := 1) rfl
  have m2 := cell_of hm (k := 2) rfl
  have m3 := cell_of hm (k := 3) rfl
  clear hp hq hm hp0 hq0 hm0 b0 hb
  cases pb
  · clear hbad
    go_wp2_with (first
      | (go_at_call 35; with_reducible refine (H35.out _ b1).mono ?_; rintro e w2 ⟨rfl, hb⟩
         have b1 := keep_below b1 hb
         have q0 := keep_cell hb q0
         have q1 := keep_cell hb q1
         have q2 := keep_cell hb q2
         have q3 := keep_cell hb q3
         have q4 := keep_cell hb q4
         have q5 := keep_cell hb q5
         have q6 := keep_cell hb q6
         have s0 := keep_cell hb s0
         have s1 := keep_cell hb s1
         have m0 := keep_cell hb m0
         have m1 := keep_cell hb m1
         have m2 := keep_cell hb m2
         have m3 := keep_cell hb m3
         clear hb)
      | (go_at_call 29; with_reducible refine (H29.out _ b1).mono ?_; rintro e w3 ⟨rfl, hb⟩
         have b1 := keep_below b1 hb
         have q0 := keep_cell hb q0
         have q1 := keep_cell hb q1
         have q2 := keep_cell hb q2
         have q3 := keep_cell hb q3
         have q4 := keep_cell hb q4
         have q5 := keep_cell hb q5
         have q6 := keep_cell hb q6
         have s0 := keep_cell hb s0
         have s1 := keep_cell hb s1
         have m0 := keep_cell hb m0
         have m1 := keep_cell hb m1
         have m2 := keep_cell hb m2
         have m3 := keep_cell hb m3
         clear hb)
      | (go_at_call 36; with_reducible refine (H36.out _).mono ?_; rintro e w4 ⟨rfl, hb⟩
         have b1 := keep_below b1 hb
         have q0 := keep_cell hb q0
         have q1 := keep_cell hb q1
         have q2 := keep_cell hb q2
         have q3 := keep_cell hb q3
         have q4 := keep_cell hb q4
         have q5 := keep_cell hb q5
         have q6 := keep_cell hb q6
         have s0 := keep_cell hb s0
         have s1 := keep_cell hb s1
         have m0 := keep_cell hb m0
         have m1 := keep_cell hb m1
         have m2 := keep_cell hb m2
         have m3 := keep_cell hb m3
         clear hb)
      | (go_at_call 40; with_reducible refine (H40.out _).mono ?_; rintro e w5 ⟨rfl, hb⟩
         have b1 := keep_below b1 hb
         have q0 := keep_cell hb q0
         have q1 := keep_cell hb q1
         have q2 := keep_cell hb q2
         have q3 := keep_cell hb q3
         have q4 := keep_cell hb q4
         have q5 := keep_cell hb q5
         have q6 := keep_cell hb q6
         have s0 := keep_cell hb s0
         have s1 := keep_cell hb s1
         have m0 := keep_cell hb m0
         have m1 := keep_cell hb m1
         have m2 := keep_cell hb m2
         have m3 := keep_cell hb m3
         clear hb))
    go_ret
    exact ⟨rfl, b1⟩
  · cases ov
    · clear hbad
      go_wp2_with (first
        | (go_at_call 35; with_reducible refine (H35.out _ b1).mono ?_; rintro e w2 ⟨rfl, hb⟩
           have b1 := keep_below b1 hb
           have q0 := keep_cell hb q0
           have q1 := keep_cell hb q1
           have q2 := keep_cell hb q2
           have q3 := keep_cell hb q3
           have q4 := keep_cell hb q4
           have q5 := keep_cell hb q5
           have q6 := keep_cell hb q6
           have s0 := keep_cell hb s0
           have s1 := keep_cell hb s1
           have m0 := keep_cell hb m0
           have m1 := keep_cell hb m1
           have m2 := keep_cell hb m2
           have m3 := keep_cell hb m3
           clear hb)
        | (go_at_call 29; with_reducible refine (H29.out _ b1).mono ?_; rintro e w3 ⟨rfl, hb⟩
           have b1 := keep_below b1 hb
           have q0 := keep_cell hb q0
           have q1 := keep_cell hb q1
           have q2 := keep_cell hb q2
           have q3 := keep_cell hb q3
           have q4 := keep_cell hb q4
           have q5 := keep_cell hb q5
           have q6 := keep_cell hb q6
           have s0 := keep_cell hb s0
           have s1 := keep_cell hb s1
           have m0 := keep_cell hb m0
           have m1 := keep_cell hb m1
           have m2 := keep_cell hb m2
           have m3 := keep_cell hb m3
           clear hb)
        | (go_at_call 36; with_reducible refine (H36.out _).mono ?_; rintro e w4 ⟨rfl, hb⟩
           have b1 := keep_below b1 hb
           have q0 := keep_cell hb q0
           have q1 := keep_cell hb q1
           have q2 := keep_cell hb q2
           have q3 := keep_cell hb q3
           have q4 := keep_cell hb q4
           have q5 := keep_cell hb q5
           have q6 := keep_cell hb q6
           have s0 := keep_cell hb s0
           have s1 := keep_cell hb s1
           have m0 := keep_cell hb m0
           have m1 := keep_cell hb m1
           have m2 := keep_cell hb m2
           have m3 := keep_cell hb m3
           clear hb)
        | (go_at_call 40; with_reducible refine (H40.out _).mono ?_; rintro e w5 ⟨rfl, hb⟩
           have b1 := keep_below b1 hb
           have q0 := keep_cell hb q0
           have q1 := keep_cell hb q1
           have q2 := keep_cell hb q2
           have q3 := keep_cell hb q3
           have q4 := keep_cell hb q4
           have q5 := keep_cell hb q5
           have q6 := keep_cell hb q6
           have s0 := keep_cell hb s0
           have s1 := keep_cell hb s1
           have m0 := keep_cell hb m0
           have m1 := keep_cell hb m1
           have m2 := keep_cell hb m2
           have m3 := keep_cell hb m3
           clear hb))
      go_ret
      exact ⟨rfl, b1⟩
    · cases ne
      · cases sv
        · clear hbad
          go_wp2_with (first
            | (go_at_call 35; with_reducible refine (H35.out _ b1).mono ?_; rintro e w2 ⟨rfl, hb⟩
               have b1 := keep_below b1 hb
               have q0 := keep_cell hb q0
               have q1 := keep_cell hb q1
               have q2 := keep_cell hb q2
               have q3 := keep_cell hb q3
               have q4 := keep_cell hb q4
               have q5 := keep_cell hb q5
               have q6 := keep_cell hb q6
               have s0 := keep_cell hb s0
               have s1 := keep_cell hb s1
               have m0 := keep_cell hb m0
               have m1 := keep_cell hb m1
               have m2 := keep_cell hb m2
               have m3 := keep_cell hb m3
               clear hb)
            | (go_at_call 29; with_reducible refine (H29.out _ b1).mono ?_; rintro e w3 ⟨rfl, hb⟩
               have b1 := keep_below b1 hb
               have q0 := keep_cell hb q0
               have q1 := keep_cell hb q1
               have q2 := keep_cell hb q2
               have q3 := keep_cell hb q3
               have q4 := keep_cell hb q4
               have q5 := keep_cell hb q5
               have q6 := keep_cell hb q6
               have s0 := keep_cell hb s0
               have s1 := keep_cell hb s1
               have m0 := keep_cell hb m0
               have m1 := keep_cell hb m1
               have m2 := keep_cell hb m2
               have m3 := keep_cell hb m3
               clear hb)
            | (go_at_call 36; with_reducible refine (H36.out _).mono ?_; rintro e w4 ⟨rfl, hb⟩
               have b1 := keep_below b1 hb
               have q0 := keep_cell hb q0
               have q1 := keep_cell hb q1
               have q2 := keep_cell hb q2
               have q3 := keep_cell hb q3
               have q4 := keep_cell hb q4
               have q5 := keep_cell hb q5
               have q6 := keep_cell hb q6
               have s0 := keep_cell hb s0
               have s1 := keep_cell hb s1
               have m0 := keep_cell hb m0
               have m1 := keep_cell hb m1
               have m2 := keep_cell hb m2
               have m3 := keep_cell hb m3
               clear hb)
            | (go_at_call 40; with_reducible refine (H40.out _).mono ?_; rintro e w5 ⟨rfl, hb⟩
               have b1 := keep_below b1 hb
               have q0 := keep_cell hb q0
               have q1 := keep_cell hb q1
               have q2 := keep_cell hb q2
               have q3 := keep_cell hb q3
               have q4 := keep_cell hb q4
               have q5 := keep_cell hb q5
               have q6 := keep_cell hb q6
               have s0 := keep_cell hb s0
               have s1 := keep_cell hb s1
               have m0 := keep_cell hb m0
               have m1 := keep_cell hb m1
               have m2 := keep_cell hb m2
               have m3 := keep_cell hb m3
               clear hb))
          go_ret
          exact ⟨rfl, b1⟩
        · cases mv
          · clear hbad
            go_wp2_with (first
              | (go_at_call 35; with_reducible refine (H35.out _ b1).mono ?_; rintro e w2 ⟨rfl, hb⟩
                 have b1 := keep_below b1 hb
                 have q0 := keep_cell hb q0
                 have q1 := keep_cell hb q1
                 have q2 := keep_cell hb q2
                 have q3 := keep_cell hb q3
                 have q4 := keep_cell hb q4
                 have q5 := keep_cell hb q5
                 have q6 := keep_cell hb q6
                 have s0 := keep_cell hb s0
                 have s1 := keep_cell hb s1
                 have m0 := keep_cell hb m0
                 have m1 := keep_cell hb m1
                 have m2 := keep_cell hb m2
                 have m3 := keep_cell hb m3
                 clear hb)
              | (go_at_call 29; with_reducible refine (H29.out _ b1).mono ?_; rintro e w3 ⟨rfl, hb⟩
                 have b1 := keep_below b1 hb
                 have q0 := keep_cell hb q0
                 have q1 := keep_cell hb q1
                 have q2 := keep_cell hb q2
                 have q3 := keep_cell hb q3
                 have q4 := keep_cell hb q4
                 have q5 := keep_cell hb q5
                 have q6 := keep_cell hb q6
                 have s0 := keep_cell hb s0
                 have s1 := keep_cell hb s1
                 have m0 := keep_cell hb m0
                 have m1 := keep_cell hb m1
                 have m2 := keep_cell hb m2
                 have m3 := keep_cell hb m3
                 clear hb)
              | (go_at_call 36; with_reducible refine (H36.out _).mono ?_; rintro e w4 ⟨rfl, hb⟩
                 have b1 := keep_below b1 hb
                 have q0 := keep_cell hb q0
                 have q1 := keep_cell hb q1
                 have q2 := keep_cell hb q2
                 have q3 := keep_cell hb q3
                 have q4 := keep_cell hb q4
                 have q5 := keep_cell hb q5
                 have q6 := keep_cell hb q6
                 have s0 := keep_cell hb s0
                 have s1 := keep_cell hb s1
                 have m0 := keep_cell hb m0
                 have m1 := keep_cell hb m1
                 have m2 := keep_cell hb m2
                 have m3 := keep_cell hb m3
                 clear hb)
              | (go_at_call 40; with_reducible refine (H40.out _).mono ?_; rintro e w5 ⟨rfl, hb⟩
                 have b1 := keep_below b1 hb
                 have q0 := keep_cell hb q0
                 have q1 := keep_cell hb q1
                 have q2 := keep_cell hb q2
                 have q3 := keep_cell hb q3
                 have q4 := keep_cell hb q4
                 have q5 := keep_cell hb q5
                 have q6 := keep_cell hb q6
                 have s0 := keep_cell hb s0
                 have s1 := keep_cell hb s1
                 have m0 := keep_cell hb m0
                 have m1 := keep_cell hb m1
                 have m2 := keep_cell hb m2
                 have m3 := keep_cell hb m3
                 clear hb))
            go_ret
            exact ⟨rfl, b1⟩
          · simp at hbad
      · clear hbad
        go_wp2_with (first
          | (go_at_call 35; with_reducible refine (H35.out _ b1).mono ?_; rintro e w2 ⟨rfl, hb⟩
             have b1 := keep_below b1 hb
             have q0 := keep_cell hb q0
             have q1 := keep_cell hb q1
             have q2 := keep_cell hb q2
             have q3 := keep_cell hb q3
             have q4 := keep_cell hb q4
             have q5 := keep_cell hb q5
             have q6 := keep_cell hb q6
             have s0 := keep_cell hb s0
             have s1 := keep_cell hb s1
             have m0 := keep_cell hb m0
             have m1 := keep_cell hb m1
             have m2 := keep_cell hb m2
             have m3 := keep_cell hb m3
             clear hb)
          | (go_at_call 29; with_reducible refine (H29.out _ b1).mono ?_; rintro e w3 ⟨rfl, hb⟩
             have b1 := keep_below b1 hb
             have q0 := keep_cell hb q0
             have q1 := keep_cell hb q1
             have q2 := keep_cell hb q2
             have q3 := keep_cell hb q3
             have q4 := keep_cell hb q4
             have q5 := keep_cell hb q5
             have q6 := keep_cell hb q6
             have s0 := keep_cell hb s0
             have s1 := keep_cell hb s1
             have m0 := keep_cell hb m0
             have m1 := keep_cell hb m1
             have m2 := keep_cell hb m2
             have m3 := keep_cell hb m3
             clear hb)
          | (go_at_call 36; with_reducible refine (H36.out _).mono ?_; rintro e w4 ⟨rfl, hb⟩
             have b1 := keep_below b1 hb
             have q0 := keep_cell hb q0
             have q1 := keep_cell hb q1
             have q2 := keep_cell hb q2
             have q3 := keep_cell hb q3
             have q4 := keep_cell hb q4
             have q5 := keep_cell hb q5
             have q6 := keep_cell hb q6
             have s0 := keep_cell hb s0
             have s1 := keep_cell hb s1
             have m0 := keep_cell hb m0
             have m1 := keep_cell hb m1
             have m2 := keep_cell hb m2
             have m3 := keep_cell hb m3
             clear hb)
          | (go_at_call 40; with_reducible refine (H40.out _).mono ?_; rintro e w5 ⟨rfl, hb⟩
             have b1 := keep_below b1 hb
             have q0 := keep_cell hb q0
             have q1 := keep_cell hb q1
             have q2 := keep_cell hb q2
             have q3 := keep_cell hb q3
             have q4 := keep_cell hb q4
             have q5 := keep_cell hb q5
             have q6 := keep_cell hb q6
             have s0 := keep_cell hb s0
             have s1 := keep_cell hb s1
             have m0 := keep_cell hb m0
             have m1 := keep_cell hb m1
             have m2 := keep_cell hb m2
             have m3 := keep_cell hb m3
             clear hb))
        go_ret
        exact ⟨rfl, b1⟩

end Go.Proofs.YtdohlggbeagedaaGreat
