/- Walks: the reference's Where. -/
import Derived.Test.YtlocdadkhdcedaaJB
import Derived.Test.YtlocdadkhdcedaaNE
import Derived.Test.YtlocdadkhdcedaaXA
import Derived.Test.YtlocdadkhdcedaaRA
import Derived.Test.YtlocdadkhdcedaaWC
namespace Go.Proofs.Ytlocdadkhdcedaa
open Go Go.RowKit Go.Proofs Go.Abs Go.Plain

/-- How an edge counts. -/
def cwI (_x0 y0 _x1 y1 _px_ py_ sd : Int) : Int := if y0 ≤ py_ ∧ py_ < y1 ∧ 0 < sd then 1 else if y1 ≤ py_ ∧ py_ < y0 ∧ sd < 0 then -1 else 0

theorem odd_take (L : Pl) (p : P2) (k : Nat) : sumW L p (List.range (k + 1)) = sumW L p (List.range k) + cw (gP L k) (gP L ((k + 1) % L.length)) p := by
  rw [List.range_succ, sumW_snoc]

theorem odd_same {s : Int} : decide ((s + 0) % 2 = 1) = decide (s % 2 = 1) := by rw [Int.add_zero]
theorem odd_up {s : Int} : decide ((s + 1) % 2 = 1) = !decide (s % 2 = 1) := by
  rw [Bool.eq_iff_iff]
  simp only [decide_eq_true_eq, Bool.not_eq_true', decide_eq_false_iff_not]
  omega
theorem odd_dn {s : Int} : decide ((s + -1) % 2 = 1) = !decide (s % 2 = 1) := by
  rw [Bool.eq_iff_iff]
  simp only [decide_eq_true_eq, Bool.not_eq_true', decide_eq_false_iff_not]
  omega

set_option maxRecDepth 100000 in
set_option maxHeartbeats 8000000 in
theorem where_any (b off cap : Nat) (L : Pl) (px_ py_ : Int) (h3 : 3 ≤ L.length) (h24 : L.length ≤ 1000) (hsm : ∀ k, Small (px L k) ∧ Small (py L k)) (hp1 : Small px_) (hp2 : Small py_) (w : World) (hp : PtsAt w b off L) :
    Calls Try.prog 104 #[.slice (some ⟨b, off, none⟩) L.length cap, pt px_ py_] w fun e w' => e = .returned (.int .i64 (whV L (px_, py_))) ∧ Below w.heap.size w w' := by
  have HP := Lib.hid hp
  have HM := Lib.hid hsm
  have HS := Lib.hid (And.intro hp1 hp2)
  have hblt := hp.lt (by omega)
  clear hp hsm hp1 hp2
  have q0 := Pb.new w px_ py_
  have bel : Below w.heap.size w (w.alloc (ptObj px_ py_)) := (Below.refl _ w).alloc (Nat.le_refl _) _
  go_enter Try.func104, Try.ntmps104
  go_wp2_with fail
  go_loopw [5, 6] (fun o i wr => ∃ k : Nat, k ≤ L.length ∧ i = .int .i64 k ∧ o = .bool (decide (sumW L (px_, py_) (List.range k) % 2 = 1)) ∧ (∀ j, j < k → onB L (px_, py_) j = false) ∧ Pb wr w.heap.size px_ py_ ∧ Below w.heap.size w wr) (fun _ i _ => L.length - (intOf i).toNat)
  case atStart => exact ⟨0, Nat.zero_le _, rfl, rfl, fun j hj => absurd hj (Nat.not_lt_zero j), q0, bel⟩
  case round =>
    clear q0 bel
    obtain ⟨k, hk, rfl, rfl, hno, q0, hbel⟩ := hrel
    have HNo := Lib.hid hno
    clear hno
    by_cases hlt : k < L.length
    · have j1 : (k : Int) < (L.length : Int) := by omega
      have a0 := keep_cell hbel (HP.out k hlt).1
      have a1 := keep_cell hbel (HP.out k hlt).2
      have HC0 : Hid (∀ i, i < L.length → w.cell? ⟨b, off + i * 2, none⟩ = some (.int .i64 (px L i)) ∧ w.cell? ⟨b, off + i * 2 + 1, none⟩ = some (.int .i64 (py L i))) := Lib.hid HP.out
      have A1 := at_from (cap := cap) (by omega) HC0 ((k : Int) + 1) ((k + 1) % L.length) (px L ((k + 1) % L.length)) (py L ((k + 1) % L.length)) (Lib.hid ⟨by omega, atN_succ hlt, rfl, rfl⟩)
      have CC := fun w => refCross_any (px L k) (py L k) (px L ((k + 1) % L.length)) (py L ((k + 1) % L.length)) px_ py_ w (HM.out _).1 (HM.out _).2 (HM.out _).1 (HM.out _).2 HS.out.1 HS.out.2
      have ON := fun w => refOn_any (px L k) (py L k) (px L ((k + 1) % L.length)) (py L ((k + 1) % L.length)) px_ py_ w (HM.out _).1 (HM.out _).2 (HM.out _).1 (HM.out _).2 HS.out.1 HS.out.2
      obtain ⟨on, hon⟩ : ∃ c, onSeg px_ py_ (px L k) (py L k) (px L ((k + 1) % L.length)) (py L ((k + 1) % L.length)) = c := ⟨_, rfl⟩
      rw [hon] at ON
      have HON : Hid (onB L (px_, py_) k = on) := Lib.hid hon
      obtain ⟨sd, hsd⟩ : ∃ c, cross (px L k) (py L k) (px L ((k + 1) % L.length)) (py L ((k + 1) % L.length)) px_ py_ = c := ⟨_, rfl⟩
      rw [hsd] at CC
      have HCW : Hid (cw (gP L k) (gP L ((k + 1) % L.length)) (px_, py_) = cwI (px L k) (py L k) (px L ((k + 1) % L.length)) (py L ((k + 1) % L.length)) px_ py_ sd) := Lib.hid (by rw [← hsd]; rfl)
      clear hon hsd
      have HT := Lib.hid (odd_take L (px_, py_) k)
      obtain ⟨s0, hs0⟩ : ∃ s, sumW L (px_, py_) (List.range k) = s := ⟨_, rfl⟩
      rw [hs0] at HT ⊢
      clear hs0
      obtain ⟨od, hod⟩ : ∃ c, decide (s0 % 2 = 1) = c := ⟨_, rfl⟩
      rw [hod]
      have HOD := Lib.hid hod
      clear hod
      generalize px L k = x0, py L k = y0, px L ((k + 1) % L.length) = x1, py L ((k + 1) % L.length) = y1 at a0 a1 A1 CC ON HCW
      have c0 := Pb.new wr x0 y0
      replace q0 := q0.alloc (ptObj x0 y0)
      have b0 := hbel.alloc hbel.size (ptObj x0 y0)
      go_wp2_with fail
      refine (A1 _ b0).mono ?_
      rintro e w1 ⟨rfl, hb⟩
      replace q0 := (q0.keep hb).alloc (ptObj x1 y1)
      replace c0 := (c0.keep hb).alloc (ptObj x1 y1)
      have c1 := Pb.new w1 x1 y1
      have b1 := keep_below b0 hb
      have b2 := b1.alloc b1.size (ptObj x1 y1)
      clear hb A1 b0 b1 a0 a1
      have q00 := q0.c0
      have q01 := q0.c1
      have c00 := c0.c0
      have c01 := c0.c1
      have c10 := c1.c0
      have c11 := c1.c1
      go_wp2_with fail
      refine (ON _).mono ?_
      rintro e w2 ⟨rfl, hb⟩
      replace q0 := q0.keep hb
      replace c0 := c0.keep hb
      replace c1 := c1.keep hb
      have b3 := keep_below b2 hb
      clear hb ON b2 q00 q01 c00 c01 c10 c11
      cases on
      · have HN2 : Hid (∀ j, j < k + 1 → onB L (px_, py_) j = false) := Lib.hid (fun j hj => by
          by_cases h : j < k
          · exact HNo.out j h
          · obtain rfl : j = k := by omega
            exact HON.out)
        have q00 := q0.c0
        have q01 := q0.c1
        have c00 := c0.c0
        have c01 := c0.c1
        have c10 := c1.c0
        have c11 := c1.c1
        by_cases g1 : y0 ≤ py_
        · by_cases g2 : py_ < y1
          · go_wp2_with fail
            refine (CC _).mono ?_
            rintro e w4 ⟨rfl, hb⟩
            replace q0 := q0.keep hb
            replace c0 := c0.keep hb
            replace c1 := c1.keep hb
            have b4 := keep_below b3 hb
            clear hb CC b3 q00 q01 c00 c01 c10 c11
            have q00 := q0.c0
            have q01 := q0.c1
            have c00 := c0.c0
            have c01 := c0.c1
            have c10 := c1.c0
            have c11 := c1.c1
            have g3 : ¬ y1 ≤ py_ := by omega
            by_cases g4 : 0 < sd
            · go_wp2
              refine ⟨⟨k + 1, hlt, by simp, ?_, fun j hj => HN2.out j hj, q0, b4⟩, by simp [intOf]; omega⟩
              rw [HT.out, HCW.out, show cwI x0 y0 x1 y1 px_ py_ sd = 1 by unfold cwI; rw [if_pos (by omega)], odd_up, HOD.out]
            · go_wp2
              refine ⟨⟨k + 1, hlt, by simp, ?_, fun j hj => HN2.out j hj, q0, b4⟩, by simp [intOf]; omega⟩
              rw [HT.out, HCW.out, show cwI x0 y0 x1 y1 px_ py_ sd = 0 by unfold cwI; rw [if_neg (by omega), if_neg (by omega)], odd_same, HOD.out]
          · have g3 : y1 ≤ py_ := by omega
            have g4 : ¬ py_ < y0 := by omega
            go_wp2
            refine ⟨⟨k + 1, hlt, by simp, ?_, fun j hj => HN2.out j hj, q0, b3⟩, by simp [intOf]; omega⟩
            rw [HT.out, HCW.out, show cwI x0 y0 x1 y1 px_ py_ sd = 0 by unfold cwI; rw [if_neg (by omega), if_neg (by omega)], odd_same, HOD.out]
        · by_cases g2 : y1 ≤ py_
          · have g3 : py_ < y0 := by omega
            go_wp2_with fail
            refine (CC _).mono ?_
            rintro e w4 ⟨rfl, hb⟩
            replace q0 := q0.keep hb
            have b4 := keep_below b3 hb
            clear hb CC b3 q00 q01 c00 c01 c10 c11
            by_cases g4 : sd < 0
            · go_wp2
              refine ⟨⟨k + 1, hlt, by simp, ?_, fun j hj => HN2.out j hj, q0, b4⟩, by simp [intOf]; omega⟩
              rw [HT.out, HCW.out, show cwI x0 y0 x1 y1 px_ py_ sd = -1 by unfold cwI; rw [if_neg (by omega), if_pos (by omega)], odd_dn, HOD.out]
            · go_wp2
              refine ⟨⟨k + 1, hlt, by simp, ?_, fun j hj => HN2.out j hj, q0, b4⟩, by simp [intOf]; omega⟩
              rw [HT.out, HCW.out, show cwI x0 y0 x1 y1 px_ py_ sd = 0 by unfold cwI; rw [if_neg (by omega), if_neg (by omega)], odd_same, HOD.out]
          · go_wp2
            refine ⟨⟨k + 1, hlt, by simp, ?_, fun j hj => HN2.out j hj, q0, b3⟩, by simp [intOf]; omega⟩
            rw [HT.out, HCW.out, show cwI x0 y0 x1 y1 px_ py_ sd = 0 by unfold cwI; rw [if_neg (by omega), if_neg (by omega)], odd_same, HOD.out]
      · go_wp2
        go_ret
        refine ⟨?_, b3⟩
        unfold whV
        rw [some_any hlt HON.out]
        rfl
    · obtain rfl : k = L.length := by omega
      have HF : Hid (whV L (px_, py_) = if decide (sumW L (px_, py_) (List.range L.length) % 2 = 1) then 1 else -1) := Lib.hid (by
        unfold whV
        rw [all_any HNo.out]
        rfl)
      obtain ⟨od, hod⟩ : ∃ c, decide (sumW L (px_, py_) (List.range L.length) % 2 = 1) = c := ⟨_, rfl⟩
      rw [hod] at HF ⊢
      clear hod
      cases od
      · go_wp2
        go_ret
        exact ⟨by rw [HF.out]; rfl, hbel⟩
      · go_wp2
        go_ret
        exact ⟨by rw [HF.out]; rfl, hbel⟩

end Go.Proofs.Ytlocdadkhdcedaa
