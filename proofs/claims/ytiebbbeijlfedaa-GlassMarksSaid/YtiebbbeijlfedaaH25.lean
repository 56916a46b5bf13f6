/- Walks: law 5 (GlassMarks). -/
import Derived.Test.YtiebbbeijlfedaaHG
import Derived.Test.YtiebbbeijlfedaaAwake
import Derived.Test.YtiebbbeijlfedaaB6
namespace Go.Proofs.Ytiebbbeijlfedaa
open Go Go.RowKit Go.Proofs Go.Pairs

theorem runOnR_any (A B : List M3) (s : Int) (va vb : Value) (w : World) (sA : SlM w va A) (sB : SlM w vb B) (hcap : ∀ x n c, va = .slice x n c → n ≤ c) :
    Calls Try.prog 25 #[va, vb, .int .i64 s] w fun e w' => ∃ v, e = .returned (.tuple #[v, .int .i64 (runE A B s)]) ∧ SlN w' v (runL A B s) ∧ Below w.heap.size w w' := by
  cases h : okR A B s
  · exact runOnR_bad A B s va vb w sA sB h
  · have h' := h
    unfold okR at h'
    rw [Bool.and_eq_true, Bool.and_eq_true] at h'
    exact runOnR_good A B s va vb w sA sB hcap h'.1.1 h'.1.2 h'.2

theorem runL_len (A B : List M3) (s : Int) : (runL A B s).length ≤ 32 := by
  unfold runL
  split
  · rename_i h
    have h' := h.1
    unfold okR at h'
    rw [Bool.and_eq_true, Bool.and_eq_true] at h'
    rw [gr_len h'.1.1 h.2]
    exact (vOne_facts h'.1.1).1
  · simp

theorem SlN.keep {w w' : World} {v : Value} {L : List Nat} (h : SlN w v L) (hb : Below w.heap.size w w') : SlN w' v L := SlI.keep h hb

set_option maxRecDepth 100000 in
set_option maxHeartbeats 4000000 in
theorem marksLaw_any (va vb : Value) (e lo hi s : Int) (A B : List M3) (w : World) (hA : SlM w va A) (hB : SlM w vb B) (hcap : ∀ x n c, va = .slice x n c → n ≤ c) :
    Calls Try.prog 5 #[va, vb, .int .i64 e, spn lo hi, .int .i64 s] w fun x w' => x = .returned (.bool true) ∧ Below w.heap.size w w' := by
  have b0 : Below w.heap.size w (w.alloc (spnObj lo hi)) := (Below.refl _ _).alloc (Nat.le_refl _) _
  have s0 := Sp.new w lo hi
  have HA := Lib.hid hA
  have HB := Lib.hid hB
  have HCP := Lib.hid hcap
  have K1 := OnL_len A e
  have K2 := runL_len A B s
  obtain ⟨la, lcap, rfl, hll, -⟩ := hA
  obtain ⟨ga, gcap, rfl, hgl, -⟩ := hB
  clear hcap
  obtain ⟨W0, hW0⟩ : ∃ W0, w.alloc (spnObj lo hi) = W0 := ⟨_, rfl⟩
  rw [hW0] at b0 s0
  have HW0 := Lib.hid hW0
  clear hW0
  go_enter Try.func5, Try.ntmps5
  go_upto_region 1 with fail
  change Code.wp _ _ _ _ (w.alloc (spnObj lo hi))
  rw [HW0.out]
  go_upto_region 2 with (go_at_call 9; refine (awake_any _).mono ?_; rintro e w1 ⟨rfl, hb⟩)
  have b1 := keep_below b0 hb
  have s1 := s0.keep hb
  clear b0 s0 hb HW0
  by_cases k1 : 100 < A.length
  · have j1 : (100 : Int) < (A.length : Int) := by omega
    go_wp2
    go_ret
    exact ⟨rfl, b1⟩
  · have j1 : ¬ (100 : Int) < (A.length : Int) := by omega
    by_cases k2 : 100 < B.length
    · have j2 : (100 : Int) < (B.length : Int) := by omega
      go_wp2
      go_ret
      exact ⟨rfl, b1⟩
    · have j2 : ¬ (100 : Int) < (B.length : Int) := by omega
      clear k1 k2
      have C1 := on_any _ A e w1 (HA.out.keep b1)
      go_wp2_with fail
      refine C1.mono ?_
      rintro x w2 ⟨r1, E1, rfl, o1, hb1⟩
      obtain ⟨t1, rfl⟩ := o1.sl
      have b2 := keep_below b1 hb1
      have s2 := s1.keep hb1
      clear C1 hb1 b1 s1 o1
      have C2 := refOn_any _ A e w2 (HA.out.keep b2)
      go_wp2_with fail
      refine C2.mono ?_
      rintro x w3 ⟨r2, E2, rfl, o2, hb2⟩
      obtain ⟨t2, rfl⟩ := o2.sl
      have b3 := keep_below b2 hb2
      have s3 := s2.keep hb2
      replace t1 := t1.keep hb2
      clear C2 hb2 b2 s2 o2
      have c30 := s3.c0
      have c31 := s3.c1
      have C3 := count_any _ A e lo hi w3 (HA.out.keep b3)
      obtain ⟨N1, hN1⟩ : ∃ x : Int, ((cnt (OnL A e) lo hi : Nat) : Int) = x := ⟨_, rfl⟩
      rw [hN1] at C3
      go_wp2_with fail
      refine C3.mono ?_
      rintro x w4 ⟨rfl, hb3⟩
      have b4 := keep_below b3 hb3
      have s4 := s3.keep hb3
      replace t1 := t1.keep hb3
      replace t2 := t2.keep hb3
      clear C3 hb3 b3 s3 c30 c31
      have c40 := s4.c0
      have c41 := s4.c1
      have C4 := refCount_any _ A e lo hi w4 (HA.out.keep b4)
      rw [hN1] at C4
      clear hN1
      go_wp2_with fail
      refine C4.mono ?_
      rintro x w5 ⟨rfl, hb4⟩
      have b5 := keep_below b4 hb4
      replace t1 := t1.keep hb4
      replace t2 := t2.keep hb4
      clear C4 hb4 b4 s4 c40 c41
      have C5 := runOnP_any A B s _ _ w5 (HA.out.keep b5) (HB.out.keep b5)
      go_wp2_with fail
      refine C5.mono ?_
      rintro x w6 ⟨r3, rfl, t3, hb5⟩
      have b6 := keep_below b5 hb5
      replace t1 := t1.keep hb5
      replace t2 := t2.keep hb5
      clear C5 hb5 b5
      have C6 := runOnR_any A B s _ _ w6 (HA.out.keep b6) (HB.out.keep b6) HCP.out
      go_wp2_with fail
      refine C6.mono ?_
      rintro x w7 ⟨r4, rfl, t4, hb6⟩
      have b7 := keep_below b6 hb6
      replace t1 := t1.keep hb6
      replace t2 := t2.keep hb6
      replace t3 := t3.keep hb6
      clear C6 hb6 b6 HCP HA HB
      have D1 := sameMarks_any w7 t1 t2 (by omega)
      have D2 := fun w' (hb : Below w7.heap.size w7 w') => sameInts_any _ _ _ w' (t3.keep hb) (t4.keep hb)
      clear t1 t2 t3 t4
      go_wp2_with fail
      refine D1.mono ?_
      rintro e w8 ⟨rfl, hb8⟩
      go_wp2_with fail
      refine (D2 _ hb8).mono ?_
      rintro e w9 ⟨rfl, hb9⟩
      have b9 := keep_below (keep_below b7 hb8) hb9
      go_wp2
      go_ret
      exact ⟨rfl, b9⟩

end Go.Proofs.Ytiebbbeijlfedaa
