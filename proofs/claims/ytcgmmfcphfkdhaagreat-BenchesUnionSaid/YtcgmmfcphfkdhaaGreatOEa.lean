/- Walks: the law BenchesUnion. -/
import Derived.Test.YtcgmmfcphfkdhaaGreatODa
import Derived.Test.YtcgmmfcphfkdhaaGreatOZ
import Derived.Test.YtcgmmfcphfkdhaaGreatOA
namespace Go.Proofs.YtcgmmfcphfkdhaaGreat
open Go Go.RowKit Go.Proofs

theorem mg_rg {A B K : List Nt} {e : Int} (h : MgR A B K e) (ha : ∀ n ∈ A, n.rg) (hb : ∀ n ∈ B, n.rg) : ∀ n ∈ K, n.rg := fun n hn => by
 rcases mg_mem h hn with g | g
 ·exact ha n g
 ·exact hb n g
theorem mg_len2 {A B K : List Nt} {e : Int} (h : MgR A B K e) : K.length ≤ 1000 := by have := mg_len h; omega

set_option maxRecDepth 100000 in
set_option maxHeartbeats 16000000 in
theorem union_law (va vb vc : Value) (A B C : List Nt) (w : World) (ha : SlN w va A) (hb : SlN w vb B) (hc : SlN w vc C) (ra : ∀ n ∈ A, n.rg) (rb : ∀ n ∈ B, n.rg) (rc : ∀ n ∈ C, n.rg)
  (AW : Hid (∀ W, Calls Tryz.prog 10 #[] W fun e w' => e = .returned (.bool true) ∧ Below W.heap.size W w')) :
  Calls Tryz.prog 7 #[va, vb, vc] w fun e w' => e = .returned (.bool true) ∧ Below w.heap.size w w' := by
 have SA := Lib.hid ha
 have SB := Lib.hid hb
 have SC := Lib.hid hc
 have BW := Lib.hid (Below.refl w.heap.size w)
 have RA := Lib.hid ra
 have RB := Lib.hid rb
 have RC := Lib.hid rc
 obtain ⟨aa, ca, rfl, -, -⟩ := ha
 obtain ⟨ab, cb, rfl, -, -⟩ := hb
 obtain ⟨ac, cc, rfl, -, -⟩ := hc
 clear ra rb rc
 by_cases h1 : A.length > 150
 case pos =>
  have j1 : decide ((A.length : Int) > 150) = true := by simp; omega
  clear SA SB SC RA RB RC
  obtain ⟨nA, hnA⟩ : ∃ n, A.length = n := ⟨_, rfl⟩
  obtain ⟨nB, hnB⟩ : ∃ n, B.length = n := ⟨_, rfl⟩
  obtain ⟨nC, hnC⟩ : ∃ n, C.length = n := ⟨_, rfl⟩
  simp only [hnA, hnB, hnC] at *
  clear hnA hnB hnC
  go_enter Tryz.func7, Tryz.ntmps7
  go_wp2_with fail
  refine (AW.out _).mono ?_
  rintro e wz ⟨rfl, hb⟩
  replace BW := Lib.hid (BW.out.trans (hb.mono BW.out.size))
  clear hb
  go_wp2_with fail
  go_ret
  exact ⟨rfl, BW.out⟩
 case neg =>
 have j1 : decide ((A.length : Int) > 150) = false := by simp; omega
 by_cases h2 : B.length > 150
 case pos =>
  have j2 : decide ((B.length : Int) > 150) = true := by simp; omega
  clear SA SB SC RA RB RC
  obtain ⟨nA, hnA⟩ : ∃ n, A.length = n := ⟨_, rfl⟩
  obtain ⟨nB, hnB⟩ : ∃ n, B.length = n := ⟨_, rfl⟩
  obtain ⟨nC, hnC⟩ : ∃ n, C.length = n := ⟨_, rfl⟩
  simp only [hnA, hnB, hnC] at *
  clear hnA hnB hnC
  go_enter Tryz.func7, Tryz.ntmps7
  go_wp2_with fail
  refine (AW.out _).mono ?_
  rintro e wz ⟨rfl, hb⟩
  replace BW := Lib.hid (BW.out.trans (hb.mono BW.out.size))
  clear hb
  go_wp2_with fail
  go_ret
  exact ⟨rfl, BW.out⟩
 case neg =>
 have j2 : decide ((B.length : Int) > 150) = false := by simp; omega
 by_cases h3 : C.length > 150
 case pos =>
  have j3 : decide ((C.length : Int) > 150) = true := by simp; omega
  clear SA SB SC RA RB RC
  obtain ⟨nA, hnA⟩ : ∃ n, A.length = n := ⟨_, rfl⟩
  obtain ⟨nB, hnB⟩ : ∃ n, B.length = n := ⟨_, rfl⟩
  obtain ⟨nC, hnC⟩ : ∃ n, C.length = n := ⟨_, rfl⟩
  simp only [hnA, hnB, hnC] at *
  clear hnA hnB hnC
  go_enter Tryz.func7, Tryz.ntmps7
  go_wp2_with fail
  refine (AW.out _).mono ?_
  rintro e wz ⟨rfl, hb⟩
  replace BW := Lib.hid (BW.out.trans (hb.mono BW.out.size))
  clear hb
  go_wp2_with fail
  go_ret
  exact ⟨rfl, BW.out⟩
 case neg =>
 have j3 : decide ((C.length : Int) > 150) = false := by simp; omega
 have LA := Lib.hid (show A.length ≤ 1000 by omega)
 have LB := Lib.hid (show B.length ≤ 1000 by omega)
 have LC := Lib.hid (show C.length ≤ 1000 by omega)
 clear h1 h2 h3
 go_enter Tryz.func7, Tryz.ntmps7
 go_wp2_with fail
 clear j1 j2 j3
 refine (merge17 _ _ A B w SA.out SB.out (LA.out) (LB.out) (RA.out) (RB.out)).mono ?_
 rintro e w1 ⟨v1, K1, e1, rfl, hm, hs, hb⟩
 replace SA := Lib.hid (SA.out.keep hb)
 replace SB := Lib.hid (SB.out.keep hb)
 replace SC := Lib.hid (SC.out.keep hb)
 replace BW := Lib.hid (BW.out.trans (hb.mono BW.out.size))
 have M1 := Lib.hid hm
 have S1 := Lib.hid hs
 obtain ⟨x1, y1, rfl, -, -⟩ := hs
 clear hm hb
 go_wp2_with fail
 refine (merge17 _ _ B A w1 SB.out SA.out (LB.out) (LA.out) (RB.out) (RA.out)).mono ?_
 rintro e w2 ⟨v2, K2, e2, rfl, hm, hs, hb⟩
 replace SA := Lib.hid (SA.out.keep hb)
 replace SB := Lib.hid (SB.out.keep hb)
 replace SC := Lib.hid (SC.out.keep hb)
 replace S1 := Lib.hid (S1.out.keep hb)
 replace BW := Lib.hid (BW.out.trans (hb.mono BW.out.size))
 have M2 := Lib.hid hm
 have S2 := Lib.hid hs
 obtain ⟨x2, y2, rfl, -, -⟩ := hs
 clear hm hb
 obtain ⟨he, hK⟩ := mg_eq M1.out (mg_swap M2.out)
 subst he hK
 clear M2
 go_wp2_with fail
 refine (merge17 _ _ A A w2 SA.out SA.out (LA.out) (LA.out) (RA.out) (RA.out)).mono ?_
 rintro e w3 ⟨v3, K3, e3, rfl, hm, hs, hb⟩
 replace SA := Lib.hid (SA.out.keep hb)
 replace SB := Lib.hid (SB.out.keep hb)
 replace SC := Lib.hid (SC.out.keep hb)
 replace S1 := Lib.hid (S1.out.keep hb)
 replace S2 := Lib.hid (S2.out.keep hb)
 replace BW := Lib.hid (BW.out.trans (hb.mono BW.out.size))
 have M3 := Lib.hid hm
 have S3 := Lib.hid hs
 obtain ⟨x3, y3, rfl, -, -⟩ := hs
 clear hm hb
 go_wp2_with fail
 refine ((sameNotes19 _ _ K1 K1 w3 S1.out S2.out).mono fun e w' h => And.intro (say_t h.1 rfl) h.2).mono ?_
 rintro e w4 ⟨rfl, hb⟩
 replace SA := Lib.hid (SA.out.keep hb)
 replace SB := Lib.hid (SB.out.keep hb)
 replace SC := Lib.hid (SC.out.keep hb)
 replace S1 := Lib.hid (S1.out.keep hb)
 replace S2 := Lib.hid (S2.out.keep hb)
 replace S3 := Lib.hid (S3.out.keep hb)
 replace BW := Lib.hid (BW.out.trans (hb.mono BW.out.size))
 clear hb
 clear S2
 by_cases h3 : e3 = 0
 case pos =>
  subst h3
  obtain rfl := (mg_self M3.out).symm
  go_wp2_with fail
  refine ((sameNotes19 _ _ A A w4 S3.out SA.out).mono fun e w' h => And.intro (say_t h.1 rfl) h.2).mono ?_
  rintro e w5 ⟨rfl, hb⟩
  replace SA := Lib.hid (SA.out.keep hb)
  replace SB := Lib.hid (SB.out.keep hb)
  replace SC := Lib.hid (SC.out.keep hb)
  replace S1 := Lib.hid (S1.out.keep hb)
  replace S3 := Lib.hid (S3.out.keep hb)
  replace BW := Lib.hid (BW.out.trans (hb.mono BW.out.size))
  clear hb
  go_wp2_with fail
  refine (merge17 _ _ B C w5 SB.out SC.out (LB.out) (LC.out) (RB.out) (RC.out)).mono ?_
  rintro e w6 ⟨v4, K4, e4, rfl, hm, hs, hb⟩
  replace SA := Lib.hid (SA.out.keep hb)
  replace SB := Lib.hid (SB.out.keep hb)
  replace SC := Lib.hid (SC.out.keep hb)
  replace S1 := Lib.hid (S1.out.keep hb)
  replace S3 := Lib.hid (S3.out.keep hb)
  replace BW := Lib.hid (BW.out.trans (hb.mono BW.out.size))
  have M4 := Lib.hid hm
  have S4 := Lib.hid hs
  obtain ⟨x4, y4, rfl, -, -⟩ := hs
  clear hm hb
  by_cases h1 : e1 = 0
  case neg =>
   have q1 : (e1 == 0) = false := by simpa using h1
   clear SA SB SC S1 S3 S4 M1 M3 M4 h1
   go_wp2_with fail
   refine (AW.out _).mono ?_
   rintro e wz ⟨rfl, hb⟩
   replace BW := Lib.hid (BW.out.trans (hb.mono BW.out.size))
   clear hb
   go_wp2_with fail
   go_ret
   exact ⟨rfl, BW.out⟩
  case pos =>
  subst h1
  by_cases h4 : e4 = 0
  case neg =>
   have q1 : (e4 == 0) = false := by simpa using h4
   clear SA SB SC S1 S3 S4 M1 M3 M4 h4
   go_wp2_with fail
   refine (AW.out _).mono ?_
   rintro e wz ⟨rfl, hb⟩
   replace BW := Lib.hid (BW.out.trans (hb.mono BW.out.size))
   clear hb
   go_wp2_with fail
   go_ret
   exact ⟨rfl, BW.out⟩
  case pos =>
  subst h4
  go_wp2_with fail
  refine (merge17 _ _ K1 C w6 S1.out SC.out (mg_len2 M1.out) (LC.out) (mg_rg M1.out RA.out RB.out) (RC.out)).mono ?_
  rintro e w7 ⟨v5, K5, e5, rfl, hm, hs, hb⟩
  replace SA := Lib.hid (SA.out.keep hb)
  replace SB := Lib.hid (SB.out.keep hb)
  replace SC := Lib.hid (SC.out.keep hb)
  replace S1 := Lib.hid (S1.out.keep hb)
  replace S3 := Lib.hid (S3.out.keep hb)
  replace S4 := Lib.hid (S4.out.keep hb)
  replace BW := Lib.hid (BW.out.trans (hb.mono BW.out.size))
  have M5 := Lib.hid hm
  have S5 := Lib.hid hs
  obtain ⟨x5, y5, rfl, -, -⟩ := hs
  clear hm hb
  go_wp2_with fail
  refine (merge17 _ _ A K4 w7 SA.out S4.out (LA.out) (mg_len2 M4.out) (RA.out) (mg_rg M4.out RB.out RC.out)).mono ?_
  rintro e w8 ⟨v6, K6, e6, rfl, hm, hs, hb⟩
  replace SA := Lib.hid (SA.out.keep hb)
  replace SB := Lib.hid (SB.out.keep hb)
  replace SC := Lib.hid (SC.out.keep hb)
  replace S1 := Lib.hid (S1.out.keep hb)
  replace S3 := Lib.hid (S3.out.keep hb)
  replace S4 := Lib.hid (S4.out.keep hb)
  replace S5 := Lib.hid (S5.out.keep hb)
  replace BW := Lib.hid (BW.out.trans (hb.mono BW.out.size))
  have M6 := Lib.hid hm
  have S6 := Lib.hid hs
  obtain ⟨x6, y6, rfl, -, -⟩ := hs
  clear hm hb
  obtain ⟨he, hK⟩ := mg_assoc M1.out M4.out M5.out M6.out
  subst he hK
  clear M6
  by_cases h5 : e5 = 0
  case neg =>
   have q1 : (e5 == 0) = false := by simpa using h5
   clear SA SB SC S1 S3 S4 S5 S6 M1 M3 M4 M5
   go_wp2_with fail
   refine (AW.out _).mono ?_
   rintro e wz ⟨rfl, hb⟩
   replace BW := Lib.hid (BW.out.trans (hb.mono BW.out.size))
   clear hb
   go_wp2_with fail
   go_ret
   exact ⟨rfl, BW.out⟩
  case pos =>
  subst h5
  go_wp2_with fail
  refine (merge17 _ _ K5 A w8 S5.out SA.out (mg_len2 M5.out) (LA.out) (mg_rg M5.out (mg_rg M1.out RA.out RB.out) RC.out) (RA.out)).mono ?_
  rintro e w9 ⟨v7, K7, e7, rfl, hm, hs, hb⟩
  replace SA := Lib.hid (SA.out.keep hb)
  replace SB := Lib.hid (SB.out.keep hb)
  replace SC := Lib.hid (SC.out.keep hb)
  replace S1 := Lib.hid (S1.out.keep hb)
  replace S3 := Lib.hid (S3.out.keep hb)
  replace S4 := Lib.hid (S4.out.keep hb)
  replace S5 := Lib.hid (S5.out.keep hb)
  replace S6 := Lib.hid (S6.out.keep hb)
  replace BW := Lib.hid (BW.out.trans (hb.mono BW.out.size))
  have M7 := Lib.hid hm
  have S7 := Lib.hid hs
  obtain ⟨x7, y7, rfl, -, -⟩ := hs
  clear hm hb
  obtain ⟨he, hK⟩ := mg_again M1.out M5.out M7.out
  subst he hK
  clear M7
  go_wp2_with fail
  refine ((sameNotes19 _ _ K7 K7 w9 S5.out S6.out).mono fun e w' h => And.intro (say_t h.1 rfl) h.2).mono ?_
  rintro e w10 ⟨rfl, hb⟩
  replace SA := Lib.hid (SA.out.keep hb)
  replace SB := Lib.hid (SB.out.keep hb)
  replace SC := Lib.hid (SC.out.keep hb)
  replace S1 := Lib.hid (S1.out.keep hb)
  replace S3 := Lib.hid (S3.out.keep hb)
  replace S4 := Lib.hid (S4.out.keep hb)
  replace S5 := Lib.hid (S5.out.keep hb)
  replace S6 := Lib.hid (S6.out.keep hb)
  replace S7 := Lib.hid (S7.out.keep hb)
  replace BW := Lib.hid (BW.out.trans (hb.mono BW.out.size))
  clear hb
  go_wp2_with fail
  refine ((sameNotes19 _ _ K7 K7 w10 S7.out S5.out).mono fun e w' h => And.intro (say_t h.1 rfl) h.2).mono ?_
  rintro e w11 ⟨rfl, hb⟩
  replace SA := Lib.hid (SA.out.keep hb)
  replace SB := Lib.hid (SB.out.keep hb)
  replace SC := Lib.hid (SC.out.keep hb)
  replace S1 := Lib.hid (S1.out.keep hb)
  replace S3 := Lib.hid (S3.out.keep hb)
  replace S4 := Lib.hid (S4.out.keep hb)
  replace S5 := Lib.hid (S5.out.keep hb)
  replace S6 := Lib.hid (S6.out.keep hb)
  replace S7 := Lib.hid (S7.out.keep hb)
  replace BW := Lib.hid (BW.out.trans (hb.mono BW.out.size))
  clear hb
  go_wp2_with fail
  refine (AW.out _).mono ?_
  rintro e wz ⟨rfl, hb⟩
  replace BW := Lib.hid (BW.out.trans (hb.mono BW.out.size))
  clear hb
  go_wp2_with fail
  go_ret
  exact ⟨rfl, BW.out⟩
 case neg =>
  have q3 : (e3 == 0) = false := by simpa using h3
  clear h3
  go_wp2_with fail
  clear q3
  refine (merge17 _ _ B C w4 SB.out SC.out (LB.out) (LC.out) (RB.out) (RC.out)).mono ?_
  rintro e w5 ⟨v4, K4, e4, rfl, hm, hs, hb⟩
  replace SA := Lib.hid (SA.out.keep hb)
  replace SB := Lib.hid (SB.out.keep hb)
  replace SC := Lib.hid (SC.out.keep hb)
  replace S1 := Lib.hid (S1.out.keep hb)
  replace S3 := Lib.hid (S3.out.keep hb)
  replace BW := Lib.hid (BW.out.trans (hb.mono BW.out.size))
  have M4 := Lib.hid hm
  have S4 := Lib.hid hs
  obtain ⟨x4, y4, rfl, -, -⟩ := hs
  clear hm hb
  by_cases h1 : e1 = 0
  case neg =>
   have q1 : (e1 == 0) = false := by simpa using h1
   clear SA SB SC S1 S3 S4 M1 M3 M4 h1
   go_wp2_with fail
   refine (AW.out _).mono ?_
   rintro e wz ⟨rfl, hb⟩
   replace BW := Lib.hid (BW.out.trans (hb.mono BW.out.size))
   clear hb
   go_wp2_with fail
   go_ret
   exact ⟨rfl, BW.out⟩
  case pos =>
  subst h1
  by_cases h4 : e4 = 0
  case neg =>
   have q1 : (e4 == 0) = false := by simpa using h4
   clear SA SB SC S1 S3 S4 M1 M3 M4 h4
   go_wp2_with fail
   refine (AW.out _).mono ?_
   rintro e wz ⟨rfl, hb⟩
   replace BW := Lib.hid (BW.out.trans (hb.mono BW.out.size))
   clear hb
   go_wp2_with fail
   go_ret
   exact ⟨rfl, BW.out⟩
  case pos =>
  subst h4
  go_wp2_with fail
  refine (merge17 _ _ K1 C w5 S1.out SC.out (mg_len2 M1.out) (LC.out) (mg_rg M1.out RA.out RB.out) (RC.out)).mono ?_
  rintro e w6 ⟨v5, K5, e5, rfl, hm, hs, hb⟩
  replace SA := Lib.hid (SA.out.keep hb)
  replace SB := Lib.hid (SB.out.keep hb)
  replace SC := Lib.hid (SC.out.keep hb)
  replace S1 := Lib.hid (S1.out.keep hb)
  replace S3 := Lib.hid (S3.out.keep hb)
  replace S4 := Lib.hid (S4.out.keep hb)
  replace BW := Lib.hid (BW.out.trans (hb.mono BW.out.size))
  have M5 := Lib.hid hm
  have S5 := Lib.hid hs
  obtain ⟨x5, y5, rfl, -, -⟩ := hs
  clear hm hb
  go_wp2_with fail
  refine (merge17 _ _ A K4 w6 SA.out S4.out (LA.out) (mg_len2 M4.out) (RA.out) (mg_rg M4.out RB.out RC.out)).mono ?_
  rintro e w7 ⟨v6, K6, e6, rfl, hm, hs, hb⟩
  replace SA := Lib.hid (SA.out.keep hb)
  replace SB := Lib.hid (SB.out.keep hb)
  replace SC := Lib.hid (SC.out.keep hb)
  replace S1 := Lib.hid (S1.out.keep hb)
  replace S3 := Lib.hid (S3.out.keep hb)
  replace S4 := Lib.hid (S4.out.keep hb)
  replace S5 := Lib.hid (S5.out.keep hb)
  replace BW := Lib.hid (BW.out.trans (hb.mono BW.out.size))
  have M6 := Lib.hid hm
  have S6 := Lib.hid hs
  obtain ⟨x6, y6, rfl, -, -⟩ := hs
  clear hm hb
  obtain ⟨he, hK⟩ := mg_assoc M1.out M4.out M5.out M6.out
  subst he hK
  clear M6
  by_cases h5 : e5 = 0
  case neg =>
   have q1 : (e5 == 0) = false := by simpa using h5
   clear SA SB SC S1 S3 S4 S5 S6 M1 M3 M4 M5
   go_wp2_with fail
   refine (AW.out _).mono ?_
   rintro e wz ⟨rfl, hb⟩
   replace BW := Lib.hid (BW.out.trans (hb.mono BW.out.size))
   clear hb
   go_wp2_with fail
   go_ret
   exact ⟨rfl, BW.out⟩
  case pos =>
  subst h5
  go_wp2_with fail
  refine (merge17 _ _ K5 A w7 S5.out SA.out (mg_len2 M5.out) (LA.out) (mg_rg M5.out (mg_rg M1.out RA.out RB.out) RC.out) (RA.out)).mono ?_
  rintro e w8 ⟨v7, K7, e7, rfl, hm, hs, hb⟩
  replace SA := Lib.hid (SA.out.keep hb)
  replace SB := Lib.hid (SB.out.keep hb)
  replace SC := Lib.hid (SC.out.keep hb)
  replace S1 := Lib.hid (S1.out.keep hb)
  replace S3 := Lib.hid (S3.out.keep hb)
  replace S4 := Lib.hid (S4.out.keep hb)
  replace S5 := Lib.hid (S5.out.keep hb)
  replace S6 := Lib.hid (S6.out.keep hb)
  replace BW := Lib.hid (BW.out.trans (hb.mono BW.out.size))
  have M7 := Lib.hid hm
  have S7 := Lib.hid hs
  obtain ⟨x7, y7, rfl, -, -⟩ := hs
  clear hm hb
  obtain ⟨he, hK⟩ := mg_again M1.out M5.out M7.out
  subst he hK
  clear M7
  go_wp2_with fail
  refine ((sameNotes19 _ _ K7 K7 w8 S5.out S6.out).mono fun e w' h => And.intro (say_t h.1 rfl) h.2).mono ?_
  rintro e w9 ⟨rfl, hb⟩
  replace SA := Lib.hid (SA.out.keep hb)
  replace SB := Lib.hid (SB.out.keep hb)
  replace SC := Lib.hid (SC.out.keep hb)
  replace S1 := Lib.hid (S1.out.keep hb)
  replace S3 := Lib.hid (S3.out.keep hb)
  replace S4 := Lib.hid (S4.out.keep hb)
  replace S5 := Lib.hid (S5.out.keep hb)
  replace S6 := Lib.hid (S6.out.keep hb)
  replace S7 := Lib.hid (S7.out.keep hb)
  replace BW := Lib.hid (BW.out.trans (hb.mono BW.out.size))
  clear hb
  go_wp2_with fail
  refine ((sameNotes19 _ _ K7 K7 w9 S7.out S5.out).mono fun e w' h => And.intro (say_t h.1 rfl) h.2).mono ?_
  rintro e w10 ⟨rfl, hb⟩
  replace SA := Lib.hid (SA.out.keep hb)
  replace SB := Lib.hid (SB.out.keep hb)
  replace SC := Lib.hid (SC.out.keep hb)
  replace S1 := Lib.hid (S1.out.keep hb)
  replace S3 := Lib.hid (S3.out.keep hb)
  replace S4 := Lib.hid (S4.out.keep hb)
  replace S5 := Lib.hid (S5.out.keep hb)
  replace S6 := Lib.hid (S6.out.keep hb)
  replace S7 := Lib.hid (S7.out.keep hb)
  replace BW := Lib.hid (BW.out.trans (hb.mono BW.out.size))
  clear hb
  go_wp2_with fail
  refine (AW.out _).mono ?_
  rintro e wz ⟨rfl, hb⟩
  replace BW := Lib.hid (BW.out.trans (hb.mono BW.out.size))
  clear hb
  go_wp2_with fail
  go_ret
  exact ⟨rfl, BW.out⟩

end Go.Proofs.YtcgmmfcphfkdhaaGreat
