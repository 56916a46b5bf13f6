/- Walks: the law BenchesMerges. -/
import Derived.Test.YtcgmmfcphfkdhaaGreatOBa
import Derived.Test.YtcgmmfcphfkdhaaGreatOZ
import Derived.Test.YtcgmmfcphfkdhaaGreatOA
namespace Go.Proofs.YtcgmmfcphfkdhaaGreat
open Go Go.RowKit Go.Proofs

set_option maxRecDepth 100000 in
set_option maxHeartbeats 4000000 in
theorem merges_law (va vb : Value) (A B : List Nt) (w : World) (ha : SlN w va A) (hb : SlN w vb B) (ra : ∀ n ∈ A, n.rg) (rb : ∀ n ∈ B, n.rg)
  (AW : Hid (∀ W, Calls Tryz.prog 10 #[] W fun e w' => e = .returned (.bool true) ∧ Below W.heap.size W w')) :
  Calls Tryz.prog 4 #[va, vb] w fun e w' => e = .returned (.bool true) ∧ Below w.heap.size w w' := by
 have C17 := Lib.hid (fun la lb => merge17 va vb A B w ha hb la lb ra rb)
 have C18 := Lib.hid (fun w1 (h1 : Below w.heap.size w w1) => merge18 va vb A B w1 (ha.keep h1) (hb.keep h1))
 obtain ⟨aa, ca, rfl, la, -⟩ := ha
 obtain ⟨ab, cb, rfl, lb, -⟩ := hb
 clear ra rb
 obtain ⟨nA, hnA⟩ : ∃ n, A.length = n := ⟨_, rfl⟩
 obtain ⟨nB, hnB⟩ : ∃ n, B.length = n := ⟨_, rfl⟩
 rw [hnA] at la C17 C18 ⊢
 rw [hnB] at lb C17 C18 ⊢
 clear hnA hnB
 by_cases h5 : nA > 500
 ·have j1 : decide ((nA : Int) > 500) = true := by simp; omega
  clear C17 C18 h5
  go_enter Tryz.func4, Tryz.ntmps4
  go_wp2_with fail
  refine (AW.out _).mono ?_
  rintro e w1 ⟨rfl, hb⟩
  have HB := Lib.hid hb
  clear hb
  go_wp2_with fail
  go_ret
  exact ⟨rfl, HB.out⟩
 ·have j1 : decide ((nA : Int) > 500) = false := by simp; omega
  by_cases h6 : nB > 500
  ·have j2 : decide ((nB : Int) > 500) = true := by simp; omega
   clear C17 C18 h5 h6
   go_enter Tryz.func4, Tryz.ntmps4
   go_wp2_with fail
   refine (AW.out _).mono ?_
   rintro e w1 ⟨rfl, hb⟩
   have HB := Lib.hid hb
   clear hb
   go_wp2_with fail
   go_ret
   exact ⟨rfl, HB.out⟩
  ·have j2 : decide ((nB : Int) > 500) = false := by simp; omega
   have C := Lib.hid (C17.out (by omega) (by omega))
   clear C17 h5 h6
   go_enter Tryz.func4, Tryz.ntmps4
   go_wp2_with fail
   refine C.out.mono ?_
   rintro e w1 ⟨v1, K1, e1, rfl, hm1, hs1, hb1⟩
   have M1 := Lib.hid hm1
   have S1 := Lib.hid hs1
   have B1 := Lib.hid hb1
   obtain ⟨x1, y1, rfl, -, -⟩ := hs1
   clear hm1 hb1 C
   go_wp2_with fail
   refine (C18.out _ B1.out).mono ?_
   rintro e w2 ⟨v2, K2, e2, rfl, hm2, hs2, hb2⟩
   obtain ⟨he, hK⟩ := mg_eq M1.out hm2
   subst he hK
   have S2 := Lib.hid hs2
   have B2 := Lib.hid (B1.out.trans (hb2.mono B1.out.size))
   have C19 := Lib.hid ((sameNotes19 _ _ K1 K1 w2 (S1.out.keep hb2) hs2).mono fun e w' h => And.intro (say_t h.1 rfl) h.2)
   obtain ⟨x2, y2, rfl, -, -⟩ := hs2
   clear hm2 hb2 C18 M1 S1 B1 S2
   go_wp2_with fail
   refine C19.out.mono ?_
   rintro e w3 ⟨rfl, hb3⟩
   have B3 := Lib.hid (B2.out.trans (hb3.mono B2.out.size))
   clear hb3 C19 B2
   go_wp2_with fail
   refine (AW.out _).mono ?_
   rintro e w4 ⟨rfl, hb4⟩
   have B4 := Lib.hid (B3.out.trans (hb4.mono B3.out.size))
   clear hb4 B3
   go_wp2_with fail
   go_ret
   exact ⟨rfl, B4.out⟩

end Go.Proofs.YtcgmmfcphfkdhaaGreat
