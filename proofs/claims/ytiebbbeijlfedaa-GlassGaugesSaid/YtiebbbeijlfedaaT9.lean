/- Walks: law 4 (GlassGauges). -/
import Derived.Test.YtiebbbeijlfedaaTB
import Derived.Test.YtiebbbeijlfedaaAwake
import Derived.Deep.Cut
namespace Go.Proofs.Ytiebbbeijlfedaa
open Go Go.RowKit Go.Proofs Go.Abs

/-- The gauges of an outline. -/
def gaF (L : List (Int × Int)) (x : Nat) : G5 := ⟨m1 L x, m1 L x, m2 L x, m2 L x, m3 L x⟩
def gaL (L : List (Int × Int)) : List G5 := (List.range L.length).map (gaF L)

theorem gauL_row (L : List (Int × Int)) : ∀ n, gauL L (List.range n) = rowG (gaF L) n
  | 0 => rfl
  | n + 1 => by rw [List.range_succ, gauL_snoc, gauL_row L n, rowG_succ]; rfl

theorem slg_nil (w : World) : SlG w (.slice none 0 0) [] := ⟨none, 0, rfl, by simp, fun k hk => absurd hk (Nat.not_lt_zero _)⟩

theorem gaL_slg {L : List (Int × Int)} (hv : vOut L = true) {w : World} {base : Nat} {v : Value} (h : w.ownsRow base 67 5 v L.length (gauL L (List.range L.length))) : SlG w v (gaL L) := by
  rw [gauL_row] at h
  have := vOut_n hv
  exact own_slg h (by simp [gaL]) (by omega) (by omega) (fun i hi => by unfold gz gaL; simp [List.getD_eq_getElem?_getD, hi])

def outG (L : List (Int × Int)) : List G5 := if vOut L = true then gaL L else []
def outE (L : List (Int × Int)) : Int := if vOut L = true then 0 else 1

theorem outG_len (L : List (Int × Int)) : (outG L).length ≤ 1000 := by
  unfold outG
  split
  · rename_i h
    have := vOut_n h
    simp [gaL]
    omega
  · simp

set_option maxHeartbeats 1000000 in
theorem gauges_bad {w : World} {v : Value} {L : List (Int × Int)} (h : SlV w v L) (hv : vOut L = false) :
    Calls Try.prog 15 #[v] w fun e w' => e = .returned (.tuple #[.slice none 0 0, .int .i64 1]) ∧ Below w.heap.size w w' := by
  have C1 := vOut_sl h
  rw [hv] at C1
  clear h hv
  go_enter Try.func15, Try.ntmps15
  go_wp2_with fail
  refine C1.mono ?_
  rintro e w1 ⟨rfl, hb⟩
  go_wp2
  go_ret2
  exact ⟨rfl, hb⟩

set_option maxHeartbeats 1000000 in
theorem refGauges_bad {w : World} {v : Value} {L : List (Int × Int)} (h : SlV w v L) (hv : vOut L = false) :
    Calls Try.prog 16 #[v] w fun e w' => e = .returned (.tuple #[.slice none 0 0, .int .i64 1]) ∧ Below w.heap.size w w' := by
  have C1 := refOut_sl h
  rw [hv] at C1
  clear h hv
  go_enter Try.func16, Try.ntmps16
  go_wp2_with fail
  refine C1.mono ?_
  rintro e w1 ⟨rfl, hb⟩
  go_wp2
  go_ret2
  exact ⟨rfl, hb⟩

theorem gauges_sl {w : World} {v : Value} {L : List (Int × Int)} (h : SlV w v L) :
    Calls Try.prog 15 #[v] w fun e w' => ∃ r, e = .returned (.tuple #[r, .int .i64 (outE L)]) ∧ SlG w' r (outG L) ∧ Below w.heap.size w w' := by
  cases hv : vOut L
  · refine (gauges_bad h hv).mono fun e w' ⟨he, hb⟩ => ⟨.slice none 0 0, by rw [he]; unfold outE; rw [hv]; rfl, ?_, hb⟩
    unfold outG
    rw [hv]
    exact slg_nil w'
  · obtain ⟨b, off, cap, rfl, hp⟩ := vOut_pts h hv
    refine (gauges_good b off cap L hv w hp).mono ?_
    rintro e w' ⟨r, rfl, ho, hb⟩
    refine ⟨r, by unfold outE; rw [hv]; rfl, ?_, hb⟩
    unfold outG
    rw [if_pos hv]
    exact gaL_slg hv ho

theorem refGauges_sl {w : World} {v : Value} {L : List (Int × Int)} (h : SlV w v L) :
    Calls Try.prog 16 #[v] w fun e w' => ∃ r, e = .returned (.tuple #[r, .int .i64 (outE L)]) ∧ SlG w' r (outG L) ∧ Below w.heap.size w w' := by
  cases hv : vOut L
  · refine (refGauges_bad h hv).mono fun e w' ⟨he, hb⟩ => ⟨.slice none 0 0, by rw [he]; unfold outE; rw [hv]; rfl, ?_, hb⟩
    unfold outG
    rw [hv]
    exact slg_nil w'
  · obtain ⟨b, off, cap, rfl, hp⟩ := vOut_pts h hv
    refine (refGauges_good b off cap L hv w hp).mono ?_
    rintro e w' ⟨r, rfl, ho, hb⟩
    refine ⟨r, by unfold outE; rw [hv]; rfl, ?_, hb⟩
    unfold outG
    rw [if_pos hv]
    exact gaL_slg hv ho

def widG (G : List G5) (y : Int) : List G5 := if (vGs G && wi y 0 33554432) = true then G.map (wG y) else []
def widE (G : List G5) (y : Int) : Int := if (vGs G && wi y 0 33554432) = true then 0 else 1

theorem widG_len (G : List G5) (y : Int) : (widG G y).length ≤ 1000 := by
  unfold widG
  split
  · rename_i h
    rw [Bool.and_eq_true] at h
    have := vGs_ok h.1
    rw [List.length_map]
    omega
  · simp

theorem widen_sl {w : World} {v : Value} {G : List G5} (h : SlG w v G) (y : Int) :
    Calls Try.prog 17 #[v, .int .i64 y] w fun e w' => ∃ r, e = .returned (.tuple #[r, .int .i64 (widE G y)]) ∧ SlG w' r (widG G y) ∧ Below w.heap.size w w' := by
  cases hg : (vGs G && wi y 0 33554432)
  · refine (widen_bad v G y w h hg).mono fun e w' ⟨he, hb⟩ => ⟨.slice none 0 0, by rw [he]; unfold widE; rw [hg]; rfl, ?_, hb⟩
    unfold widG
    rw [hg]
    exact slg_nil w'
  · have hg' := hg
    rw [Bool.and_eq_true] at hg'
    refine (widen_good v G y w h hg'.1 hg'.2).mono ?_
    rintro e w' ⟨r, rfl, ho, hb⟩
    refine ⟨r, by unfold widE; rw [hg]; rfl, ?_, hb⟩
    unfold widG
    rw [if_pos hg]
    exact ho

theorem refWiden_sl {w : World} {v : Value} {G : List G5} (h : SlG w v G) (y : Int) :
    Calls Try.prog 18 #[v, .int .i64 y] w fun e w' => ∃ r, e = .returned (.tuple #[r, .int .i64 (widE G y)]) ∧ SlG w' r (widG G y) ∧ Below w.heap.size w w' := by
  cases hg : (vGs G && wi y 0 33554432)
  · refine (refWiden_bad v G y w h hg).mono fun e w' ⟨he, hb⟩ => ⟨.slice none 0 0, by rw [he]; unfold widE; rw [hg]; rfl, ?_, hb⟩
    unfold widG
    rw [hg]
    exact slg_nil w'
  · have hg' := hg
    rw [Bool.and_eq_true] at hg'
    refine (refWiden_good v G y w h hg'.1 hg'.2).mono ?_
    rintro e w' ⟨r, rfl, ho, hb⟩
    refine ⟨r, by unfold widE; rw [hg]; rfl, ?_, hb⟩
    unfold widG
    rw [if_pos hg]
    exact ho

set_option maxRecDepth 100000 in
set_option maxHeartbeats 4000000 in
theorem gaugesLaw_any (vl vg : Value) (y : Int) (L : List (Int × Int)) (G : List G5) (w : World) (hL : SlV w vl L) (hG : SlG w vg G) :
    Calls Try.prog 4 #[vl, vg, .int .i64 y] w fun e w' => e = .returned (.bool true) ∧ Below w.heap.size w w' := by
  have HL := Lib.hid hL
  have HG := Lib.hid hG
  have K1 := outG_len L
  have K2 := widG_len G y
  obtain ⟨la, lcap, rfl, hll, -⟩ := hL
  obtain ⟨ga, gcap, rfl, hgl, -⟩ := hG
  go_enter Try.func4, Try.ntmps4
  go_upto_region 2 with (go_at_call 9; refine (awake_any _).mono ?_; rintro e w1 ⟨rfl, hb⟩)
  by_cases k1 : 60 < L.length
  · have j1 : (60 : Int) < (L.length : Int) := by omega
    go_wp2
    go_ret
    exact ⟨rfl, hb⟩
  · have j1 : ¬ (60 : Int) < (L.length : Int) := by omega
    by_cases k2 : 60 < G.length
    · have j2 : (60 : Int) < (G.length : Int) := by omega
      go_wp2
      go_ret
      exact ⟨rfl, hb⟩
    · have j2 : ¬ (60 : Int) < (G.length : Int) := by omega
      clear k1 k2
      have C1 := gauges_sl (HL.out.keep hb)
      go_wp2_with fail
      refine C1.mono ?_
      rintro e w2 ⟨r1, rfl, s1, hb1⟩
      have b2 := keep_below hb hb1
      clear C1 hb1 hb
      have C2 := refGauges_sl (HL.out.keep b2)
      go_wp2_with fail
      refine C2.mono ?_
      rintro e w3 ⟨r2, rfl, s2, hb2⟩
      have b3 := keep_below b2 hb2
      replace s1 := s1.keep hb2
      clear C2 hb2 b2
      have C3 := widen_sl (HG.out.keep b3) y
      go_wp2_with fail
      refine C3.mono ?_
      rintro e w4 ⟨r3, rfl, s3, hb3⟩
      have b4 := keep_below b3 hb3
      replace s1 := s1.keep hb3
      replace s2 := s2.keep hb3
      clear C3 hb3 b3
      have C4 := refWiden_sl (HG.out.keep b4) y
      go_wp2_with fail
      refine C4.mono ?_
      rintro e w5 ⟨r4, rfl, s4, hb4⟩
      have b5 := keep_below b4 hb4
      replace s1 := s1.keep hb4
      replace s2 := s2.keep hb4
      replace s3 := s3.keep hb4
      clear C4 hb4 b4
      have D1 := sameGauges_any w5 s1 s2 K1
      have D2 := fun w' (hb : Below w5.heap.size w5 w') => sameGauges_any w' (s3.keep hb) (s4.keep hb) K2
      clear s1 s2 s3 s4
      go_wp2_with fail
      refine D1.mono ?_
      rintro e w6 ⟨rfl, hb6⟩
      go_wp2_with fail
      refine (D2 _ hb6).mono ?_
      rintro e w7 ⟨rfl, hb7⟩
      have b7 := keep_below (keep_below b5 hb6) hb7
      go_wp2
      go_ret
      exact ⟨rfl, b7⟩

end Go.Proofs.Ytiebbbeijlfedaa
