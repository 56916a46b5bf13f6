/- Walks: law 4 (GlassGauges). -/
import Derived.Test.YtdohlggbeagedaaGreatLK
import Derived.Test.YtdohlggbeagedaaGreatAwake
import Derived.Deep.Cut
namespace Go.Proofs.YtdohlggbeagedaaGreat
open Go Go.RowKit Go.Proofs Go.Abs

/-- The gauges of an outline. -/
def gaF (L : List (Int × Int)) (x : Nat) : G5 := ⟨m1 L x, m1 L x, m2 L x, m2 L x, m3 L x⟩
def gaL (L : List (Int × Int)) : List G5 := (List.range L.length).map (gaF L)

theorem gauL_row (L : List (Int × Int)) : ∀ n, gauL L (List.range n) = rowG (gaF L) n
  | 0 => rfl
  | n + 1 => by rw [List.range_succ, gauL_snoc, gauL_row L n, rowG_succ]; rfl

theorem slg_nil (w : World) : SlG w (.slice none 0 0) [] := ⟨none, 0, rfl, by simp, fun k hk => absurd hk (Nat.not_lt_zero _)⟩

theorem gaL_slg {L : List (Int × Int)} (hv : vOut L = true) {w : World} {base : Nat} {v : Value} (h : w.ownsRow base 83 5 v L.length (gauL L (List.range L.length))) : SlG w v (gaL L) := by
  rw [gauL_row] at h
  have := vOut_n hv
  exact own_slg h (by simp [gaL]) (by omega) (by omega) (fun i hi => by unfold gz gaL; simp [List.getD_eq_getElem?_getD, hi])

def outG (L : List (Int × Int)) : List G5 := if vOut L = true then gaL L else []
def outE (L : List (Int × Int)) : Int := if vOut L = true then 0 else 1

theorem outG_len (L : List (Int × Int)) : (outG L).length ≤ 1000 := by
  unfold outG
  split
  · rename_i h
    have := vOut_n h
    simp [gaL]
    omega
  · simp

set_option maxHeartbeats 1000000 in
theorem gauges_bad {w : World} {v : Value} {L : List (Int × Int)} (h : SlV w v L) (hv : vOut L = false) :
    Calls Tryz.prog 30 #[v] w fun e w' => e = .returned (.tuple #[.slice none 0 0, .int .i64 1]) ∧ Below w.heap.size w w' := by
  have C1 := vOut_sl h
  rw [hv] at C1
  clear h hv
  go_enter Tryz.func30, Tryz.ntmps30
  go_wp2_with fail
  refine C1.mono ?_
  rintro e w1 ⟨rfl, hb⟩
  go_wp2
  go_ret2
  exact ⟨rfl, hb⟩

theorem gauges_sl {w : World} {v : Value} {L : List (Int × Int)} (h : SlV w v L) :
    Calls Tryz.prog 30 #[v] w fun e w' => ∃ r, e = .returned (.tuple #[r, .int .i64 (outE L)]) ∧ SlG w' r (outG L) ∧ Below w.heap.size w w' := by
  cases hv : vOut L
  · refine (gauges_bad h hv).mono fun e w' ⟨he, hb⟩ => ⟨.slice none 0 0, by rw [he]; unfold outE; rw [hv]; rfl, ?_, hb⟩
    unfold outG
    rw [hv]
    exact slg_nil w'
  · obtain ⟨b, off, cap, rfl, hp⟩ := vOut_pts h hv
    refine (gauges_good b off cap L hv w hp).mono ?_
    rintro e w' ⟨r, rfl, ho, hb⟩
    refine ⟨r, by unfold outE; rw [hv]; rfl, ?_, hb⟩
    unfold outG
    rw [if_pos hv]
    exact gaL_slg hv ho

def widG (G : List G5) (y : Int) : List G5 := if (vGs G && wi y 0 33554432) = true then G.map (wG y) else []
def widE (G : List G5) (y : Int) : Int := if (vGs G && wi y 0 33554432) = true then 0 else 1

theorem widG_len (G : List G5) (y : Int) : (widG G y).length ≤ 1000 := by
  unfold widG
  split
  · rename_i h
    rw [Bool.and_eq_true] at h
    have := vGs_ok h.1
    rw [List.length_map]
    omega
  · simp

theorem widen_sl {w : World} {v : Value} {G : List G5} (h : SlG w v G) (y : Int) :
    Calls Tryz.prog 32 #[v, .int .i64 y] w fun e w' => ∃ r, e = .returned (.tuple #[r, .int .i64 (widE G y)]) ∧ SlG w' r (widG G y) ∧ Below w.heap.size w w' := by
  cases hg : (vGs G && wi y 0 33554432)
  · refine (widen_bad v G y w h hg).mono fun e w' ⟨he, hb⟩ => ⟨.slice none 0 0, by rw [he]; unfold widE; rw [hg]; rfl, ?_, hb⟩
    unfold widG
    rw [hg]
    exact slg_nil w'
  · have hg' := hg
    rw [Bool.and_eq_true] at hg'
    refine (widen_good v G y w h hg'.1 hg'.2).mono ?_
    rintro e w' ⟨r, rfl, ho, hb⟩
    refine ⟨r, by unfold widE; rw [hg]; rfl, ?_, hb⟩
    unfold widG
    rw [if_pos hg]
    exact ho

end Go.Proofs.YtdohlggbeagedaaGreat
