/- Walks: Grow and Concat of slices of bytes. -/
import Derived.Test.YtcgmmfcphfkdhaaGreatB1
import Derived.Lib.AppendZeros
import Derived.Deep.Draws
import Derived.RangeFuncRecord
namespace Go.Proofs.YtcgmmfcphfkdhaaGreat
open Go Go.RowKit Go.Proofs Go.Torn

theorem info_parts {P : Program} {t : TypeId} {z : Value} {n m : Nat} (h : (P.info? t).map (fun i => (i.zero, i.size, i.bytes)) = some (some z, n, m)) : ∃ i, P.info? t = some i ∧ i.zero = some z ∧ i.size = n ∧ i.bytes = m := by
  cases hi : P.info? t with
  | none => rw [hi] at h; cases h
  | some i =>
    rw [hi] at h
    simp only [Option.map_some, Option.some.injEq, Prod.mk.injEq] at h
    exact ⟨i, rfl, h.1, h.2.1, h.2.2⟩

theorem info5 : (Tryz.prog.info? 5).map (fun i => (i.zero, i.size, i.bytes)) = some (some (.int .u8 0), 1, 1) := by kernel_rfl

theorem below_drewN {B : Nat} {a w : World} (h : Below B a w) (n : Nat) : Below B a (w.drewN n) := h.trans ⟨rfl, rfl, rfl, Nat.le_refl _, fun _ _ => rfl⟩

def bc (L : List Nat) : List Value := L.map fun n => .int .u8 ((n : Nat) : Int)

theorem bc_len (L : List Nat) : (bc L).length = L.length := by simp [bc]
theorem bc_append (L M : List Nat) : bc (L ++ M) = bc L ++ bc M := by simp [bc]
theorem bc_one (L : List Nat) : ∀ u ∈ bc L, u.oneCell' = true := by
  intro u hu
  simp only [bc, List.mem_map] at hu
  obtain ⟨n, -, rfl⟩ := hu
  rfl

theorem bc_cells {W : World} {b off : Nat} {L : List Nat} (h : BtAt W b off L) : ∀ j u, (bc L)[j]? = some u → W.cell? ((⟨b, off, none⟩ : Addr).add j) = some u := by
  intro j u hu
  have hj : j < L.length := by
    have := (List.getElem?_eq_some_iff.1 hu).1
    rwa [bc_len] at this
  have e : (⟨b, off, none⟩ : Addr).add j = ⟨b, off + j, none⟩ := by unfold Addr.add; split <;> simp_all
  rw [e, h j hj]
  simp only [bc, List.getElem?_map] at hu
  rw [List.getElem?_eq_getElem hj] at hu
  simp only [Option.map_some] at hu
  rw [← hu]
  simp [List.getD, hj]

set_option maxRecDepth 100000 in
set_option maxHeartbeats 2000000 in
theorem grow_any (n : Nat) (h0 : 0 < n) (hn : n ≤ 1000000) (w : World) :
    Calls Tryz.prog 215 #[.slice none 0 0, .int .i64 n] w fun e w' => ∃ v, e = .returned v ∧ w'.ownsRow w.heap.size 5 1 v 0 [] ∧ Below w.heap.size w w' := by
  obtain ⟨i0, hi, hz0, hz1, hz2⟩ := info_parts info5
  have j0 : (0 : Int) < (n : Int) := by omega
  have j1 : ¬ (n : Int) < 0 := by omega
  go_enter Tryz.func215, Tryz.ntmps215
  have HG := Lib.hid (grownCap_ge w n 0 5)
  have HM := Lib.hid (grownCap_le_maxLen w n 0 5 (by unfold maxLen; omega))
  have R := fun ty => Lib.run_append_nil_zeros w 46 3 ty 5 i0 (.int .u8 0) .i64 .i64 Tryz.underlying46 Tryz.underlying3 hi hz0 n h0 (by rw [hz1]; omega) (by omega) (by rw [hz2]; omega)
  have HZ := Lib.hid (size_zeroCells (Value.int .u8 0).cells)
  obtain ⟨c, hc⟩ : ∃ c, grownCap w n 0 5 = c := ⟨_, rfl⟩
  rw [hc] at HG HM
  simp only [hc] at R
  have hcz : 0 ≤ c := Nat.zero_le _
  clear hc
  obtain ⟨cs, hcs⟩ : ∃ cs, Builtin.zeroCells (Value.int .u8 0).cells n ++ Builtin.zeroCells (Value.int .u8 0).cells (c - n) = cs := ⟨_, rfl⟩
  have hcl : Hid (cs.size = c * 1) := Lib.hid (by
    rw [← hcs, Array.size_append, HZ.out, HZ.out]
    show n * 1 + (c - n) * 1 = c * 1
    have := HG.out
    omega)
  rw [hcs] at R
  clear hcs
  go_wp2_with (at_builtin; refine Lib.wpList_append_run _ rfl _ _ _ _ rfl _ _ rfl rfl _ _ (R _) ?_)
  go_ret
  have hb : Below w.heap.size w (w.drew.alloc (.cells cs 5)) := (below_drewN (Below.refl _ w) 1).alloc (Nat.le_refl _) _
  refine ⟨_, rfl, ⟨rfl, .inr ⟨w.heap.size, c, cs, rfl, Nat.le_refl _, World.alloc_heap_new w.drew _, Nat.zero_le _, HM.out, hcl.out, ?_⟩⟩, hb⟩
  rw [Nat.zero_mul, List.take_zero]

theorem take_flat (Ps : List (List Nat)) (i : Nat) (hi : i < Ps.length) : (Ps.take (i + 1)).flatten = (Ps.take i).flatten ++ Ps.getD i [] := by
  rw [List.take_add_one, List.flatten_append]
  simp [List.getD, hi]

theorem take_le (Ps : List (List Nat)) (i : Nat) : ((Ps.take i).flatten).length ≤ Ps.flatten.length := by
  have : Ps.flatten = (Ps.take i).flatten ++ (Ps.drop i).flatten := by rw [← List.flatten_append, List.take_append_drop]
  rw [this, List.length_append]
  omega

set_option maxRecDepth 100000 in
set_option maxHeartbeats 4000000 in
theorem concat_any (h cap N : Nat) (Ps : List (List Nat)) (vs : Nat → Value) (hN : N = Ps.length) (hN2 : N ≤ 100) (h0 : 0 < Ps.flatten.length) (hl : Ps.flatten.length ≤ 100000) (w : World) (hc : ∀ i, i < N → w.cell? ⟨h, i, none⟩ = some (vs i))
    (hs : ∀ i, i < N → SlB w (vs i) (Ps.getD i [])) :
    Calls Tryz.prog 149 #[.slice (some ⟨h, 0, none⟩) N cap] w fun e w' => ∃ v, e = .returned v ∧ w'.ownsRow w.heap.size 5 1 v Ps.flatten.length (bc Ps.flatten) ∧ Below w.heap.size w w' := by
  obtain ⟨i0, hi, hz0, hz1, hz2⟩ := info_parts info5
  have HC := Lib.hid hc
  have HS := Lib.hid hs
  have HT := Lib.hid (fun i (hi : i < N) => take_flat Ps i (by omega))
  have HL := Lib.hid (take_le Ps)
  have HE := Lib.hid (show Ps.take N = Ps by rw [hN, List.take_length])
  clear hc hs hN
  obtain ⟨S, hS⟩ : ∃ S : Nat → List Nat, S = fun i => (Ps.take i).flatten := ⟨_, rfl⟩
  obtain ⟨tot, htot⟩ : ∃ t, Ps.flatten.length = t := ⟨_, rfl⟩
  have HG := Lib.hid (fun w' => grow_any tot (by omega) (by omega) w')
  have H1 : Hid ((∀ i, i < N → S (i + 1) = S i ++ Ps.getD i []) ∧ (∀ i, (S i).length ≤ tot) ∧ S N = Ps.flatten ∧ S 0 = []) := Lib.hid ⟨by rw [hS]; exact HT.out, by rw [hS, ← htot]; exact HL.out, by rw [hS]; simp only [HE.out], by rw [hS]; rfl⟩
  rw [htot] at h0 hl ⊢
  have HF : Hid (S N = Ps.flatten ∧ Ps.flatten.length = tot) := Lib.hid ⟨H1.out.2.2.1, htot⟩
  clear hS HT HL HE htot
  go_enter Tryz.func149, Tryz.ntmps149
  go_wp2_with fail
  go_loopw [3, 11] (fun s i wr => ∃ q : Nat, q ≤ N ∧ i = .int .i64 q ∧ s = .int .i64 (((S q).length : Nat) : Int) ∧ wr = w) (fun _ i _ => N - (intOf i).toNat)
  case atStart => exact ⟨0, by omega, rfl, by rw [H1.out.2.2.2]; rfl, rfl⟩
  case round =>
    obtain ⟨q, hq, rfl, rfl, rfl⟩ := hrel
    by_cases hqn : q < N
    · have hcell := HC.out q hqn
      obtain ⟨a, c, hv, hll, -⟩ := HS.out q hqn
      rw [hv] at hcell
      have ha := Lib.hid (show (S (q + 1)).length = (S q).length + (Ps.getD q []).length by rw [H1.out.1 q hqn, List.length_append])
      have hb := Lib.hid (H1.out.2.1 (q + 1))
      obtain ⟨m, hm⟩ : ∃ m, (Ps.getD q []).length = m := ⟨_, rfl⟩
      obtain ⟨p, hp⟩ : ∃ p, (S q).length = p := ⟨_, rfl⟩
      rw [hm] at hcell ha
      rw [hp] at ha ⊢
      have j1 : decide ((q : Int) < (N : Int)) = true := by simp; omega
      have j2 : Hid (wrap64 ((p : Int) + (m : Int)) = (p : Int) + (m : Int) ∧ ¬ (p : Int) + (m : Int) < 0 ∧ (p : Int) + (m : Int) = (((S (q + 1)).length : Nat) : Int)) := Lib.hid (by
        have := ha.out
        have := hb.out
        exact ⟨w64 _ (by omega), by omega, by omega⟩)
      clear hm hp hv hll
      have k4 := Lib.hid j2.out.2.2
      obtain ⟨k2, k3, -⟩ := j2.out
      clear j2
      go_wp2
      exact ⟨⟨q + 1, hqn, by simp, by have := k4.out; simp only [Value.int.injEq, true_and]; omega, trivial⟩, by simp [intOf]; omega⟩
    · have : q = N := by omega
      subst this
      obtain ⟨W, hW⟩ : ∃ W1, W1 = wr := ⟨_, rfl⟩
      subst hW
      have j1 : decide ((q : Int) < (q : Int)) = false := by simp
      have hq1 : (S q).length = tot := by rw [HF.out.1, HF.out.2]
      rw [hq1]
      clear hq1
      go_wp2_with fail
      refine (HG.out _).mono ?_
      rintro e w1 ⟨v0, rfl, ho0, hb0⟩
      clear HG
      go_wp2_with fail
      go_loopw [6, 27] (fun v i wr => Below W.heap.size W wr ∧ ∃ p : Nat, p ≤ q ∧ i = .int .i64 p ∧ wr.ownsRow W.heap.size 5 1 v (S p).length (bc (S p))) (fun _ i _ => q - (intOf i).toNat)
      case atStart => exact ⟨hb0, 0, by omega, rfl, by rw [H1.out.2.2.2]; exact ho0⟩
      case round =>
        clear ho0 hb0
        obtain ⟨hbel, p, hp, rfl, hown⟩ := hrel
        by_cases hpq : p < q
        · have hcell := keep_cell hbel (HC.out p hpq)
          obtain ⟨a, c, hv, ⟨hll, hcz⟩, hdat⟩ := HS.out p hpq
          rw [hv] at hcell
          have ha := Lib.hid (H1.out.1 p hpq)
          have hb := Lib.hid (H1.out.2.1 (p + 1))
          have HA := Lib.hid (fun (h : 0 < (Ps.getD p []).length) => hdat h)
          have hsz := hbel.size
          obtain ⟨L, hL⟩ : ∃ L, Ps.getD p [] = L := ⟨_, rfl⟩
          rw [hL] at hcell ha HA
          obtain ⟨X, hX⟩ : ∃ X, S p = X := ⟨_, rfl⟩
          rw [hX] at hown ha
          have j1 : decide ((p : Int) < (q : Int)) = true := by simp; omega
          have hbb := Lib.hid (show X.length + L.length ≤ tot by have := hb.out; rw [ha.out, List.length_append] at this; exact this)
          have hL1 := Lib.hid (bc_len L)
          have fin : Hid (∀ (v' : Value) (w' : World), w'.ownsRow W.heap.size 5 1 v' (X.length + L.length) (bc X ++ bc L) → w'.ownsRow W.heap.size 5 1 v' (S (p + 1)).length (bc (S (p + 1)))) := Lib.hid (fun v' w' h => by rw [ha.out, List.length_append, bc_append]; exact h)
          clear hL hX hv hll hdat ha hb
          obtain ⟨n, hn⟩ : ∃ n, X.length = n := ⟨_, rfl⟩
          obtain ⟨m, hm⟩ : ∃ m, L.length = m := ⟨_, rfl⟩
          rw [hn] at hown hbb fin
          rw [hm] at hcell hbb fin HA hL1
          clear hn
          have hm2 := Lib.hid hm
          clear hm
          cases a with
          | none =>
            have hm0 : m = 0 := by
              rcases Nat.eq_zero_or_pos m with h | h
              · exact h
              · obtain ⟨b, off, hh, -⟩ := HA.out h
                cases hh
            obtain rfl := hcz rfl
            subst hm0
            have R := Lib.hid (fun ty => run_append_owned_none (P := Tryz.prog) (w := wr) W.heap.size 46 ty 5 i0 1 Tryz.underlying46 hi _ _ _ hown)
            have hL0 : L = [] := List.eq_nil_of_length_eq_zero hm2.out
            subst hL0
            clear HA HC HS H1
            go_wp2_with (at_builtin; refine Lib.wpList_append_run _ rfl _ _ _ _ rfl _ _ rfl rfl _ _ (R.out _) ?_)
            refine ⟨⟨hbel, p + 1, hpq, by simp, fin.out _ _ (by simpa [bc] using hown)⟩, by simp [intOf]; omega⟩
          | some ad =>
            have HN : Hid (∀ j u, (bc L)[j]? = some u → wr.cell? (ad.add j) = some u) := Lib.hid (by
              intro j u hu
              have hj : j < m := by
                have := (List.getElem?_eq_some_iff.1 hu).1
                rwa [hL1.out] at this
              obtain ⟨b, off, hh, hdat⟩ := HA.out (by omega)
              cases hh
              exact bc_cells (hdat.keep hbel) j u hu)
            have HO := Lib.hid (bc_one L)
            clear HA HC HS H1
            go_wp2_with (at_builtin; refine wpList_append_own _ rfl _ _ 46 rfl W.heap.size 5 i0 (.int .u8 0) 1 1 Tryz.underlying46 hi hz0 hz1 hz2 rfl (by decide) _ _ _ rfl hown ad m c (bc L) rfl (by rw [hL1.out]; omega) HN.out HO.out (by unfold maxLen; have := hbb.out; omega) (by have := hbb.out; omega) hsz ?_; intro v6 w6 hown6 hg6 _)
            exact ⟨⟨hbel.grown hg6 hsz (fun j e => (hown.lt j e).1), p + 1, hpq, by simp, fin.out _ _ hown6⟩, by simp [intOf]; omega⟩
        · have : p = q := by omega
          subst this
          have j1 : decide ((p : Int) < (p : Int)) = false := by simp
          go_wp2
          go_ret
          refine ⟨_, rfl, ?_, hbel⟩
          rw [HF.out.1, HF.out.2] at hown
          exact hown

end Go.Proofs.YtcgmmfcphfkdhaaGreat
