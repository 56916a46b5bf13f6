/- Walks: checked. -/
import Derived.Test.YtcgmmfcphfkdhaaGreatB4
import Derived.Test.YtcgmmfcphfkdhaaGreatVG
import Derived.RegionTactic
import Derived.BigQuiet
namespace Go.Proofs.YtcgmmfcphfkdhaaGreat
open Go Go.RowKit Go.Proofs Go.Torn Go.Abs

set_option maxRecDepth 100000 in
set_option maxHeartbeats 2000000 in
theorem checked_no (b off cap N n : Nat) (_hN : N ≤ 1000000) (hn : n ≤ 65536) (h : ¬ n + 2 ≤ N) (w : World) :
    Calls Tryz.prog 82 #[.slice (some ⟨b, off, none⟩) N cap, .int .i64 n] w fun e w' => e = .returned (.bool false) ∧ Below w.heap.size w w' := by
  have j1 : decide ((N : Int) ≥ (n : Int) + 2) = false := by simp; omega
  have j2 : wrap64 ((n : Int) + 2) = (n : Int) + 2 := w64 _ (by omega)
  go_enter Tryz.func82, Tryz.ntmps82
  go_wp2_with fail
  go_quiet (fail)
  go_wp2
  go_ret
  exact ⟨rfl, below_drewN (Below.refl _ w) _⟩

def ChkV (b off cap N n c : Nat) (r : Bool) (T : List Nat) : Nat → Value → World → Prop
  | 0, v, _ => v = .slice (some ⟨b, off, none⟩) N cap
  | 1, v, _ => v = .int .i64 (N : Int)
  | 2, v, _ => v = .int .i64 (n : Int)
  | 3, v, _ => v = .int .i64 ((n : Int) + 2)
  | 4, v, _ => v = .bool true
  | 5, v, _ => v = .bool true
  | 6, v, _ => v = .slice (some ⟨b, off, none⟩) N cap
  | 7, v, _ => v = .int .i64 (n : Int)
  | 8, v, _ => v = .int .i64 (n : Int)
  | 9, v, _ => v = .int .i64 ((n : Int) + 2)
  | 10, v, _ => v = .slice (some ⟨b, off + n, none⟩) 2 (cap - n)
  | 11, v, _ => v = .slice (some ⟨b, off, none⟩) N cap
  | 12, v, _ => v = .int .i64 (n : Int)
  | 13, v, _ => v = .slice (some ⟨b, off, none⟩) n cap
  | 14, v, _ => v = .int .i64 (c : Int)
  | 15, v, W => SlB W v T
  | 16, v, _ => v = .bool r
  | 17, v, _ => v = .bool r
  | _, v, _ => v = .bool r

theorem ChkV.keep {b off cap N n c : Nat} {r : Bool} {T : List Nat} : ∀ i v W W', ChkV b off cap N n c r T i v W → Below W.heap.size W W' → ChkV b off cap N n c r T i v W'
  | 0, _, _, _, h, _ => h
  | 1, _, _, _, h, _ => h
  | 2, _, _, _, h, _ => h
  | 3, _, _, _, h, _ => h
  | 4, _, _, _, h, _ => h
  | 5, _, _, _, h, _ => h
  | 6, _, _, _, h, _ => h
  | 7, _, _, _, h, _ => h
  | 8, _, _, _, h, _ => h
  | 9, _, _, _, h, _ => h
  | 10, _, _, _, h, _ => h
  | 11, _, _, _, h, _ => h
  | 12, _, _, _, h, _ => h
  | 13, _, _, _, h, _ => h
  | 14, _, _, _, h, _ => h
  | 15, _, _, _, h, hb => SlB.keep h hb
  | 16, _, _, _, h, _ => h
  | 17, _, _, _, h, _ => h
  | _ + 18, _, _, _, h, _ => h

set_option maxRecDepth 100000 in
set_option maxHeartbeats 2000000 in
theorem checked_yes (b off cap n : Nat) (L : List Nat) (hN : L.length ≤ 1000000) (hcap : L.length ≤ cap) (hn : n ≤ 65536) (h : n + 2 ≤ L.length) (hy : By L) (w : World) (hd : BtAt w b off L) :
    Calls Tryz.prog 82 #[.slice (some ⟨b, off, none⟩) L.length cap, .int .i64 n] w fun e w' => e = .returned (.bool (ckd L n)) ∧ Below w.heap.size w w' := by
  have HC := Lib.hid (fun w' (hb : Below w.heap.size w w') => check_any (.slice (some ⟨b, off, none⟩) n cap) (L.take n) (by rw [List.length_take]; omega) (fun v hv => hy v (List.mem_of_mem_take hv)) w' ⟨some ⟨b, off, none⟩, cap, by rw [List.length_take, Nat.min_eq_left (by omega)], ⟨by rw [List.length_take]; omega, fun h => by cases h⟩, fun _ => ⟨b, off, rfl, fun k hk => by
    have hk2 : k < n := by rw [List.length_take] at hk; omega
    have := hd.keep hb k (by omega)
    rw [this]
    simp [List.getD, List.getElem?_take, hk2]⟩⟩)
  have H2 := Lib.hid (fun w' => two_any (chk (L.take n)) (chk_small _) w')
  have HE := Lib.hid (fun w' (hb : Below w.heap.size w w') v (hv : SlB w' v (two (chk (L.take n)))) => equal_any (.slice (some ⟨b, off + n, none⟩) 2 (cap - n)) v ((L.drop n).take 2) (two (chk (L.take n))) (fun v hv => hy v (List.mem_of_mem_drop (List.mem_of_mem_take hv))) (By_two _ (chk_small _)) w' ⟨some ⟨b, off + n, none⟩, cap - n, by rw [List.length_take, List.length_drop, Nat.min_eq_left (by omega)], ⟨by rw [List.length_take]; omega, fun h => by cases h⟩, fun _ => ⟨b, off + n, rfl, fun k hk => by
    have hk2 : k < 2 := by rw [List.length_take] at hk; omega
    have := hd.keep hb (n + k) (by omega)
    rw [show off + n + k = off + (n + k) by omega, this]
    simp [List.getD, List.getElem?_take, List.getElem?_drop, hk2]⟩⟩ hv)
  have hck : ckd L n = decide ((L.drop n).take 2 = two (chk (L.take n))) := by unfold ckd; rw [decide_eq_true h, Bool.true_and]
  rw [hck]
  clear hck hd hy
  obtain ⟨r, hr⟩ : ∃ r, decide ((L.drop n).take 2 = two (chk (L.take n))) = r := ⟨_, rfl⟩
  rw [hr] at HE ⊢
  obtain ⟨T, hT⟩ : ∃ T, two (chk (L.take n)) = T := ⟨_, rfl⟩
  rw [hT] at HE H2
  obtain ⟨c, hc⟩ : ∃ c, chk (L.take n) = c := ⟨_, rfl⟩
  rw [hc] at HC H2
  obtain ⟨N, hNN⟩ : ∃ N, L.length = N := ⟨_, rfl⟩
  rw [hNN] at hN hcap h ⊢
  clear hr hT hc hNN
  have j1 : decide ((N : Int) ≥ (n : Int) + 2) = true := by simp; omega
  have j2 : wrap64 ((n : Int) + 2) = (n : Int) + 2 := w64 _ (by omega)
  have j3 : ¬ ((n : Int) + 2 < (n : Int)) := by omega
  have j4 : (n : Int) + 2 ≤ (cap : Int) := by omega
  have j6 : IntKind.i64.wrap ((n : Int) + 2) = (n : Int) + 2 := wi64 _ (by omega)
  go_enter Tryz.func82, Tryz.ntmps82
  go_wp2_with fail
  refine wp_region_valsG (ChkV b off cap N n c r T) (by kernel_rfl) (by kernel_rfl) ChkV.keep ?_ ?_ ?_
  · intro i o g bb ho hg v W hv
    have hi : i < 19 := by have := (List.getElem?_eq_some_iff.1 ho).1; simpa using this
    obtain rfl | rfl | rfl | rfl | rfl | rfl | rfl | rfl | rfl | rfl | rfl | rfl | rfl | rfl | rfl | rfl | rfl | rfl | rfl : i = 0 ∨ i = 1 ∨ i = 2 ∨ i = 3 ∨ i = 4 ∨ i = 5 ∨ i = 6 ∨ i = 7 ∨ i = 8 ∨ i = 9 ∨ i = 10 ∨ i = 11 ∨ i = 12 ∨ i = 13 ∨ i = 14 ∨ i = 15 ∨ i = 16 ∨ i = 17 ∨ i = 18 := by omega
    all_goals simp only [List.getElem?_cons_zero, List.getElem?_cons_succ, Option.some.injEq] at ho
    all_goals subst ho
    all_goals simp only [Option.some.injEq, Prod.mk.injEq, reduceCtorEq] at hg
    all_goals (obtain ⟨rfl, rfl⟩ := hg; exact hv)
  · intro i o ho a' W hW hfr hdep
    have f0 : a'.tmps[0]?.getD undef = .slice (some ⟨b, off, none⟩) N cap := Array.getD_eq_getD_getElem?.symm.trans (hfr 0 rfl)
    have f1 : a'.tmps[1]?.getD undef = .int .i64 (n : Int) := Array.getD_eq_getD_getElem?.symm.trans (hfr 1 rfl)
    clear hfr
    have hi : i < 19 := by have := (List.getElem?_eq_some_iff.1 ho).1; simpa using this
    obtain rfl | rfl | rfl | rfl | rfl | rfl | rfl | rfl | rfl | rfl | rfl | rfl | rfl | rfl | rfl | rfl | rfl | rfl | rfl : i = 0 ∨ i = 1 ∨ i = 2 ∨ i = 3 ∨ i = 4 ∨ i = 5 ∨ i = 6 ∨ i = 7 ∨ i = 8 ∨ i = 9 ∨ i = 10 ∨ i = 11 ∨ i = 12 ∨ i = 13 ∨ i = 14 ∨ i = 15 ∨ i = 16 ∨ i = 17 ∨ i = 18 := by omega
    all_goals simp only [List.getElem?_cons_zero, List.getElem?_cons_succ, Option.some.injEq] at ho
    all_goals subst ho
    · clear hdep
      refine .inl ⟨_, W, ?_, Below.refl _ _, rfl⟩
      go_simp
    · have d0 : a'.tmps[5]?.getD undef = .slice (some ⟨b, off, none⟩) N cap := Array.getD_eq_getD_getElem?.symm.trans (hdep ⟨0, .data⟩ (by simp) rfl 5 rfl)
      clear hdep
      refine .inl ⟨_, W, ?_, Below.refl _ _, rfl⟩
      go_simp
    · clear hdep
      refine .inl ⟨_, W, ?_, Below.refl _ _, rfl⟩
      go_simp
    · have d2 : a'.tmps[7]?.getD undef = .int .i64 (n : Int) := Array.getD_eq_getD_getElem?.symm.trans (hdep ⟨2, .data⟩ (by simp) rfl 7 rfl)
      clear hdep
      refine .inl ⟨_, W, ?_, Below.refl _ _, rfl⟩
      go_simp
    · have d1 : a'.tmps[6]?.getD undef = .int .i64 (N : Int) := Array.getD_eq_getD_getElem?.symm.trans (hdep ⟨1, .data⟩ (by simp) rfl 6 rfl)
      have d3 : a'.tmps[8]?.getD undef = .int .i64 ((n : Int) + 2) := Array.getD_eq_getD_getElem?.symm.trans (hdep ⟨3, .data⟩ (by simp) rfl 8 rfl)
      clear hdep
      refine .inl ⟨_, W, ?_, Below.refl _ _, rfl⟩
      go_simp
    · have d4 : a'.tmps[9]?.getD undef = .bool true := Array.getD_eq_getD_getElem?.symm.trans (hdep ⟨4, .data⟩ (by simp) rfl 9 rfl)
      clear hdep
      refine .inl ⟨_, W, ?_, Below.refl _ _, rfl⟩
      go_simp
    · clear hdep
      refine .inl ⟨_, W, ?_, Below.refl _ _, rfl⟩
      go_simp
    · clear hdep
      refine .inl ⟨_, W, ?_, Below.refl _ _, rfl⟩
      go_simp
    · clear hdep
      refine .inl ⟨_, W, ?_, Below.refl _ _, rfl⟩
      go_simp
    · have d8 : a'.tmps[13]?.getD undef = .int .i64 (n : Int) := Array.getD_eq_getD_getElem?.symm.trans (hdep ⟨8, .data⟩ (by simp) rfl 13 rfl)
      clear hdep
      refine .inl ⟨_, W, ?_, Below.refl _ _, rfl⟩
      go_simp
    · have d6 : a'.tmps[11]?.getD undef = .slice (some ⟨b, off, none⟩) N cap := Array.getD_eq_getD_getElem?.symm.trans (hdep ⟨6, .data⟩ (by simp) rfl 11 rfl)
      have d7 : a'.tmps[12]?.getD undef = .int .i64 (n : Int) := Array.getD_eq_getD_getElem?.symm.trans (hdep ⟨7, .data⟩ (by simp) rfl 12 rfl)
      have d9 : a'.tmps[14]?.getD undef = .int .i64 ((n : Int) + 2) := Array.getD_eq_getD_getElem?.symm.trans (hdep ⟨9, .data⟩ (by simp) rfl 14 rfl)
      clear hdep
      refine .inl ⟨_, W, ?_, Below.refl _ _, rfl⟩
      go_simp
      exact ⟨fun h => by omega, by omega⟩
    · clear hdep
      refine .inl ⟨_, W, ?_, Below.refl _ _, rfl⟩
      go_simp
    · clear hdep
      refine .inl ⟨_, W, ?_, Below.refl _ _, rfl⟩
      go_simp
    · have d11 : a'.tmps[16]?.getD undef = .slice (some ⟨b, off, none⟩) N cap := Array.getD_eq_getD_getElem?.symm.trans (hdep ⟨11, .data⟩ (by simp) rfl 16 rfl)
      have d12 : a'.tmps[17]?.getD undef = .int .i64 (n : Int) := Array.getD_eq_getD_getElem?.symm.trans (hdep ⟨12, .data⟩ (by simp) rfl 17 rfl)
      clear hdep
      refine .inl ⟨_, W, ?_, Below.refl _ _, rfl⟩
      go_simp
      intro h; omega
    · have d13 : a'.tmps[18]?.getD undef = .slice (some ⟨b, off, none⟩) n cap := Array.getD_eq_getD_getElem?.symm.trans (hdep ⟨13, .data⟩ (by simp) rfl 18 rfl)
      clear hdep
      refine .inr ⟨150, #[.slice (some ⟨b, off, none⟩) n cap], W, ?_, Below.refl _ _, (HC.out W hW).mono ?_⟩
      · go_simp
      · rintro e W' ⟨rfl, rfl⟩
        exact ⟨_, rfl, Below.refl _ _, rfl⟩
    · have d14 : a'.tmps[19]?.getD undef = .int .i64 (c : Int) := Array.getD_eq_getD_getElem?.symm.trans (hdep ⟨14, .data⟩ (by simp) rfl 19 rfl)
      clear hdep
      refine .inr ⟨148, #[.int .i64 (c : Int)], W, ?_, Below.refl _ _, (H2.out W).mono ?_⟩
      · go_simp
      · rintro e W' ⟨v, rfl, hs, hb⟩
        exact ⟨_, rfl, hb, hs⟩
    · have d10 : a'.tmps[15]?.getD undef = .slice (some ⟨b, off + n, none⟩) 2 (cap - n) := Array.getD_eq_getD_getElem?.symm.trans (hdep ⟨10, .data⟩ (by simp) rfl 15 rfl)
      have d15 : SlB W (a'.tmps[20]?.getD undef) T := by have := hdep ⟨15, .data⟩ (by simp) rfl 20 rfl; rw [← Array.getD_eq_getD_getElem?]; exact this
      clear hdep
      refine .inr ⟨121, #[.slice (some ⟨b, off + n, none⟩) 2 (cap - n), a'.tmps[20]?.getD undef], W, ?_, Below.refl _ _, (HE.out W hW _ d15).mono ?_⟩
      · go_simp
      · rintro e W' ⟨rfl, rfl⟩
        exact ⟨_, rfl, Below.refl _ _, rfl⟩
    · have d5 : a'.tmps[10]?.getD undef = .bool true := Array.getD_eq_getD_getElem?.symm.trans (hdep ⟨5, .data⟩ (by simp) rfl 10 rfl)
      have d16 : a'.tmps[21]?.getD undef = .bool r := Array.getD_eq_getD_getElem?.symm.trans (hdep ⟨16, .data⟩ (by simp) rfl 21 rfl)
      clear hdep
      refine .inl ⟨_, W, ?_, Below.refl _ _, rfl⟩
      go_simp
    · have d17 : a'.tmps[22]?.getD undef = .bool r := Array.getD_eq_getD_getElem?.symm.trans (hdep ⟨17, .data⟩ (by simp) rfl 22 rfl)
      clear hdep
      refine .inl ⟨_, W, ?_, Below.refl _ _, rfl⟩
      go_simp
  · intro W hW
    simp only [List.map_cons, List.map_nil, VQG, ChkV]
    rintro _ rfl _ rfl _ rfl _ rfl _ rfl _ rfl _ rfl _ rfl _ rfl _ rfl _ rfl _ rfl _ rfl _ rfl _ rfl v15 s15 _ rfl _ rfl _ rfl
    simp only [List.setIfInBounds_toArray, List.set_cons_succ, List.set_cons_zero]
    go_wp2
    go_ret
    exact ⟨rfl, hW⟩

end Go.Proofs.YtcgmmfcphfkdhaaGreat
