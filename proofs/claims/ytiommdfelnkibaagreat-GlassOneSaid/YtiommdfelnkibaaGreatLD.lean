/- The abstract machine, part LD. -/
import Derived.Test.YtiommdfelnkibaaGreatLC
import Derived.Test.YtiommdfelnkibaaGreatLA
/- Walks: valid pieces, the reference's; few. -/
namespace Go.Proofs.YtiommdfelnkibaaGreat
open Go Go.RowKit Go.Proofs

def badE (lo hi : Int) (M : List M3) : Bool := (List.range M.length).any fun k => !wi (mq M k).x lo hi

theorem badE_true {lo hi : Int} {M : List M3} (k : Nat) (hk : k < M.length) (h : wi (mq M k).x lo hi = false) : badE lo hi M = true := by
  unfold badE
  rw [List.any_eq_true]
  exact ⟨k, List.mem_range.2 hk, by simp [h]⟩

theorem badE_false {lo hi : Int} {M : List M3} (h : ∀ k, k < M.length → wi (mq M k).x lo hi = true) : badE lo hi M = false := by
  unfold badE
  rw [List.any_eq_false]
  intro k hk
  simp [h k (List.mem_range.1 hk)]

theorem bad_parts (lo hi : Int) (M : List M3) : badM lo hi M = (badE lo hi M || badT M) := by
  unfold badM badE badT
  induction List.range M.length with
  | nil => rfl
  | cons k l ih =>
    simp only [List.any_cons, ih]
    unfold M3.ok M3.ok2
    cases wi (mq M k).x lo hi <;> cases wi (mq M k).y 0 16 <;> cases wi (mq M k).z 1 16 <;> simp

theorem vMs_parts (lo hi : Int) (M : List M3) : vMs lo hi M = (!badE lo hi M && rMs M) := by
  unfold vMs rMs
  rw [bad_parts]
  cases badE lo hi M <;> cases badT M <;> simp

set_option maxRecDepth 100000 in
set_option maxHeartbeats 4000000 in
theorem refValidPiece_any (id c r m s : Int) (vg vm : Value) (G : List G5) (M : List M3) (w : World) (hG : SlG w vg G) (hM : SlM w vm M) :
    Calls Tryz.prog 35 #[pcs id c r m s vg vm] w fun e w' => e = .returned (.bool (vP id c r m s G M)) ∧ Below w.heap.size w w' := by
  have b0 : Below w.heap.size w (w.alloc (pcsObj id c r m s vg vm)) := (Below.refl _ _).alloc (Nat.le_refl _) _
  have hp := pcs_new w id c r m s vg vm
  have HGS := Lib.hid (fun W (hb : Below w.heap.size w W) => refGauges_any vg G W (hG.keep hb))
  have HM := Lib.hid (fun W (hb : Below w.heap.size w W) => refMarks_any vm M W (hM.keep hb))
  obtain ⟨ga, gcap, rfl, hgl, -⟩ := hG
  obtain ⟨ma, mcap, rfl, hml, hmc⟩ := hM
  have HMC := Lib.hid hmc
  clear hmc
  have e1 : IntKind.i64.wrap ((G.length : Int) - 1) = (G.length : Int) - 1 := wi64 _ (by omega)
  have HT := Lib.hid (badE_true (lo := 0) (hi := (G.length : Int) - 1) (M := M))
  have HF := Lib.hid (badE_false (lo := 0) (hi := (G.length : Int) - 1) (M := M))
  have C0 := fun w => refWithin_any id 1 65535 w
  have C1 := fun w => refWithin_any c 1 16 w
  have C2 := fun w => refWithin_any r 1 16 w
  have C3 := fun w => refWithin_any m 0 9999 w
  have C4 := fun w => refWithin_any s (-64) 64 w
  unfold vP
  rw [vMs_parts]
  generalize wi id 1 65535 = p0 at C0 ⊢
  generalize wi c 1 16 = p1 at C1 ⊢
  generalize wi r 1 16 = p2 at C2 ⊢
  generalize wi m 0 9999 = p3 at C3 ⊢
  generalize wi s (-64) 64 = p4 at C4 ⊢
  generalize badE 0 ((G.length : Int) - 1) M = bad at HT HF ⊢
  generalize rMs M = mk at HM ⊢
  generalize vGs G = pg at HGS ⊢
  generalize G.length = n at *
  generalize M.length = k2 at *
  go_enter Tryz.func35, Tryz.ntmps35
  go_wp2_with fail
  obtain ⟨W0, hW0⟩ : ∃ W0, w.alloc (pcsObj id c r m s (.slice ga n gcap) (.slice ma k2 mcap)) = W0 := ⟨_, rfl⟩
  rw [hW0] at b0 hp
  change Code.wp _ _ _ _ (w.alloc (pcsObj id c r m s (.slice ga n gcap) (.slice ma k2 mcap)))
  rw [hW0]
  clear hW0
  go_loopw [3] (fun i wr => ∃ k : Nat, k ≤ k2 ∧ i = .int .i64 k ∧ Below w.heap.size w wr ∧ wr.heap[w.heap.size]? = some (.cells #[.int .i64 id, .int .i64 c, .int .i64 r, .int .i64 m, .int .i64 s, .slice ga n gcap, .slice ma k2 mcap] 25 (0, 0)) ∧ ∀ j, j < k → wi (mq M j).x 0 ((n : Int) - 1) = true) (fun i _ => k2 - (intOf i).toNat)
  case atStart => exact ⟨0, Nat.zero_le _, rfl, b0, hp, by simp⟩
  case round =>
    clear b0 hp W0
    obtain ⟨k, hk, rfl, hb, hp, hall⟩ := hrel
    have HL := Lib.hid hall
    have g5 : wr.cell? ⟨w.heap.size, 5, none⟩ = some (.slice ga n gcap) := cell_of hp rfl
    have g6 : wr.cell? ⟨w.heap.size, 6, none⟩ = some (.slice ma k2 mcap) := cell_of hp rfl
    have hlt0 : w.heap.size < wr.heap.size := (Array.getElem?_eq_some_iff.1 hp).1
    have HP := Lib.hid hp
    clear hall
    by_cases hlt : k < k2
    · have jk : (k : Int) < (k2 : Int) := by omega
      obtain ⟨b, off, rfl, c0, -, -⟩ := HMC.out k hlt
      replace c0 := keep_cell hb c0
      obtain ⟨x, hx⟩ : ∃ x, (mq M k).x = x := ⟨_, rfl⟩
      rw [hx] at c0
      have HX := Lib.hid hx
      clear hx
      have C := fun w => refWithin_any x 0 ((n : Int) - 1) w
      obtain ⟨p, hpp⟩ : ∃ p, wi x 0 ((n : Int) - 1) = p := ⟨_, rfl⟩
      simp only [hpp] at C
      have HPP := Lib.hid hpp
      clear hpp
      have G0 := grow_cell c0
      have G5 := grow_cell g5
      have G6 := grow_cell g6
      go_wp2_with fail
      refine wp_region_grow (by kernel_rfl) (by kernel_rfl) ?_
      repeat (go_big_quiet_step ((go_at_call 73; with_reducible exact calls_grow_same (C _))))
      refine wpQuiet_nil ?_
      rintro w2 ⟨g, hg⟩
      have hb1 : Below wr.heap.size wr w2 := by rw [hg]; exact g.b
      clear hg g G0 G5 G6 c0 g5 g6
      have hb2 := keep_below hb hb1
      have hp2 := (hb1.block w.heap.size hlt0).trans HP.out
      clear hb hb1 C
      cases p
      · have hr := HT.out k hlt (by rw [HX.out]; exact HPP.out)
        subst hr
        go_wp2
        go_ret
        exact ⟨by simp, hb2⟩
      · go_wp2
        refine ⟨⟨k + 1, by omega, by simp, hb2, hp2, fun j hj => ?_⟩, by simp [intOf]; omega⟩
        rcases Nat.lt_or_ge j k with h | h
        · exact HL.out j h
        · obtain rfl : j = k := by omega
          rw [HX.out]; exact HPP.out
    · obtain rfl : k = k2 := by omega
      have hr := HF.out (fun j hj => HL.out j hj)
      subst hr
      have CG := HGS.out wr hb
      have i0 : wr.cell? ⟨w.heap.size, 0, none⟩ = some (.int .i64 id) := cell_of hp rfl
      have i1 : wr.cell? ⟨w.heap.size, 1, none⟩ = some (.int .i64 c) := cell_of hp rfl
      have i2 : wr.cell? ⟨w.heap.size, 2, none⟩ = some (.int .i64 r) := cell_of hp rfl
      have i3 : wr.cell? ⟨w.heap.size, 3, none⟩ = some (.int .i64 m) := cell_of hp rfl
      have i4 : wr.cell? ⟨w.heap.size, 4, none⟩ = some (.int .i64 s) := cell_of hp rfl
      clear hp
      cases p0
      · go_wp2_with (first
            | (go_at_call 73; with_reducible refine (C0 _).mono ?_; rintro e w1 ⟨rfl, rfl⟩)
            | (go_at_call 73; with_reducible refine (C1 _).mono ?_; rintro e w1 ⟨rfl, rfl⟩)
            | (go_at_call 73; with_reducible refine (C2 _).mono ?_; rintro e w1 ⟨rfl, rfl⟩)
            | (go_at_call 73; with_reducible refine (C3 _).mono ?_; rintro e w1 ⟨rfl, rfl⟩)
            | (go_at_call 73; with_reducible refine (C4 _).mono ?_; rintro e w1 ⟨rfl, rfl⟩)
            | (go_at_call 74; with_reducible refine CG.mono ?_; rintro e w2 ⟨rfl, hb1⟩
               have q6 := keep_cell hb1 g6
               have b2 := keep_below hb hb1
               have CM := HM.out w2 b2
               clear CG)
            | (go_at_call 75; with_reducible refine CM.mono ?_; rintro e w3 ⟨rfl, hb'⟩
               have b3 := keep_below b2 hb'))
        go_ret
        exact ⟨by simp, hb⟩
      · have _t0 := True.intro
        cases p1
        · go_wp2_with (first
            | (go_at_call 73; with_reducible refine (C0 _).mono ?_; rintro e w1 ⟨rfl, rfl⟩)
            | (go_at_call 73; with_reducible refine (C1 _).mono ?_; rintro e w1 ⟨rfl, rfl⟩)
            | (go_at_call 73; with_reducible refine (C2 _).mono ?_; rintro e w1 ⟨rfl, rfl⟩)
            | (go_at_call 73; with_reducible refine (C3 _).mono ?_; rintro e w1 ⟨rfl, rfl⟩)
            | (go_at_call 73; with_reducible refine (C4 _).mono ?_; rintro e w1 ⟨rfl, rfl⟩)
            | (go_at_call 74; with_reducible refine CG.mono ?_; rintro e w2 ⟨rfl, hb1⟩
               have q6 := keep_cell hb1 g6
               have b2 := keep_below hb hb1
               have CM := HM.out w2 b2
               clear CG)
            | (go_at_call 75; with_reducible refine CM.mono ?_; rintro e w3 ⟨rfl, hb'⟩
               have b3 := keep_below b2 hb'))
          go_ret
          exact ⟨by simp, hb⟩
        · have _t1 := True.intro
          cases p2
          · go_wp2_with (first
            | (go_at_call 73; with_reducible refine (C0 _).mono ?_; rintro e w1 ⟨rfl, rfl⟩)
            | (go_at_call 73; with_reducible refine (C1 _).mono ?_; rintro e w1 ⟨rfl, rfl⟩)
            | (go_at_call 73; with_reducible refine (C2 _).mono ?_; rintro e w1 ⟨rfl, rfl⟩)
            | (go_at_call 73; with_reducible refine (C3 _).mono ?_; rintro e w1 ⟨rfl, rfl⟩)
            | (go_at_call 73; with_reducible refine (C4 _).mono ?_; rintro e w1 ⟨rfl, rfl⟩)
            | (go_at_call 74; with_reducible refine CG.mono ?_; rintro e w2 ⟨rfl, hb1⟩
               have q6 := keep_cell hb1 g6
               have b2 := keep_below hb hb1
               have CM := HM.out w2 b2
               clear CG)
            | (go_at_call 75; with_reducible refine CM.mono ?_; rintro e w3 ⟨rfl, hb'⟩
               have b3 := keep_below b2 hb'))
            go_ret
            exact ⟨by simp, hb⟩
          · have _t2 := True.intro
            cases p3
            · go_wp2_with (first
            | (go_at_call 73; with_reducible refine (C0 _).mono ?_; rintro e w1 ⟨rfl, rfl⟩)
            | (go_at_call 73; with_reducible refine (C1 _).mono ?_; rintro e w1 ⟨rfl, rfl⟩)
            | (go_at_call 73; with_reducible refine (C2 _).mono ?_; rintro e w1 ⟨rfl, rfl⟩)
            | (go_at_call 73; with_reducible refine (C3 _).mono ?_; rintro e w1 ⟨rfl, rfl⟩)
            | (go_at_call 73; with_reducible refine (C4 _).mono ?_; rintro e w1 ⟨rfl, rfl⟩)
            | (go_at_call 74; with_reducible refine CG.mono ?_; rintro e w2 ⟨rfl, hb1⟩
               have q6 := keep_cell hb1 g6
               have b2 := keep_below hb hb1
               have CM := HM.out w2 b2
               clear CG)
            | (go_at_call 75; with_reducible refine CM.mono ?_; rintro e w3 ⟨rfl, hb'⟩
               have b3 := keep_below b2 hb'))
              go_ret
              exact ⟨by simp, hb⟩
            · have _t3 := True.intro
              cases p4
              · go_wp2_with (first
            | (go_at_call 73; with_reducible refine (C0 _).mono ?_; rintro e w1 ⟨rfl, rfl⟩)
            | (go_at_call 73; with_reducible refine (C1 _).mono ?_; rintro e w1 ⟨rfl, rfl⟩)
            | (go_at_call 73; with_reducible refine (C2 _).mono ?_; rintro e w1 ⟨rfl, rfl⟩)
            | (go_at_call 73; with_reducible refine (C3 _).mono ?_; rintro e w1 ⟨rfl, rfl⟩)
            | (go_at_call 73; with_reducible refine (C4 _).mono ?_; rintro e w1 ⟨rfl, rfl⟩)
            | (go_at_call 74; with_reducible refine CG.mono ?_; rintro e w2 ⟨rfl, hb1⟩
               have q6 := keep_cell hb1 g6
               have b2 := keep_below hb hb1
               have CM := HM.out w2 b2
               clear CG)
            | (go_at_call 75; with_reducible refine CM.mono ?_; rintro e w3 ⟨rfl, hb'⟩
               have b3 := keep_below b2 hb'))
                go_ret
                exact ⟨by simp, hb⟩
              · have _t4 := True.intro
                cases pg
                · go_wp2_with (first
            | (go_at_call 73; with_reducible refine (C0 _).mono ?_; rintro e w1 ⟨rfl, rfl⟩)
            | (go_at_call 73; with_reducible refine (C1 _).mono ?_; rintro e w1 ⟨rfl, rfl⟩)
            | (go_at_call 73; with_reducible refine (C2 _).mono ?_; rintro e w1 ⟨rfl, rfl⟩)
            | (go_at_call 73; with_reducible refine (C3 _).mono ?_; rintro e w1 ⟨rfl, rfl⟩)
            | (go_at_call 73; with_reducible refine (C4 _).mono ?_; rintro e w1 ⟨rfl, rfl⟩)
            | (go_at_call 74; with_reducible refine CG.mono ?_; rintro e w2 ⟨rfl, hb1⟩
               have q6 := keep_cell hb1 g6
               have b2 := keep_below hb hb1
               have CM := HM.out w2 b2
               clear CG)
            | (go_at_call 75; with_reducible refine CM.mono ?_; rintro e w3 ⟨rfl, hb'⟩
               have b3 := keep_below b2 hb'))
                  go_ret
                  exact ⟨by simp, b2⟩
                · go_wp2_with (first
            | (go_at_call 73; with_reducible refine (C0 _).mono ?_; rintro e w1 ⟨rfl, rfl⟩)
            | (go_at_call 73; with_reducible refine (C1 _).mono ?_; rintro e w1 ⟨rfl, rfl⟩)
            | (go_at_call 73; with_reducible refine (C2 _).mono ?_; rintro e w1 ⟨rfl, rfl⟩)
            | (go_at_call 73; with_reducible refine (C3 _).mono ?_; rintro e w1 ⟨rfl, rfl⟩)
            | (go_at_call 73; with_reducible refine (C4 _).mono ?_; rintro e w1 ⟨rfl, rfl⟩)
            | (go_at_call 74; with_reducible refine CG.mono ?_; rintro e w2 ⟨rfl, hb1⟩
               have q6 := keep_cell hb1 g6
               have b2 := keep_below hb hb1
               have CM := HM.out w2 b2
               clear CG)
            | (go_at_call 75; with_reducible refine CM.mono ?_; rintro e w3 ⟨rfl, hb'⟩
               have b3 := keep_below b2 hb'))
                  go_ret
                  exact ⟨by simp, b3⟩

end Go.Proofs.YtiommdfelnkibaaGreat

/- Walks: nearest. -/
namespace Go.Proofs.YtiommdfelnkibaaGreat
open Go Go.RowKit Go.Proofs

theorem nearest_any (lo hi n : Int) (w : World) :
    Calls Tryz.prog 144 #[spn lo hi, .int .i64 n] w fun e w' => e = .returned (.int .i64 (min (max lo n) hi)) ∧ Below w.heap.size w w' := by
  go_enter Tryz.func144, Tryz.ntmps144
  go_wp2
  all_goals go_ret
  all_goals exact ⟨ret_intG (by split at * <;> omega), (Below.refl _ _).alloc (Nat.le_refl _) _⟩

theorem checkSet_any (id c r m s : Int) (vg vm : Value) (G : List G5) (M : List M3) (sh : Int) (b : Bool) (w : World) (hG : SlG w vg G) (hM : SlM w vm M) :
    Calls Tryz.prog 44 #[pcs id c r m s vg vm, st sh b] w fun e w' => e = .returned (.int .i64 (if vP id c r m s G M = true then (if vset sh G.length = true then 0 else 1) else 30)) ∧ Below w.heap.size w w' := by
  have b0 : Below w.heap.size w ((w.alloc (pcsObj id c r m s vg vm)).alloc (stObj sh b)) := ((Below.refl _ _).alloc (Nat.le_refl _) _).alloc (by simp) _
  have hp : ((w.alloc (pcsObj id c r m s vg vm)).alloc (stObj sh b)).heap[w.heap.size]? = some (pcsObj id c r m s vg vm) := alloc_heap_old _ _ (by simp) |>.trans (pcs_new w id c r m s vg vm)
  have g5 : ((w.alloc (pcsObj id c r m s vg vm)).alloc (stObj sh b)).cell? ⟨w.heap.size, 5, none⟩ = some vg := cell_of hp rfl
  have hq : ((w.alloc (pcsObj id c r m s vg vm)).alloc (stObj sh b)).heap[w.heap.size + 1]? = some (stObj sh b) := by
    have := alloc_heap_new (w.alloc (pcsObj id c r m s vg vm)) (stObj sh b); rwa [World.size_alloc] at this
  have s0 : ((w.alloc (pcsObj id c r m s vg vm)).alloc (stObj sh b)).cell? ⟨w.heap.size + 1, 0, none⟩ = some (.int .i64 sh) := cell_of hq rfl
  have s1 : ((w.alloc (pcsObj id c r m s vg vm)).alloc (stObj sh b)).cell? ⟨w.heap.size + 1, 1, none⟩ = some (.bool b) := cell_of hq rfl
  have CP := validPiece_any id c r m s vg vm G M _ (hG.keep b0) (hM.keep b0)
  obtain ⟨ga, gcap, rfl, hgl, -⟩ := hG
  have CS := fun w => validSetting_any sh G.length b w
  generalize vP id c r m s G M = p at CP ⊢
  generalize vset sh G.length = q at CS ⊢
  generalize G.length = n at CP CS hgl b0 g5 s0 s1 hp ⊢
  clear hp hq
  cases p
  · go_enter Tryz.func44, Tryz.ntmps44
    go_wp2_with (first
      | (go_at_call 39; with_reducible refine CP.mono ?_; rintro e w1 ⟨rfl, hb⟩
         have b1 := keep_below b0 hb)
      | (go_at_call 57; with_reducible refine (CS _).mono ?_; rintro e w2 ⟨rfl, hb⟩))
    go_ret
    exact ⟨rfl, b1⟩
  · cases q
    · go_enter Tryz.func44, Tryz.ntmps44
      go_wp2_with (first
        | (go_at_call 39; with_reducible refine CP.mono ?_; rintro e w1 ⟨rfl, hb⟩
           have b1 := keep_below b0 hb
           have q5 := keep_cell hb g5
           have q0 := keep_cell hb s0
           have q1 := keep_cell hb s1
           clear b0)
        | (go_at_call 57; with_reducible refine (CS _).mono ?_; rintro e w2 ⟨rfl, hb⟩
           have b2 := keep_below b1 hb))
      go_ret
      exact ⟨rfl, b2⟩
    · go_enter Tryz.func44, Tryz.ntmps44
      go_wp2_with (first
        | (go_at_call 39; with_reducible refine CP.mono ?_; rintro e w1 ⟨rfl, hb⟩
           have b1 := keep_below b0 hb
           have q5 := keep_cell hb g5
           have q0 := keep_cell hb s0
           have q1 := keep_cell hb s1
           clear b0)
        | (go_at_call 57; with_reducible refine (CS _).mono ?_; rintro e w2 ⟨rfl, hb⟩
           have b2 := keep_below b1 hb))
      go_ret
      exact ⟨rfl, b2⟩

end Go.Proofs.YtiommdfelnkibaaGreat
