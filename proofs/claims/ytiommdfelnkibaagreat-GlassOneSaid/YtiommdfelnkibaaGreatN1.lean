/- Walks: the reference's meet. -/
import Derived.Test.YtiommdfelnkibaaGreatLG
import Derived.Laws.AppendOwn
import Derived.Test.YtiommdfelnkibaaGreatLE
namespace Go.Proofs.YtiommdfelnkibaaGreat
open Go Go.RowKit Go.Proofs

theorem two_new (w : World) (x y : Int) : ∀ j u, [Value.int .i64 x, .int .i64 y][j]? = some u → (w.alloc (ptObj x y)).cell? ((⟨w.heap.size, 0, none⟩ : Addr).add j) = some u := by
  intro j u hj
  have n := pt_new w x y
  rw [Addr.add_mid]
  rcases j with _ | _ | j
  · simp at hj; subst hj; exact n.1
  · simp at hj; subst hj; exact n.2
  · simp at hj

theorem two_cells (x y : Int) : ∀ u ∈ [Value.int .i64 x, .int .i64 y], u.oneCell' = true := by
  intro u hu; simp at hu; rcases hu with rfl | rfl <;> rfl

theorem info23 : (Tryz.prog.info? 66).map (fun i => (i.zero, i.size, i.bytes)) = some (some (pt 0 0), 2, 16) := by kernel_rfl

theorem grown_cell {w1 w2 : World} {base b o : Nat} {row : Option Nat} {v : Value} (hb : b < base) (hg : w1.grownBy w2 row) (hr : ∀ k, row = some k → base ≤ k) (h : w1.cell? ⟨b, o, none⟩ = some v) : w2.cell? ⟨b, o, none⟩ = some v :=
  hg.cell h (fun e => by have := hr b e.symm; omega)

theorem Pts.grown {w w1 w2 : World} {ax ay bx b_y cx cy dx dy : Int} {base : Nat} {row : Option Nat} (h : Pts w ax ay bx b_y cx cy dx dy w1) (hb : w.heap.size + 4 ≤ base) (hg : w1.grownBy w2 row) (hr : ∀ k, row = some k → base ≤ k) : Pts w ax ay bx b_y cx cy dx dy w2 :=
  ⟨h.b.grown hg (by have := h.n; omega) (fun k hk => by have := hr k hk; omega), Nat.le_trans h.n hg.size, grown_cell (by omega) hg hr h.c0, grown_cell (by omega) hg hr h.c1, grown_cell (by omega) hg hr h.c2, grown_cell (by omega) hg hr h.c3,
    grown_cell (by omega) hg hr h.c4, grown_cell (by omega) hg hr h.c5, grown_cell (by omega) hg hr h.c6, grown_cell (by omega) hg hr h.c7⟩

theorem range_grown {w1 w2 : World} {base b o : Nat} {row : Option Nat} {cs : List Value} (hb : b < base) (h : w1.rangeAt b o cs) (hg : w1.grownBy w2 row) (hr : ∀ k, row = some k → base ≤ k) : w2.rangeAt b o cs :=
  fun j v hv => grown_cell hb hg hr (h j v hv)

theorem owns_cells {w : World} {g cap : Nat} {cur : Array Value} {e : TypeId} {fz : Nat × Nat} {L : List (Int × Int)} (hcur : w.heap[g]? = some (.cells cur e fz)) (_hcs : cur.size = cap * 2) (htake : cur.toList.take (L.length * 2) = ptCells L) (_hn : L.length ≤ cap) :
    ∀ j, j < L.length → w.cell? ⟨g, j * 2, none⟩ = some (.int .i64 (L.getD j (0, 0)).1) ∧ w.cell? ⟨g, j * 2 + 1, none⟩ = some (.int .i64 (L.getD j (0, 0)).2) := by
  intro j hj
  obtain ⟨h1, h2⟩ := ptCells_get L j hj
  rw [← htake] at h1 h2
  rw [List.getElem?_take] at h1 h2
  unfold World.cell?
  simp only [hcur]
  constructor
  · split at h1
    · simpa using h1
    · cases h1
  · split at h2
    · simpa using h2
    · cases h2

theorem owns_drew {w : World} {base : Nat} {e : TypeId} {size n : Nat} {v : Value} {xs : List Value} (k : Nat) (h : w.ownsRow base e size v n xs) : (w.drewN k).ownsRow base e size v n xs := h

theorem contains_succ {L : List (Int × Int)} {j : Nat} {p : Int × Int} (h : j < L.length) : (L.take (j + 1)).contains p = ((L.take j).contains p || L.getD j (0, 0) == p) := by
  rw [List.take_add_one, List.getElem?_eq_getElem h]
  have : L.getD j (0, 0) = L[j] := by simp [List.getD_eq_getElem?_getD, h]
  rw [this]
  simp only [Option.toList_some, List.contains_eq_mem, List.mem_append, List.mem_singleton]
  rw [Bool.eq_iff_iff]
  simp
  constructor
  · rintro (h | h)
    · exact .inl h
    · exact .inr h.symm
  · rintro (h | h)
    · exact .inl h
    · exact .inr h.symm

theorem ptCells_snoc (L : List (Int × Int)) (x y : Int) : ptCells (L ++ [(x, y)]) = ptCells L ++ [.int .i64 x, .int .i64 y] := by
  induction L with
  | nil => rfl
  | cons p ps ih => simp [ptCells, ih]

theorem below_drewN {B : Nat} {a w : World} (h : Below B a w) (n : Nat) : Below B a (w.drewN n) := h.trans ⟨rfl, rfl, rfl, Nat.le_refl _, fun _ _ => rfl⟩

theorem parted_parts {ax ay bx b_y cx cy dx dy : Int} {p : Bool} (h1 : Small ax) (h2 : Small ay) (h3 : Small bx) (h4 : Small b_y) (h5 : Small cx) (h6 : Small cy) (h7 : Small dx) (h8 : Small dy) (hp : parted ax ay bx b_y cx cy dx dy = p) :
    ∃ x1 s1 x2 s2 m : Int, (∀ w, Calls Tryz.prog 64 #[pt ax ay, pt bx b_y, pt cx cy] w fun e w' => e = .returned (.int .i64 x1) ∧ Below w.heap.size w w') ∧
      (∀ w, Calls Tryz.prog 64 #[pt ax ay, pt bx b_y, pt dx dy] w fun e w' => e = .returned (.int .i64 x2) ∧ Below w.heap.size w w') ∧
      (∀ w, Calls Tryz.prog 153 #[.int .i64 x1] w fun e w' => e = .returned (.int .i64 s1) ∧ w' = w) ∧ (∀ w, Calls Tryz.prog 153 #[.int .i64 x2] w fun e w' => e = .returned (.int .i64 s2) ∧ w' = w) ∧
      wrap64 (s1 * s2) = m ∧ decide (m < 0) = p := by
  refine ⟨_, _, _, _, _, fun w => refCross_any _ _ _ _ _ _ w h1 h2 h3 h4 h5 h6, fun w => refCross_any _ _ _ _ _ _ w h1 h2 h3 h4 h7 h8, fun w => sign_any _ w, fun w => sign_any _ w, w64 _ ?_, hp⟩
  have := mul_le (compareInt_bound (cross ax ay bx b_y cx cy) 0) (compareInt_bound (cross ax ay bx b_y dx dy) 0)
  omega

theorem owns_grow {w w' : World} {base : Nat} {e : TypeId} {size n : Nat} {v : Value} {xs : List Value} (hb : Below w.heap.size w w') (h : w.ownsRow base e size v n xs) : w'.ownsRow base e size v n xs := by
  obtain ⟨h1, h2⟩ := h
  refine ⟨h1, ?_⟩
  rcases h2 with h2 | ⟨g, cap, cur, e1, e2, e3, e4⟩
  · exact .inl h2
  · refine .inr ⟨g, cap, cur, e1, e2, ?_, e4⟩
    have : g < w.heap.size := (Array.getElem?_eq_some_iff.1 e3).1
    rw [hb.block g this, e3]

set_option maxRecDepth 100000 in
set_option maxHeartbeats 4000000 in
theorem refMeet_any (ax ay bx b_y cx cy dx dy : Int) (w : World) (h1 : Small ax) (h2 : Small ay) (h3 : Small bx) (h4 : Small b_y) (h5 : Small cx) (h6 : Small cy) (h7 : Small dx) (h8 : Small dy) :
    Calls Tryz.prog 111 #[pt ax ay, pt bx b_y, pt cx cy, pt dx dy] w fun e w' => e = .returned (.int .i64 (meetS ax ay bx b_y cx cy dx dy)) ∧ Below w.heap.size w w' := by
  obtain ⟨its, hits⟩ : ∃ its, both ax ay bx b_y cx cy dx dy = its := ⟨_, rfl⟩
  have HI := Lib.hid hits
  obtain ⟨m, hm⟩ : ∃ m, meetS ax ay bx b_y cx cy dx dy = m := ⟨_, rfl⟩
  have HM := Lib.hid (show m = (if 2 ≤ (comUpto its 4).length then 3 else if (comUpto its 4).length = 1 then 1 else if (parted ax ay bx b_y cx cy dx dy && parted cx cy dx dy ax ay bx b_y) = true then 2 else 0) by rw [← hm, ← hits]; exact meetS_com _ _ _ _ _ _ _ _)
  rw [hm]
  clear hits hm
  obtain ⟨i0, hi, hz0, hz1, hz2⟩ := info_parts info23
  go_enter Tryz.func111, Tryz.ntmps111
  go_wp2_with fail
  have hP := (Pts.start w ax ay bx b_y cx cy dx dy).keep ((Below.refl _ _).alloc (Nat.le_refl _) (.cells ⟨ptCells [(ax, ay), (bx, b_y), (cx, cy), (dx, dy)]⟩ 66))
  have hra := range_new ((((w.alloc (ptObj ax ay)).alloc (ptObj bx b_y)).alloc (ptObj cx cy)).alloc (ptObj dx dy)) (ptCells [(ax, ay), (bx, b_y), (cx, cy), (dx, dy)]) 66
  obtain ⟨r, hr⟩ : ∃ r, w.heap.size + 1 + 1 + 1 + 1 = r := ⟨_, rfl⟩
  have hrs : ((((w.alloc (ptObj ax ay)).alloc (ptObj bx b_y)).alloc (ptObj cx cy)).alloc (ptObj dx dy)).heap.size = r := by rw [← hr]; simp
  rw [hrs] at hra
  have hwr : w.heap.size + 4 = r := hr
  rw [hr]
  have hsz : (((((w.alloc (ptObj ax ay)).alloc (ptObj bx b_y)).alloc (ptObj cx cy)).alloc (ptObj dx dy)).alloc (.cells ⟨ptCells [(ax, ay), (bx, b_y), (cx, cy), (dx, dy)]⟩ 66)).heap.size = r + 1 := by rw [← hr]; simp
  clear hrs hr
  go_loopw [9, 11] (fun c i wr => ∃ k : Nat, k ≤ 4 ∧ i = .int .i64 k ∧ ∃ L : List (Int × Int), comUpto its k = L ∧ L.length ≤ k ∧ Pts w ax ay bx b_y cx cy dx dy wr ∧ wr.rangeAt r 0 (ptCells [(ax, ay), (bx, b_y), (cx, cy), (dx, dy)]) ∧ r + 1 ≤ wr.heap.size ∧
      wr.ownsRow (r + 1) 66 2 c L.length (ptCells L)) (fun _ i _ => 4 - (intOf i).toNat)
  case atStart => exact ⟨0, by omega, rfl, [], rfl, Nat.le_refl _, hP, hra, Nat.le_of_eq hsz.symm, World.ownsRow_nil _ _ _ _⟩
  case round =>
    clear hP hra hsz
    obtain ⟨k, hk, rfl, L, hL, hlen, hP, hra, hz, hown⟩ := hrel
    have HL := Lib.hid hL
    clear hL
    have hwr := Lib.hid hwr
    obtain ⟨hbe, hn, c0, c1, c2, c3, c4, c5, c6, c7⟩ := id hP
    have hk4 : k = 4 ∨ k = 0 ∨ k = 1 ∨ k = 2 ∨ k = 3 := by omega
    rcases hk4 with rfl | rfl | rfl | rfl | rfl
    -- ROUNDS
    · have HM4 := HM.out
      rw [HL.out] at HM4
      have HM5 := Lib.hid HM4
      clear HM4
      obtain ⟨n, hn'⟩ : ∃ n, L.length = n := ⟨_, rfl⟩
      rw [hn'] at hown HM5
      have own := id hown
      rcases own with ⟨_, ⟨rfl, hn0⟩ | ⟨g, cap, cur, rfl, hg, hcur, hncap, hmax, hcs, htake⟩⟩
      · subst hn0
        go_wp2_with fail
        obtain ⟨p1, hp1⟩ : ∃ p, parted ax ay bx b_y cx cy dx dy = p := ⟨_, rfl⟩
        obtain ⟨p2, hp2⟩ : ∃ p, parted cx cy dx dy ax ay bx b_y = p := ⟨_, rfl⟩
        obtain ⟨x1, s1, x2, s2, m1, C1, C2, S1, S2, W1, M1⟩ := parted_parts h1 h2 h3 h4 h5 h6 h7 h8 hp1
        obtain ⟨x3, s3, x4, s4, m2, C3, C4, S3, S4, W2, M2⟩ := parted_parts h5 h6 h7 h8 h1 h2 h3 h4 hp2
        have HP1 := Lib.hid hp1
        have HP2 := Lib.hid hp2
        clear hp1 hp2
        have G0 := grow_cell c0
        have G1 := grow_cell c1
        have G2 := grow_cell c2
        have G3 := grow_cell c3
        have G6 := grow_cell c4
        have G7 := grow_cell c5
        have G8 := grow_cell c6
        have G9 := grow_cell c7
        cases p1 <;> cases p2
        all_goals
          refine wp_region_grow (by kernel_rfl) (by kernel_rfl) ?_
          repeat (go_big_quiet_step ((first | (go_at_call 64; with_reducible exact calls_grow (C1 _)) | (go_at_call 64; with_reducible exact calls_grow (C2 _)) | (go_at_call 64; with_reducible exact calls_grow (C3 _)) | (go_at_call 64; with_reducible exact calls_grow (C4 _)) | (go_at_call 153; with_reducible exact calls_grow_same (S1 _)) | (go_at_call 153; with_reducible exact calls_grow_same (S2 _)) | (go_at_call 153; with_reducible exact calls_grow_same (S3 _)) | (go_at_call 153; with_reducible exact calls_grow_same (S4 _)))))
          refine wpQuiet_nil ?_
          rintro w2 ⟨x, hx⟩
          have hb : Below wr.heap.size wr w2 := by rw [hx]; exact x.b
          clear hx x G0 G1 G2 G3 G6 G7 G8 G9
          go_wp2
          go_ret
          exact ⟨ret_intP (by rw [HM5.out, HP1.out, HP2.out]; rfl), keep_below hbe hb⟩
      · have hcases : n = 0 ∨ n = 1 ∨ 2 ≤ n := by omega
        rcases hcases with rfl | rfl | h2n
        · go_wp2_with fail
          obtain ⟨p1, hp1⟩ : ∃ p, parted ax ay bx b_y cx cy dx dy = p := ⟨_, rfl⟩
          obtain ⟨p2, hp2⟩ : ∃ p, parted cx cy dx dy ax ay bx b_y = p := ⟨_, rfl⟩
          obtain ⟨x1, s1, x2, s2, m1, C1, C2, S1, S2, W1, M1⟩ := parted_parts h1 h2 h3 h4 h5 h6 h7 h8 hp1
          obtain ⟨x3, s3, x4, s4, m2, C3, C4, S3, S4, W2, M2⟩ := parted_parts h5 h6 h7 h8 h1 h2 h3 h4 hp2
          have HP1 := Lib.hid hp1
          have HP2 := Lib.hid hp2
          clear hp1 hp2
          have G0 := grow_cell c0
          have G1 := grow_cell c1
          have G2 := grow_cell c2
          have G3 := grow_cell c3
          have G6 := grow_cell c4
          have G7 := grow_cell c5
          have G8 := grow_cell c6
          have G9 := grow_cell c7
          cases p1 <;> cases p2
          all_goals
            refine wp_region_grow (by kernel_rfl) (by kernel_rfl) ?_
            repeat (go_big_quiet_step ((first | (go_at_call 64; with_reducible exact calls_grow (C1 _)) | (go_at_call 64; with_reducible exact calls_grow (C2 _)) | (go_at_call 64; with_reducible exact calls_grow (C3 _)) | (go_at_call 64; with_reducible exact calls_grow (C4 _)) | (go_at_call 153; with_reducible exact calls_grow_same (S1 _)) | (go_at_call 153; with_reducible exact calls_grow_same (S2 _)) | (go_at_call 153; with_reducible exact calls_grow_same (S3 _)) | (go_at_call 153; with_reducible exact calls_grow_same (S4 _)))))
            refine wpQuiet_nil ?_
            rintro w2 ⟨x, hx⟩
            have hb : Below wr.heap.size wr w2 := by rw [hx]; exact x.b
            clear hx x G0 G1 G2 G3 G6 G7 G8 G9
            go_wp2
            go_ret
            exact ⟨ret_intP (by rw [HM5.out, HP1.out, HP2.out]; rfl), keep_below hbe hb⟩
        · go_wp2
          go_ret
          exact ⟨ret_intP (by rw [HM5.out]; rfl), hbe⟩
        · have t1 : (1 : Int) < (n : Int) := by omega
          go_wp2
          go_ret
          exact ⟨ret_intP (by rw [HM5.out, if_pos h2n]), hbe⟩
    · have a0 := hra 0 (.int .i64 ax) rfl
      have a1 := hra 1 (.int .i64 ay) rfl
      simp only [Nat.zero_add] at a0 a1
      have S := Lib.hid (comUpto_succ (l := its) (k := 0) (by rw [← HI.out]; rfl))
      obtain ⟨f1, hf1⟩ : ∃ f, onSeg ax ay ax ay bx b_y = f := ⟨_, rfl⟩
      have F1 := fun w => refOn_any ax ay bx b_y ax ay w h1 h2 h3 h4 h1 h2
      rw [hf1] at F1
      have N1 := Lib.hid hf1
      clear hf1
      obtain ⟨f2, hf2⟩ : ∃ f, onSeg ax ay cx cy dx dy = f := ⟨_, rfl⟩
      have F2 := fun w => refOn_any cx cy dx dy ax ay w h5 h6 h7 h8 h1 h2
      rw [hf2] at F2
      have N2 := Lib.hid hf2
      clear hf2
      have G0 := grow_cell c0
      have G1 := grow_cell c1
      have G2 := grow_cell c2
      have G3 := grow_cell c3
      have G6 := grow_cell c4
      have G7 := grow_cell c5
      have G8 := grow_cell c6
      have G9 := grow_cell c7
      have G4 := grow_cell a0
      have G5 := grow_cell a1
      cases f1
      · have F2 := F1
        go_wp2_with fail
        refine wp_region_grow (by kernel_rfl) (by kernel_rfl) ?_
        repeat (go_big_quiet_step ((first | (go_at_call 152; with_reducible exact calls_grow (F1 _)) | (go_at_call 152; with_reducible exact calls_grow (F2 _)))))
        refine wpQuiet_nil ?_
        rintro w2 ⟨x, hx⟩
        have hb : Below wr.heap.size wr w2 := by rw [hx]; exact x.b
        clear hx x G0 G1 G2 G3 G4 G5 G6 G7 G8 G9
        go_wp2
        refine ⟨⟨1, by omega, by simp, L, ?_, by omega, hP.keep hb, range_keep hb hra, Nat.le_trans hz hb.size, owns_grow hb hown⟩, by simp [intOf]⟩
        rw [S.out, HL.out, N1.out]; rfl
      · cases f2
        · skip
          go_wp2_with fail
          refine wp_region_grow (by kernel_rfl) (by kernel_rfl) ?_
          repeat (go_big_quiet_step ((first | (go_at_call 152; with_reducible exact calls_grow (F1 _)) | (go_at_call 152; with_reducible exact calls_grow (F2 _)))))
          refine wpQuiet_nil ?_
          rintro w2 ⟨x, hx⟩
          have hb : Below wr.heap.size wr w2 := by rw [hx]; exact x.b
          clear hx x G0 G1 G2 G3 G4 G5 G6 G7 G8 G9
          go_wp2
          refine ⟨⟨1, by omega, by simp, L, ?_, by omega, hP.keep hb, range_keep hb hra, Nat.le_trans hz hb.size, owns_grow hb hown⟩, by simp [intOf]⟩
          rw [S.out, HL.out, N1.out, N2.out]; rfl
        · skip
          go_wp2_with fail
          refine wp_region_grow (by kernel_rfl) (by kernel_rfl) ?_
          repeat (go_big_quiet_step ((first | (go_at_call 152; with_reducible exact calls_grow (F1 _)) | (go_at_call 152; with_reducible exact calls_grow (F2 _)))))
          refine wpQuiet_nil ?_
          rintro w2 ⟨x, hx⟩
          have hb : Below wr.heap.size wr w2 := by rw [hx]; exact x.b
          clear hx x G0 G1 G2 G3 G4 G5 G6 G7 G8 G9
          replace hP := hP.keep hb
          replace hra := range_keep hb hra
          replace hown := owns_grow hb hown
          replace hz := Nat.le_trans hz hb.size
          clear hbe hn c0 c1 c2 c3 c4 c5 c6 c7 a0 a1 hb F1 F2
          have a0 := hra 0 (.int .i64 ax) rfl
          have a1 := hra 1 (.int .i64 ay) rfl
          simp only [Nat.zero_add] at a0 a1
          go_wp2_with fail
          rcases id hown with ⟨hlen2, ⟨rfl, hn0⟩ | ⟨g, cap, cur, rfl, hg, hcur, hncap, hmax, hcs, htake⟩⟩
          · obtain rfl := List.length_eq_zero_iff.1 hn0
            go_loopw [12, 13] (fun kn j wi => j = .int .i64 0 ∧ kn = .bool false ∧ wi = w2) (fun _ j _ => 0 - (intOf j).toNat)
            case atStart => exact ⟨rfl, rfl, rfl⟩
            case round =>
              obtain ⟨rfl, rfl, rfl⟩ := hrel
              go_wp2_with (at_builtin; refine wpList_append_own _ rfl _ _ 26 rfl (r + 1) 66 i0 (pt 0 0) 2 16 Tryz.underlying26 hi hz0 hz1 hz2 rfl (by decide) _ _ _ rfl (hown.alloc _) _ 1 1 [.int .i64 ax, .int .i64 ay] rfl rfl (two_new _ _ _) (two_cells _ _) (by unfold maxLen; omega) (by first | omega | (simp; done) | (simp; omega)) (by first | omega | (simp; done) | (simp; omega)) ?_; intro v1 w3 hown1 hgrow3 hnil3)
              have hr3 : ∀ k, (Value.slice none 0 0).ownBlock = some k → r + 1 ≤ k := fun k hk => by cases hk
              have hP3 := (hP.keep ((Below.refl _ _).alloc (Nat.le_refl _) (ptObj ax ay))).grown (base := r + 1) (by have := hwr.out; omega) hgrow3 hr3
              have hra3 := range_grown (base := r + 1) (Nat.lt_succ_self r) (range_keep ((Below.refl _ _).alloc (Nat.le_refl _) (ptObj ax ay)) hra) hgrow3 hr3
              refine ⟨⟨1, by omega, by simp, [(ax, ay)], ?_, by simp, hP3, hra3, ?_, hown1⟩, by simp [intOf]⟩
              · rw [S.out, HL.out, N1.out, N2.out]; rfl
              · have := hgrow3.size; simp at this; omega
          · obtain rfl : L = [] := List.length_eq_zero_iff.1 (by omega)
            go_loopw [12, 13] (fun kn j wi => j = .int .i64 0 ∧ kn = .bool false ∧ wi = w2) (fun _ j _ => 0 - (intOf j).toNat)
            case atStart => exact ⟨rfl, rfl, rfl⟩
            case round =>
              obtain ⟨rfl, rfl, rfl⟩ := hrel
              go_wp2_with (at_builtin; refine wpList_append_own _ rfl _ _ 26 rfl (r + 1) 66 i0 (pt 0 0) 2 16 Tryz.underlying26 hi hz0 hz1 hz2 rfl (by decide) _ _ _ rfl (hown.alloc _) _ 1 1 [.int .i64 ax, .int .i64 ay] rfl rfl (two_new _ _ _) (two_cells _ _) (by unfold maxLen; omega) (by first | omega | (simp; done) | (simp; omega)) (by first | omega | (simp; done) | (simp; omega)) ?_; intro v1 w3 hown1 hgrow3 hnil3)
              have hr3 : ∀ k, (Value.slice (some ⟨g, 0, none⟩) ([] : List (Int × Int)).length cap).ownBlock = some k → r + 1 ≤ k := fun k hk => by cases hk; exact hg
              have hP3 := (hP.keep ((Below.refl _ _).alloc (Nat.le_refl _) (ptObj ax ay))).grown (base := r + 1) (by have := hwr.out; omega) hgrow3 hr3
              have hra3 := range_grown (base := r + 1) (Nat.lt_succ_self r) (range_keep ((Below.refl _ _).alloc (Nat.le_refl _) (ptObj ax ay)) hra) hgrow3 hr3
              refine ⟨⟨1, by omega, by simp, [(ax, ay)], ?_, by simp, hP3, hra3, ?_, hown1⟩, by simp [intOf]⟩
              · rw [S.out, HL.out, N1.out, N2.out]; rfl
              · have := hgrow3.size; simp at this; omega
    · have a0 := hra 2 (.int .i64 bx) rfl
      have a1 := hra 3 (.int .i64 b_y) rfl
      simp only [Nat.zero_add] at a0 a1
      have S := Lib.hid (comUpto_succ (l := its) (k := 1) (by rw [← HI.out]; rfl))
      obtain ⟨f1, hf1⟩ : ∃ f, onSeg bx b_y ax ay bx b_y = f := ⟨_, rfl⟩
      have F1 := fun w => refOn_any ax ay bx b_y bx b_y w h1 h2 h3 h4 h3 h4
      rw [hf1] at F1
      have N1 := Lib.hid hf1
      clear hf1
      obtain ⟨f2, hf2⟩ : ∃ f, onSeg bx b_y cx cy dx dy = f := ⟨_, rfl⟩
      have F2 := fun w => refOn_any cx cy dx dy bx b_y w h5 h6 h7 h8 h3 h4
      rw [hf2] at F2
      have N2 := Lib.hid hf2
      clear hf2
      have G0 := grow_cell c0
      have G1 := grow_cell c1
      have G2 := grow_cell c2
      have G3 := grow_cell c3
      have G6 := grow_cell c4
      have G7 := grow_cell c5
      have G8 := grow_cell c6
      have G9 := grow_cell c7
      have G4 := grow_cell a0
      have G5 := grow_cell a1
      cases f1
      · have F2 := F1
        go_wp2_with fail
        refine wp_region_grow (by kernel_rfl) (by kernel_rfl) ?_
        repeat (go_big_quiet_step ((first | (go_at_call 152; with_reducible exact calls_grow (F1 _)) | (go_at_call 152; with_reducible exact calls_grow (F2 _)))))
        refine wpQuiet_nil ?_
        rintro w2 ⟨x, hx⟩
        have hb : Below wr.heap.size wr w2 := by rw [hx]; exact x.b
        clear hx x G0 G1 G2 G3 G4 G5 G6 G7 G8 G9
        go_wp2
        refine ⟨⟨2, by omega, by simp, L, ?_, by omega, hP.keep hb, range_keep hb hra, Nat.le_trans hz hb.size, owns_grow hb hown⟩, by simp [intOf]⟩
        rw [S.out, HL.out, N1.out]; rfl
      · cases f2
        · skip
          go_wp2_with fail
          refine wp_region_grow (by kernel_rfl) (by kernel_rfl) ?_
          repeat (go_big_quiet_step ((first | (go_at_call 152; with_reducible exact calls_grow (F1 _)) | (go_at_call 152; with_reducible exact calls_grow (F2 _)))))
          refine wpQuiet_nil ?_
          rintro w2 ⟨x, hx⟩
          have hb : Below wr.heap.size wr w2 := by rw [hx]; exact x.b
          clear hx x G0 G1 G2 G3 G4 G5 G6 G7 G8 G9
          go_wp2
          refine ⟨⟨2, by omega, by simp, L, ?_, by omega, hP.keep hb, range_keep hb hra, Nat.le_trans hz hb.size, owns_grow hb hown⟩, by simp [intOf]⟩
          rw [S.out, HL.out, N1.out, N2.out]; rfl
        · skip
          go_wp2_with fail
          refine wp_region_grow (by kernel_rfl) (by kernel_rfl) ?_
          repeat (go_big_quiet_step ((first | (go_at_call 152; with_reducible exact calls_grow (F1 _)) | (go_at_call 152; with_reducible exact calls_grow (F2 _)))))
          refine wpQuiet_nil ?_
          rintro w2 ⟨x, hx⟩
          have hb : Below wr.heap.size wr w2 := by rw [hx]; exact x.b
          clear hx x G0 G1 G2 G3 G4 G5 G6 G7 G8 G9
          replace hP := hP.keep hb
          replace hra := range_keep hb hra
          replace hown := owns_grow hb hown
          replace hz := Nat.le_trans hz hb.size
          clear hbe hn c0 c1 c2 c3 c4 c5 c6 c7 a0 a1 hb F1 F2
          have a0 := hra 2 (.int .i64 bx) rfl
          have a1 := hra 3 (.int .i64 b_y) rfl
          simp only [Nat.zero_add] at a0 a1
          go_wp2_with fail
          rcases id hown with ⟨hlen2, ⟨rfl, hn0⟩ | ⟨g, cap, cur, rfl, hg, hcur, hncap, hmax, hcs, htake⟩⟩
          · obtain rfl := List.length_eq_zero_iff.1 hn0
            go_loopw [12, 13] (fun kn j wi => j = .int .i64 0 ∧ kn = .bool false ∧ wi = w2) (fun _ j _ => 0 - (intOf j).toNat)
            case atStart => exact ⟨rfl, rfl, rfl⟩
            case round =>
              obtain ⟨rfl, rfl, rfl⟩ := hrel
              go_wp2_with (at_builtin; refine wpList_append_own _ rfl _ _ 26 rfl (r + 1) 66 i0 (pt 0 0) 2 16 Tryz.underlying26 hi hz0 hz1 hz2 rfl (by decide) _ _ _ rfl (hown.alloc _) _ 1 1 [.int .i64 bx, .int .i64 b_y] rfl rfl (two_new _ _ _) (two_cells _ _) (by unfold maxLen; omega) (by first | omega | (simp; done) | (simp; omega)) (by first | omega | (simp; done) | (simp; omega)) ?_; intro v1 w3 hown1 hgrow3 hnil3)
              have hr3 : ∀ k, (Value.slice none 0 0).ownBlock = some k → r + 1 ≤ k := fun k hk => by cases hk
              have hP3 := (hP.keep ((Below.refl _ _).alloc (Nat.le_refl _) (ptObj bx b_y))).grown (base := r + 1) (by have := hwr.out; omega) hgrow3 hr3
              have hra3 := range_grown (base := r + 1) (Nat.lt_succ_self r) (range_keep ((Below.refl _ _).alloc (Nat.le_refl _) (ptObj bx b_y)) hra) hgrow3 hr3
              refine ⟨⟨2, by omega, by simp, [(bx, b_y)], ?_, by simp, hP3, hra3, ?_, hown1⟩, by simp [intOf]⟩
              · rw [S.out, HL.out, N1.out, N2.out]; rfl
              · have := hgrow3.size; simp at this; omega
          · have hc := owns_cells hcur hcs htake hncap
            have hown2 := fun n => owns_drew n hown
            go_loopw [12, 13] (fun kn j wi => ∃ j' : Nat, j' ≤ L.length ∧ j = .int .i64 j' ∧ kn = .bool ((L.take j').contains (bx, b_y)) ∧ ∃ n, wi = w2.drewN n) (fun _ j _ => L.length - (intOf j).toNat)
            case atStart => exact ⟨0, Nat.zero_le _, rfl, rfl, 0, rfl⟩
            case round =>
              obtain ⟨j', hj, rfl, rfl, nq, rfl⟩ := hrel
              obtain ⟨kn, hkn⟩ : ∃ kn, (L.take j').contains (bx, b_y) = kn := ⟨_, rfl⟩
              rw [hkn]
              have K := Lib.hid hkn
              clear hkn
              by_cases hlt : j' < L.length
              · obtain ⟨X, hX⟩ : ∃ X, (L.getD j' (0, 0)).1 = X := ⟨_, rfl⟩
                obtain ⟨Y, hY⟩ : ∃ Y, (L.getD j' (0, 0)).2 = Y := ⟨_, rfl⟩
                have e0 := (hc j' hlt).1
                have e1 := (hc j' hlt).2
                rw [hX] at e0
                rw [hY] at e1
                have HX := Lib.hid hX
                have HY := Lib.hid hY
                clear hX hY hc
                have i0' : (0 : Int) ≤ (j' : Int) := by omega
                have i1' : (j' : Int) < (L.length : Int) := by omega
                cases kn
                · go_wp2_with fail
                  have hq := run_pt_eql
                  go_quiet (fail)
                  clear hq
                  go_wp2
                  refine ⟨⟨j' + 1, by omega, by go_num, ?_, _, rfl⟩, by simp [intOf]; omega⟩
                  rw [contains_succ hlt, K.out, ← HX.out, ← HY.out]; rfl
                · go_wp2_with fail
                  go_quiet (fail)
                  go_wp2
                  refine ⟨⟨j' + 1, by omega, by go_num, ?_, _, rfl⟩, by simp [intOf]; omega⟩
                  rw [contains_succ hlt, K.out]; rfl
              · have hjL : j' = L.length := by omega
                subst hjL
                have KL : L.contains (bx, b_y) = kn := by have := K.out; rwa [List.take_length] at this
                have K2 := Lib.hid KL
                clear KL K hlt hj hc
                cases kn
                · go_wp2_with (at_builtin; go_loud (refine wpList_append_own _ rfl _ _ 26 rfl (r + 1) 66 i0 (pt 0 0) 2 16 Tryz.underlying26 hi hz0 hz1 hz2 rfl (by decide) _ _ _ rfl ((hown2 _).alloc _) _ 1 1 [.int .i64 bx, .int .i64 b_y] rfl rfl (two_new _ _ _) (two_cells _ _) (by unfold maxLen; omega) (by first | omega | (simp; done) | (simp; omega)) (by first | omega | (simp; done) | (simp; omega)) ?_; intro v1 w3 hown1 hgrow3 hnil3))
                  have hr3 : ∀ k, (Value.slice (some ⟨g, 0, none⟩) L.length cap).ownBlock = some k → r + 1 ≤ k := fun k hk => by cases hk; exact hg
                  have hbw : Below w2.heap.size w2 ((w2.drewN nq).alloc (ptObj bx b_y)) := below_drewN ((Below.refl _ _)) nq |>.alloc (by simp) _
                  have hP3 := (hP.keep hbw).grown (base := r + 1) (by have := hwr.out; omega) hgrow3 hr3
                  have hra3 := range_grown (base := r + 1) (Nat.lt_succ_self r) (range_keep hbw hra) hgrow3 hr3
                  refine ⟨⟨2, by omega, by simp, L ++ [(bx, b_y)], ?_, by simp; omega, hP3, hra3, ?_, by rw [ptCells_snoc]; simpa using hown1⟩, by simp [intOf]⟩
                  · rw [S.out, HL.out, N1.out, N2.out]; exact comStep_new K2.out
                  · have := hgrow3.size; simp at this; omega
                · go_wp2
                  refine ⟨⟨2, by omega, by simp, L, ?_, by omega, hP.keep (below_drewN (Below.refl _ _) nq), range_keep (below_drewN (Below.refl _ _) nq) hra, by simpa using hz, hown2 nq⟩, by simp [intOf]⟩
                  rw [S.out, HL.out, N1.out, N2.out]; exact comStep_old K2.out
    · have a0 := hra 4 (.int .i64 cx) rfl
      have a1 := hra 5 (.int .i64 cy) rfl
      simp only [Nat.zero_add] at a0 a1
      have S := Lib.hid (comUpto_succ (l := its) (k := 2) (by rw [← HI.out]; rfl))
      obtain ⟨f1, hf1⟩ : ∃ f, onSeg cx cy ax ay bx b_y = f := ⟨_, rfl⟩
      have F1 := fun w => refOn_any ax ay bx b_y cx cy w h1 h2 h3 h4 h5 h6
      rw [hf1] at F1
      have N1 := Lib.hid hf1
      clear hf1
      obtain ⟨f2, hf2⟩ : ∃ f, onSeg cx cy cx cy dx dy = f := ⟨_, rfl⟩
      have F2 := fun w => refOn_any cx cy dx dy cx cy w h5 h6 h7 h8 h5 h6
      rw [hf2] at F2
      have N2 := Lib.hid hf2
      clear hf2
      have G0 := grow_cell c0
      have G1 := grow_cell c1
      have G2 := grow_cell c2
      have G3 := grow_cell c3
      have G6 := grow_cell c4
      have G7 := grow_cell c5
      have G8 := grow_cell c6
      have G9 := grow_cell c7
      have G4 := grow_cell a0
      have G5 := grow_cell a1
      cases f1
      · have F2 := F1
        go_wp2_with fail
        refine wp_region_grow (by kernel_rfl) (by kernel_rfl) ?_
        repeat (go_big_quiet_step ((first | (go_at_call 152; with_reducible exact calls_grow (F1 _)) | (go_at_call 152; with_reducible exact calls_grow (F2 _)))))
        refine wpQuiet_nil ?_
        rintro w2 ⟨x, hx⟩
        have hb : Below wr.heap.size wr w2 := by rw [hx]; exact x.b
        clear hx x G0 G1 G2 G3 G4 G5 G6 G7 G8 G9
        go_wp2
        refine ⟨⟨3, by omega, by simp, L, ?_, by omega, hP.keep hb, range_keep hb hra, Nat.le_trans hz hb.size, owns_grow hb hown⟩, by simp [intOf]⟩
        rw [S.out, HL.out, N1.out]; rfl
      · cases f2
        · skip
          go_wp2_with fail
          refine wp_region_grow (by kernel_rfl) (by kernel_rfl) ?_
          repeat (go_big_quiet_step ((first | (go_at_call 152; with_reducible exact calls_grow (F1 _)) | (go_at_call 152; with_reducible exact calls_grow (F2 _)))))
          refine wpQuiet_nil ?_
          rintro w2 ⟨x, hx⟩
          have hb : Below wr.heap.size wr w2 := by rw [hx]; exact x.b
          clear hx x G0 G1 G2 G3 G4 G5 G6 G7 G8 G9
          go_wp2
          refine ⟨⟨3, by omega, by simp, L, ?_, by omega, hP.keep hb, range_keep hb hra, Nat.le_trans hz hb.size, owns_grow hb hown⟩, by simp [intOf]⟩
          rw [S.out, HL.out, N1.out, N2.out]; rfl
        · skip
          go_wp2_with fail
          refine wp_region_grow (by kernel_rfl) (by kernel_rfl) ?_
          repeat (go_big_quiet_step ((first | (go_at_call 152; with_reducible exact calls_grow (F1 _)) | (go_at_call 152; with_reducible exact calls_grow (F2 _)))))
          refine wpQuiet_nil ?_
          rintro w2 ⟨x, hx⟩
          have hb : Below wr.heap.size wr w2 := by rw [hx]; exact x.b
          clear hx x G0 G1 G2 G3 G4 G5 G6 G7 G8 G9
          replace hP := hP.keep hb
          replace hra := range_keep hb hra
          replace hown := owns_grow hb hown
          replace hz := Nat.le_trans hz hb.size
          clear hbe hn c0 c1 c2 c3 c4 c5 c6 c7 a0 a1 hb F1 F2
          have a0 := hra 4 (.int .i64 cx) rfl
          have a1 := hra 5 (.int .i64 cy) rfl
          simp only [Nat.zero_add] at a0 a1
          go_wp2_with fail
          rcases id hown with ⟨hlen2, ⟨rfl, hn0⟩ | ⟨g, cap, cur, rfl, hg, hcur, hncap, hmax, hcs, htake⟩⟩
          · obtain rfl := List.length_eq_zero_iff.1 hn0
            go_loopw [12, 13] (fun kn j wi => j = .int .i64 0 ∧ kn = .bool false ∧ wi = w2) (fun _ j _ => 0 - (intOf j).toNat)
            case atStart => exact ⟨rfl, rfl, rfl⟩
            case round =>
              obtain ⟨rfl, rfl, rfl⟩ := hrel
              go_wp2_with (at_builtin; refine wpList_append_own _ rfl _ _ 26 rfl (r + 1) 66 i0 (pt 0 0) 2 16 Tryz.underlying26 hi hz0 hz1 hz2 rfl (by decide) _ _ _ rfl (hown.alloc _) _ 1 1 [.int .i64 cx, .int .i64 cy] rfl rfl (two_new _ _ _) (two_cells _ _) (by unfold maxLen; omega) (by first | omega | (simp; done) | (simp; omega)) (by first | omega | (simp; done) | (simp; omega)) ?_; intro v1 w3 hown1 hgrow3 hnil3)
              have hr3 : ∀ k, (Value.slice none 0 0).ownBlock = some k → r + 1 ≤ k := fun k hk => by cases hk
              have hP3 := (hP.keep ((Below.refl _ _).alloc (Nat.le_refl _) (ptObj cx cy))).grown (base := r + 1) (by have := hwr.out; omega) hgrow3 hr3
              have hra3 := range_grown (base := r + 1) (Nat.lt_succ_self r) (range_keep ((Below.refl _ _).alloc (Nat.le_refl _) (ptObj cx cy)) hra) hgrow3 hr3
              refine ⟨⟨3, by omega, by simp, [(cx, cy)], ?_, by simp, hP3, hra3, ?_, hown1⟩, by simp [intOf]⟩
              · rw [S.out, HL.out, N1.out, N2.out]; rfl
              · have := hgrow3.size; simp at this; omega
          · have hc := owns_cells hcur hcs htake hncap
            have hown2 := fun n => owns_drew n hown
            go_loopw [12, 13] (fun kn j wi => ∃ j' : Nat, j' ≤ L.length ∧ j = .int .i64 j' ∧ kn = .bool ((L.take j').contains (cx, cy)) ∧ ∃ n, wi = w2.drewN n) (fun _ j _ => L.length - (intOf j).toNat)
            case atStart => exact ⟨0, Nat.zero_le _, rfl, rfl, 0, rfl⟩
            case round =>
              obtain ⟨j', hj, rfl, rfl, nq, rfl⟩ := hrel
              obtain ⟨kn, hkn⟩ : ∃ kn, (L.take j').contains (cx, cy) = kn := ⟨_, rfl⟩
              rw [hkn]
              have K := Lib.hid hkn
              clear hkn
              by_cases hlt : j' < L.length
              · obtain ⟨X, hX⟩ : ∃ X, (L.getD j' (0, 0)).1 = X := ⟨_, rfl⟩
                obtain ⟨Y, hY⟩ : ∃ Y, (L.getD j' (0, 0)).2 = Y := ⟨_, rfl⟩
                have e0 := (hc j' hlt).1
                have e1 := (hc j' hlt).2
                rw [hX] at e0
                rw [hY] at e1
                have HX := Lib.hid hX
                have HY := Lib.hid hY
                clear hX hY hc
                have i0' : (0 : Int) ≤ (j' : Int) := by omega
                have i1' : (j' : Int) < (L.length : Int) := by omega
                cases kn
                · go_wp2_with fail
                  have hq := run_pt_eql
                  go_quiet (fail)
                  clear hq
                  go_wp2
                  refine ⟨⟨j' + 1, by omega, by go_num, ?_, _, rfl⟩, by simp [intOf]; omega⟩
                  rw [contains_succ hlt, K.out, ← HX.out, ← HY.out]; rfl
                · go_wp2_with fail
                  go_quiet (fail)
                  go_wp2
                  refine ⟨⟨j' + 1, by omega, by go_num, ?_, _, rfl⟩, by simp [intOf]; omega⟩
                  rw [contains_succ hlt, K.out]; rfl
              · have hjL : j' = L.length := by omega
                subst hjL
                have KL : L.contains (cx, cy) = kn := by have := K.out; rwa [List.take_length] at this
                have K2 := Lib.hid KL
                clear KL K hlt hj hc
                cases kn
                · go_wp2_with (at_builtin; go_loud (refine wpList_append_own _ rfl _ _ 26 rfl (r + 1) 66 i0 (pt 0 0) 2 16 Tryz.underlying26 hi hz0 hz1 hz2 rfl (by decide) _ _ _ rfl ((hown2 _).alloc _) _ 1 1 [.int .i64 cx, .int .i64 cy] rfl rfl (two_new _ _ _) (two_cells _ _) (by unfold maxLen; omega) (by first | omega | (simp; done) | (simp; omega)) (by first | omega | (simp; done) | (simp; omega)) ?_; intro v1 w3 hown1 hgrow3 hnil3))
                  have hr3 : ∀ k, (Value.slice (some ⟨g, 0, none⟩) L.length cap).ownBlock = some k → r + 1 ≤ k := fun k hk => by cases hk; exact hg
                  have hbw : Below w2.heap.size w2 ((w2.drewN nq).alloc (ptObj cx cy)) := below_drewN ((Below.refl _ _)) nq |>.alloc (by simp) _
                  have hP3 := (hP.keep hbw).grown (base := r + 1) (by have := hwr.out; omega) hgrow3 hr3
                  have hra3 := range_grown (base := r + 1) (Nat.lt_succ_self r) (range_keep hbw hra) hgrow3 hr3
                  refine ⟨⟨3, by omega, by simp, L ++ [(cx, cy)], ?_, by simp; omega, hP3, hra3, ?_, by rw [ptCells_snoc]; simpa using hown1⟩, by simp [intOf]⟩
                  · rw [S.out, HL.out, N1.out, N2.out]; exact comStep_new K2.out
                  · have := hgrow3.size; simp at this; omega
                · go_wp2
                  refine ⟨⟨3, by omega, by simp, L, ?_, by omega, hP.keep (below_drewN (Below.refl _ _) nq), range_keep (below_drewN (Below.refl _ _) nq) hra, by simpa using hz, hown2 nq⟩, by simp [intOf]⟩
                  rw [S.out, HL.out, N1.out, N2.out]; exact comStep_old K2.out
    · have a0 := hra 6 (.int .i64 dx) rfl
      have a1 := hra 7 (.int .i64 dy) rfl
      simp only [Nat.zero_add] at a0 a1
      have S := Lib.hid (comUpto_succ (l := its) (k := 3) (by rw [← HI.out]; rfl))
      obtain ⟨f1, hf1⟩ : ∃ f, onSeg dx dy ax ay bx b_y = f := ⟨_, rfl⟩
      have F1 := fun w => refOn_any ax ay bx b_y dx dy w h1 h2 h3 h4 h7 h8
      rw [hf1] at F1
      have N1 := Lib.hid hf1
      clear hf1
      obtain ⟨f2, hf2⟩ : ∃ f, onSeg dx dy cx cy dx dy = f := ⟨_, rfl⟩
      have F2 := fun w => refOn_any cx cy dx dy dx dy w h5 h6 h7 h8 h7 h8
      rw [hf2] at F2
      have N2 := Lib.hid hf2
      clear hf2
      have G0 := grow_cell c0
      have G1 := grow_cell c1
      have G2 := grow_cell c2
      have G3 := grow_cell c3
      have G6 := grow_cell c4
      have G7 := grow_cell c5
      have G8 := grow_cell c6
      have G9 := grow_cell c7
      have G4 := grow_cell a0
      have G5 := grow_cell a1
      cases f1
      · have F2 := F1
        go_wp2_with fail
        refine wp_region_grow (by kernel_rfl) (by kernel_rfl) ?_
        repeat (go_big_quiet_step ((first | (go_at_call 152; with_reducible exact calls_grow (F1 _)) | (go_at_call 152; with_reducible exact calls_grow (F2 _)))))
        refine wpQuiet_nil ?_
        rintro w2 ⟨x, hx⟩
        have hb : Below wr.heap.size wr w2 := by rw [hx]; exact x.b
        clear hx x G0 G1 G2 G3 G4 G5 G6 G7 G8 G9
        go_wp2
        refine ⟨⟨4, by omega, by simp, L, ?_, by omega, hP.keep hb, range_keep hb hra, Nat.le_trans hz hb.size, owns_grow hb hown⟩, by simp [intOf]⟩
        rw [S.out, HL.out, N1.out]; rfl
      · cases f2
        · skip
          go_wp2_with fail
          refine wp_region_grow (by kernel_rfl) (by kernel_rfl) ?_
          repeat (go_big_quiet_step ((first | (go_at_call 152; with_reducible exact calls_grow (F1 _)) | (go_at_call 152; with_reducible exact calls_grow (F2 _)))))
          refine wpQuiet_nil ?_
          rintro w2 ⟨x, hx⟩
          have hb : Below wr.heap.size wr w2 := by rw [hx]; exact x.b
          clear hx x G0 G1 G2 G3 G4 G5 G6 G7 G8 G9
          go_wp2
          refine ⟨⟨4, by omega, by simp, L, ?_, by omega, hP.keep hb, range_keep hb hra, Nat.le_trans hz hb.size, owns_grow hb hown⟩, by simp [intOf]⟩
          rw [S.out, HL.out, N1.out, N2.out]; rfl
        · skip
          go_wp2_with fail
          refine wp_region_grow (by kernel_rfl) (by kernel_rfl) ?_
          repeat (go_big_quiet_step ((first | (go_at_call 152; with_reducible exact calls_grow (F1 _)) | (go_at_call 152; with_reducible exact calls_grow (F2 _)))))
          refine wpQuiet_nil ?_
          rintro w2 ⟨x, hx⟩
          have hb : Below wr.heap.size wr w2 := by rw [hx]; exact x.b
          clear hx x G0 G1 G2 G3 G4 G5 G6 G7 G8 G9
          replace hP := hP.keep hb
          replace hra := range_keep hb hra
          replace hown := owns_grow hb hown
          replace hz := Nat.le_trans hz hb.size
          clear hbe hn c0 c1 c2 c3 c4 c5 c6 c7 a0 a1 hb F1 F2
          have a0 := hra 6 (.int .i64 dx) rfl
          have a1 := hra 7 (.int .i64 dy) rfl
          simp only [Nat.zero_add] at a0 a1
          go_wp2_with fail
          rcases id hown with ⟨hlen2, ⟨rfl, hn0⟩ | ⟨g, cap, cur, rfl, hg, hcur, hncap, hmax, hcs, htake⟩⟩
          · obtain rfl := List.length_eq_zero_iff.1 hn0
            go_loopw [12, 13] (fun kn j wi => j = .int .i64 0 ∧ kn = .bool false ∧ wi = w2) (fun _ j _ => 0 - (intOf j).toNat)
            case atStart => exact ⟨rfl, rfl, rfl⟩
            case round =>
              obtain ⟨rfl, rfl, rfl⟩ := hrel
              go_wp2_with (at_builtin; refine wpList_append_own _ rfl _ _ 26 rfl (r + 1) 66 i0 (pt 0 0) 2 16 Tryz.underlying26 hi hz0 hz1 hz2 rfl (by decide) _ _ _ rfl (hown.alloc _) _ 1 1 [.int .i64 dx, .int .i64 dy] rfl rfl (two_new _ _ _) (two_cells _ _) (by unfold maxLen; omega) (by first | omega | (simp; done) | (simp; omega)) (by first | omega | (simp; done) | (simp; omega)) ?_; intro v1 w3 hown1 hgrow3 hnil3)
              have hr3 : ∀ k, (Value.slice none 0 0).ownBlock = some k → r + 1 ≤ k := fun k hk => by cases hk
              have hP3 := (hP.keep ((Below.refl _ _).alloc (Nat.le_refl _) (ptObj dx dy))).grown (base := r + 1) (by have := hwr.out; omega) hgrow3 hr3
              have hra3 := range_grown (base := r + 1) (Nat.lt_succ_self r) (range_keep ((Below.refl _ _).alloc (Nat.le_refl _) (ptObj dx dy)) hra) hgrow3 hr3
              refine ⟨⟨4, by omega, by simp, [(dx, dy)], ?_, by simp, hP3, hra3, ?_, hown1⟩, by simp [intOf]⟩
              · rw [S.out, HL.out, N1.out, N2.out]; rfl
              · have := hgrow3.size; simp at this; omega
          · have hc := owns_cells hcur hcs htake hncap
            have hown2 := fun n => owns_drew n hown
            go_loopw [12, 13] (fun kn j wi => ∃ j' : Nat, j' ≤ L.length ∧ j = .int .i64 j' ∧ kn = .bool ((L.take j').contains (dx, dy)) ∧ ∃ n, wi = w2.drewN n) (fun _ j _ => L.length - (intOf j).toNat)
            case atStart => exact ⟨0, Nat.zero_le _, rfl, rfl, 0, rfl⟩
            case round =>
              obtain ⟨j', hj, rfl, rfl, nq, rfl⟩ := hrel
              obtain ⟨kn, hkn⟩ : ∃ kn, (L.take j').contains (dx, dy) = kn := ⟨_, rfl⟩
              rw [hkn]
              have K := Lib.hid hkn
              clear hkn
              by_cases hlt : j' < L.length
              · obtain ⟨X, hX⟩ : ∃ X, (L.getD j' (0, 0)).1 = X := ⟨_, rfl⟩
                obtain ⟨Y, hY⟩ : ∃ Y, (L.getD j' (0, 0)).2 = Y := ⟨_, rfl⟩
                have e0 := (hc j' hlt).1
                have e1 := (hc j' hlt).2
                rw [hX] at e0
                rw [hY] at e1
                have HX := Lib.hid hX
                have HY := Lib.hid hY
                clear hX hY hc
                have i0' : (0 : Int) ≤ (j' : Int) := by omega
                have i1' : (j' : Int) < (L.length : Int) := by omega
                cases kn
                · go_wp2_with fail
                  have hq := run_pt_eql
                  go_quiet (fail)
                  clear hq
                  go_wp2
                  refine ⟨⟨j' + 1, by omega, by go_num, ?_, _, rfl⟩, by simp [intOf]; omega⟩
                  rw [contains_succ hlt, K.out, ← HX.out, ← HY.out]; rfl
                · go_wp2_with fail
                  go_quiet (fail)
                  go_wp2
                  refine ⟨⟨j' + 1, by omega, by go_num, ?_, _, rfl⟩, by simp [intOf]; omega⟩
                  rw [contains_succ hlt, K.out]; rfl
              · have hjL : j' = L.length := by omega
                subst hjL
                have KL : L.contains (dx, dy) = kn := by have := K.out; rwa [List.take_length] at this
                have K2 := Lib.hid KL
                clear KL K hlt hj hc
                cases kn
                · go_wp2_with (at_builtin; go_loud (refine wpList_append_own _ rfl _ _ 26 rfl (r + 1) 66 i0 (pt 0 0) 2 16 Tryz.underlying26 hi hz0 hz1 hz2 rfl (by decide) _ _ _ rfl ((hown2 _).alloc _) _ 1 1 [.int .i64 dx, .int .i64 dy] rfl rfl (two_new _ _ _) (two_cells _ _) (by unfold maxLen; omega) (by first | omega | (simp; done) | (simp; omega)) (by first | omega | (simp; done) | (simp; omega)) ?_; intro v1 w3 hown1 hgrow3 hnil3))
                  have hr3 : ∀ k, (Value.slice (some ⟨g, 0, none⟩) L.length cap).ownBlock = some k → r + 1 ≤ k := fun k hk => by cases hk; exact hg
                  have hbw : Below w2.heap.size w2 ((w2.drewN nq).alloc (ptObj dx dy)) := below_drewN ((Below.refl _ _)) nq |>.alloc (by simp) _
                  have hP3 := (hP.keep hbw).grown (base := r + 1) (by have := hwr.out; omega) hgrow3 hr3
                  have hra3 := range_grown (base := r + 1) (Nat.lt_succ_self r) (range_keep hbw hra) hgrow3 hr3
                  refine ⟨⟨4, by omega, by simp, L ++ [(dx, dy)], ?_, by simp; omega, hP3, hra3, ?_, by rw [ptCells_snoc]; simpa using hown1⟩, by simp [intOf]⟩
                  · rw [S.out, HL.out, N1.out, N2.out]; exact comStep_new K2.out
                  · have := hgrow3.size; simp at this; omega
                · go_wp2
                  refine ⟨⟨4, by omega, by simp, L, ?_, by omega, hP.keep (below_drewN (Below.refl _ _) nq), range_keep (below_drewN (Below.refl _ _) nq) hra, by simpa using hz, hown2 nq⟩, by simp [intOf]⟩
                  rw [S.out, HL.out, N1.out, N2.out]; exact comStep_old K2.out

end Go.Proofs.YtiommdfelnkibaaGreat
