/- The law of settings. -/
import Derived.Test.YtlocdadkhdcedaaSB
import Derived.Test.YtlocdadkhdcedaaSC
import Derived.Test.YtlocdadkhdcedaaAwake
namespace Go.Proofs.Ytlocdadkhdcedaa
open Go Go.RowKit Go.Proofs

theorem refOut_sl {w : World} {v : Value} {L : List (Int × Int)} (h : SlV w v L) : Calls Try.prog 30 #[v] w fun e w' => e = .returned (.bool (vOut L)) ∧ Below w.heap.size w w' := by
  obtain ⟨a, cap, rfl, hl, ⟨b, off, rfl, hp⟩ | ⟨rfl, rfl, rfl⟩⟩ := h
  · exact rOut_any hl w hp
  · rw [vOut_rOut]
    exact refOut_nil w

set_option maxHeartbeats 1000000 in
theorem refSettings_bad1 (v1 v2 : Value) (w : World) (h1 : Calls Try.prog 30 #[v1] w fun e w' => e = .returned (.bool false) ∧ Below w.heap.size w w') :
    Calls Try.prog 51 #[v1, v2] w fun e w' => e = .returned (.tuple #[.slice none 0 0, .int .i64 1]) ∧ Below w.heap.size w w' := by
  go_enter Try.func51, Try.ntmps51
  go_wp2_with fail
  refine h1.mono ?_
  rintro e w1 ⟨rfl, b1⟩
  go_wp2
  go_ret2
  exact ⟨rfl, b1⟩

set_option maxHeartbeats 1000000 in
theorem refSettings_bad2 (v1 v2 : Value) (w : World) (h1 : Calls Try.prog 30 #[v1] w fun e w' => e = .returned (.bool true) ∧ Below w.heap.size w w')
    (h2 : ∀ w', Below w.heap.size w w' → Calls Try.prog 30 #[v2] w' fun e w'' => e = .returned (.bool false) ∧ Below w'.heap.size w' w'') :
    Calls Try.prog 51 #[v1, v2] w fun e w' => e = .returned (.tuple #[.slice none 0 0, .int .i64 1]) ∧ Below w.heap.size w w' := by
  go_enter Try.func51, Try.ntmps51
  go_wp2_with fail
  refine h1.mono ?_
  rintro e w1 ⟨rfl, b1⟩
  go_wp2_with fail
  refine (h2 w1 b1).mono ?_
  rintro e w2 ⟨rfl, hb⟩
  have b2 := keep_below b1 hb
  clear hb
  go_wp2
  go_ret2
  exact ⟨rfl, b2⟩

theorem refSettings_sl {w : World} {v1 v2 : Value} {P Q : List (Int × Int)} (h1 : SlV w v1 P) (h2 : SlV w v2 Q) :
    Calls Try.prog 51 #[v1, v2] w fun e w' => ∃ v, e = .returned (.tuple #[v, .int .i64 (settE P Q)]) ∧ w'.ownsRow w.heap.size 51 2 v (settV P Q).length (encS (settV P Q)) ∧ Below w.heap.size w w' := by
  have c1 := refOut_sl h1
  have c2 := fun w' hb => refOut_sl (h2.keep (w' := w') hb)
  have bad : (vOut P = true ∧ vOut Q = true → False) → settE P Q = 1 ∧ settV P Q = [] := fun h => ⟨by unfold settE; rw [if_neg h], by unfold settV; rw [if_neg (fun hh => h ⟨hh.1, hh.2.1⟩)]⟩
  obtain ⟨a1, cap1, rfl, hl1, ⟨b1, o1, rfl, hp1⟩ | ⟨rfl, rfl, rfl⟩⟩ := h1
  · obtain ⟨a2, cap2, rfl, hl2, ⟨b2, o2, rfl, hp2⟩ | ⟨rfl, rfl, rfl⟩⟩ := h2
    · exact refSettings_any b1 o1 cap1 b2 o2 cap2 P Q hl1 hl2 w hp1 hp2
    · obtain ⟨e1, e2⟩ := bad (fun h => by simp [vOut_nil] at h)
      rw [e1, e2]
      cases hv : vOut P
      · rw [hv] at c1
        exact (refSettings_bad1 _ _ w c1).mono (fun e w' ⟨he, hb⟩ => ⟨_, he, World.ownsRow_nil _ _ _ _, hb⟩)
      · rw [hv] at c1
        exact (refSettings_bad2 _ _ w c1 (fun w' hb => c2 w' hb)).mono (fun e w' ⟨he, hb⟩ => ⟨_, he, World.ownsRow_nil _ _ _ _, hb⟩)
  · obtain ⟨e1, e2⟩ := bad (fun h => by simp [vOut_nil] at h)
    rw [e1, e2]
    exact (refSettings_bad1 _ _ w c1).mono (fun e w' ⟨he, hb⟩ => ⟨_, he, World.ownsRow_nil _ _ _ _, hb⟩)

theorem settV_60 (P Q : List (Int × Int)) : (settV P Q).length ≤ 1000 := by
  unfold settV
  split
  · rename_i h
    have := settL_len P Q P.length
    have := (vOut_len h.1).2.1
    omega
  · simp

structure St2 (w : World) (s : Int) (b : Bool) (t : Int) (c : Bool) (w' : World) : Prop where
  bel : Below w.heap.size w w'
  n : w.heap.size + 2 ≤ w'.heap.size
  c0 : w'.cell? ⟨w.heap.size, 0, none⟩ = some (.int .i64 s)
  c1 : w'.cell? ⟨w.heap.size, 1, none⟩ = some (.bool b)
  c2 : w'.cell? ⟨w.heap.size + 1, 0, none⟩ = some (.int .i64 t)
  c3 : w'.cell? ⟨w.heap.size + 1, 1, none⟩ = some (.bool c)

theorem St2.keep {w w1 w2 : World} {s t : Int} {b c : Bool} (h : St2 w s b t c w1) (hb : Below w1.heap.size w1 w2) : St2 w s b t c w2 :=
  ⟨keep_below h.bel hb, Nat.le_trans h.n hb.size, keep_cell hb h.c0, keep_cell hb h.c1, keep_cell hb h.c2, keep_cell hb h.c3⟩

theorem St2.start (w : World) (s : Int) (b : Bool) (t : Int) (c : Bool) : St2 w s b t c ((w.alloc (stObj s b)).alloc (stObj t c)) := by
  have s1 : ∀ (v : World) (o : Obj), (v.alloc o).heap.size = v.heap.size + 1 := fun v o => by simp
  have n1 := st_new w s b
  have n2 := st_new (w.alloc (stObj s b)) t c
  simp only [s1] at n2
  exact ⟨((Below.refl _ _).alloc (by simp) _).alloc (by simp) _, by simp, pt_old _ _ n1.1, pt_old _ _ n1.2, n2.1, n2.2⟩

set_option maxRecDepth 100000 in
set_option maxHeartbeats 8000000 in
theorem settingsLaw_any (v1 v2 : Value) (P Q : List (Int × Int)) (s : Int) (b : Bool) (t : Int) (c : Bool) (n i : Int) (w : World) (h1 : SlV w v1 P) (h2 : SlV w v2 Q) :
    Calls Try.prog 7 #[v1, v2, st s b, st t c, .int .i64 n, .int .i64 i] w fun e w' => e = .returned (.bool true) ∧ Below w.heap.size w w' := by
  obtain ⟨x, y, f1, C1, C2⟩ := compose_all s t n b c
  obtain ⟨u, v, f2, C3, C4⟩ := inverse_all s n b
  obtain ⟨d, f3, C5, C6⟩ := edge_all s n i b
  have S1 := fun w' (hb : Below w.heap.size w w') => settings_sl (h1.keep hb) (h2.keep hb)
  have S2 := fun w' (hb : Below w.heap.size w w') => refSettings_sl (h1.keep hb) (h2.keep hb)
  have S3 := settV_60 P Q
  generalize settV P Q = LA at S1 S2 S3
  generalize settE P Q = EA at S1 S2
  obtain ⟨a1, cap1, rfl, hl1, -⟩ := h1
  obtain ⟨a2, cap2, rfl, hl2, -⟩ := h2
  have hS0 := St2.start w s b t c
  go_enter Try.func7, Try.ntmps7
  go_wp2_with fail
  refine (awake_any _).mono ?_
  rintro e w1 ⟨rfl, hb⟩
  replace hS0 := hS0.keep hb
  clear hb
  obtain ⟨bel, hsz, c0, c1, c2, c3⟩ := id hS0
  by_cases g1 : (P.length : Int) > 60
  · go_wp2
    go_ret
    exact ⟨rfl, bel⟩
  by_cases g2 : (Q.length : Int) > 60
  · go_wp2
    go_ret
    exact ⟨rfl, bel⟩
  go_wp2_with fail
  refine (S1 w1 bel).mono ?_
  rintro e w2 ⟨va, rfl, oA, hb⟩
  replace hS0 := hS0.keep hb
  clear hb bel hsz c0 c1 c2 c3
  obtain ⟨bel, hsz, c0, c1, c2, c3⟩ := id hS0
  go_wp2_with fail
  refine (S2 w2 bel).mono ?_
  rintro e w3 ⟨vb, rfl, oB, hb⟩
  replace hS0 := hS0.keep hb
  replace oA := own_keep oA hb
  clear hb bel hsz c0 c1 c2 c3 S1 S2
  obtain ⟨bel, hsz, c0, c1, c2, c3⟩ := id hS0
  have SS := fun x : Grow w3 => sameSet_any x.w (own_keep oA x.b) (own_keep oB x.b) S3
  obtain ⟨vs, hvs⟩ : ∃ vs, vset s n = vs := ⟨_, rfl⟩
  have V1 := fun w => validSetting_any s n b w
  have V2 := fun w => refSetting_any s n b w
  rw [hvs] at V1 V2
  clear hvs
  go_wp2_with fail
  have G0 := grow_cell c0
  have G1 := grow_cell c1
  refine wp_region_grow (by kernel_rfl) (by kernel_rfl) ?_
  repeat (go_big_quiet_step ((first | (go_at_call 52; with_reducible exact calls_grow (SS _)) | (go_at_call 53; with_reducible exact calls_grow (V1 _)) | (go_at_call 54; with_reducible exact calls_grow (V2 _)))))
  refine wpQuiet_nil ?_
  rintro w4 ⟨z, hz⟩
  have hb : Below w3.heap.size w3 w4 := by rw [hz]; exact z.b
  clear hz z G0 G1 V1 V2 SS oA oB S3
  replace hS0 := hS0.keep hb
  clear hb bel hsz c0 c1 c2 c3
  obtain ⟨hbe, hsz, c0, c1, c2, c3⟩ := id hS0
  clear hS0
  go_wp2_with fail
  refine (C1 _).mono ?_
  rintro e w5 ⟨rfl, hb⟩
  replace c0 := keep_cell hb c0
  replace c1 := keep_cell hb c1
  replace c2 := keep_cell hb c2
  replace c3 := keep_cell hb c3
  replace hbe := keep_below hbe hb
  clear hb
  replace c0 := pt_old w5 (stObj x y) c0
  replace c1 := pt_old w5 (stObj x y) c1
  replace c2 := pt_old w5 (stObj x y) c2
  replace c3 := pt_old w5 (stObj x y) c3
  obtain ⟨c4, c5⟩ := st_new w5 x y
  replace hbe := hbe.alloc hbe.size (stObj x y)
  go_wp2_with fail
  refine (C2 _).mono ?_
  rintro e w6 ⟨rfl, hb⟩
  replace c0 := keep_cell hb c0
  replace c1 := keep_cell hb c1
  replace c2 := keep_cell hb c2
  replace c3 := keep_cell hb c3
  replace c4 := keep_cell hb c4
  replace c5 := keep_cell hb c5
  replace hbe := keep_below hbe hb
  clear hb
  replace c0 := pt_old w6 (stObj x y) c0
  replace c1 := pt_old w6 (stObj x y) c1
  replace c2 := pt_old w6 (stObj x y) c2
  replace c3 := pt_old w6 (stObj x y) c3
  replace c4 := pt_old w6 (stObj x y) c4
  replace c5 := pt_old w6 (stObj x y) c5
  obtain ⟨c6, c7⟩ := st_new w6 x y
  replace hbe := hbe.alloc hbe.size (stObj x y)
  go_wp2_with fail
  refine (C3 _).mono ?_
  rintro e w7 ⟨rfl, hb⟩
  replace c0 := keep_cell hb c0
  replace c1 := keep_cell hb c1
  replace c2 := keep_cell hb c2
  replace c3 := keep_cell hb c3
  replace c4 := keep_cell hb c4
  replace c5 := keep_cell hb c5
  replace c6 := keep_cell hb c6
  replace c7 := keep_cell hb c7
  replace hbe := keep_below hbe hb
  clear hb
  replace c0 := pt_old w7 (stObj u v) c0
  replace c1 := pt_old w7 (stObj u v) c1
  replace c2 := pt_old w7 (stObj u v) c2
  replace c3 := pt_old w7 (stObj u v) c3
  replace c4 := pt_old w7 (stObj u v) c4
  replace c5 := pt_old w7 (stObj u v) c5
  replace c6 := pt_old w7 (stObj u v) c6
  replace c7 := pt_old w7 (stObj u v) c7
  obtain ⟨c8, c9⟩ := st_new w7 u v
  replace hbe := hbe.alloc hbe.size (stObj u v)
  go_wp2_with fail
  refine (C4 _).mono ?_
  rintro e w8 ⟨rfl, hb⟩
  replace c0 := keep_cell hb c0
  replace c1 := keep_cell hb c1
  replace c2 := keep_cell hb c2
  replace c3 := keep_cell hb c3
  replace c4 := keep_cell hb c4
  replace c5 := keep_cell hb c5
  replace c6 := keep_cell hb c6
  replace c7 := keep_cell hb c7
  replace c8 := keep_cell hb c8
  replace c9 := keep_cell hb c9
  replace hbe := keep_below hbe hb
  clear hb
  replace c0 := pt_old w8 (stObj u v) c0
  replace c1 := pt_old w8 (stObj u v) c1
  replace c2 := pt_old w8 (stObj u v) c2
  replace c3 := pt_old w8 (stObj u v) c3
  replace c4 := pt_old w8 (stObj u v) c4
  replace c5 := pt_old w8 (stObj u v) c5
  replace c6 := pt_old w8 (stObj u v) c6
  replace c7 := pt_old w8 (stObj u v) c7
  replace c8 := pt_old w8 (stObj u v) c8
  replace c9 := pt_old w8 (stObj u v) c9
  obtain ⟨c10, c11⟩ := st_new w8 u v
  replace hbe := hbe.alloc hbe.size (stObj u v)
  go_wp2_with fail
  refine (C5 _).mono ?_
  rintro e w9 ⟨rfl, hb⟩
  replace c0 := keep_cell hb c0
  replace c1 := keep_cell hb c1
  replace c2 := keep_cell hb c2
  replace c3 := keep_cell hb c3
  replace c4 := keep_cell hb c4
  replace c5 := keep_cell hb c5
  replace c6 := keep_cell hb c6
  replace c7 := keep_cell hb c7
  replace c8 := keep_cell hb c8
  replace c9 := keep_cell hb c9
  replace c10 := keep_cell hb c10
  replace c11 := keep_cell hb c11
  replace hbe := keep_below hbe hb
  clear hb
  go_wp2_with fail
  refine (C6 _).mono ?_
  rintro e w10 ⟨rfl, hb⟩
  replace c0 := keep_cell hb c0
  replace c1 := keep_cell hb c1
  replace c2 := keep_cell hb c2
  replace c3 := keep_cell hb c3
  replace c4 := keep_cell hb c4
  replace c5 := keep_cell hb c5
  replace c6 := keep_cell hb c6
  replace c7 := keep_cell hb c7
  replace c8 := keep_cell hb c8
  replace c9 := keep_cell hb c9
  replace c10 := keep_cell hb c10
  replace c11 := keep_cell hb c11
  replace hbe := keep_below hbe hb
  clear hb
  go_wp2
  go_ret
  exact ⟨by simp, hbe⟩

end Go.Proofs.Ytlocdadkhdcedaa
