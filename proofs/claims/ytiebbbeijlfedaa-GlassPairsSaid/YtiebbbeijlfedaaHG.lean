/- The abstract machine, part HG. -/
import Derived.Test.YtiebbbeijlfedaaHF
/- Walks: RunOn of the reference. -/
namespace Go.Proofs.Ytiebbbeijlfedaa
open Go Go.RowKit Go.Proofs Go.Pairs

/-- A block of one's own that says what is used. -/
def BB (W : World) (g : Nat) (U : Nat → Bool) (m : Nat) : Prop := W.heap[g]? = some (.cells (bv U m).toArray 4 (0, 0))
theorem BB.lt {W : World} {g m : Nat} {U : Nat → Bool} (h : BB W g U m) : g < W.heap.size := (Array.getElem?_eq_some_iff.1 h).1
theorem BB.cell {W : World} {g m : Nat} {U : Nat → Bool} (h : BB W g U m) {j : Nat} (hj : j < m) : W.cell? ⟨g, j, none⟩ = some (.bool (U j)) :=
  cell_of h (by rw [List.getElem?_toArray]; exact bv_get hj)
theorem BB.frozen {W : World} {g m : Nat} {U : Nat → Bool} (h : BB W g U m) (j : Nat) : W.frozen? ⟨g, j, none⟩ = false := by
  have h' : W.heap[g]? = some (.cells (bv U m).toArray 4 (0, 0)) := h
  unfold World.frozen?
  simp [h']
theorem BB.of {W W' : World} {g m : Nat} {U : Nat → Bool} (h : BB W g U m) (e : W'.heap[g]? = W.heap[g]?) : BB W' g U m := e.trans h
theorem BB.keep {W W' : World} {g m : Nat} {U : Nat → Bool} (h : BB W g U m) (hb : Below W.heap.size W W') : BB W' g U m := h.of (hb.block g h.lt)
theorem BB.put {W : World} {g m : Nat} {U V : Nat → Bool} (h : BB W g U m) (j : Nat) (b : Bool) (hV : ∀ k, V k = if k = j then b else U k) : BB (W.setCell ⟨g, j, none⟩ (.bool b)) g V m := by
  have h' : W.heap[g]? = some (.cells (bv U m).toArray 4 (0, 0)) := h
  unfold BB World.setCell
  rw [Array.getElem?_modify, if_pos rfl, h', ← bv_set b hV]
  simp
theorem BB.slu {W : World} {g m : Nat} {U : Nat → Bool} (h : BB W g U m) : SlU W (.slice (some ⟨g, 0, none⟩) m m) U m := ⟨g, 0, m, rfl, fun k hk => by rw [Nat.zero_add]; exact h.cell hk⟩
theorem BB.not_row {W : World} {g m base size k : Nat} {U : Nat → Bool} {v : Value} {xs : List Value} (h : BB W g U m) (hr : W.ownsRow base 3 size v k xs) : v.ownBlock ≠ some g := by
  intro e
  rcases hr.2 with ⟨rfl, -⟩ | ⟨g', cap, cur, rfl, -, h2, -⟩
  · cases e
  · have e' : g' = g := by simpa [Value.ownBlock] using e
    have h' : W.heap[g]? = some (.cells (bv U m).toArray 4 (0, 0)) := h
    rw [e', h'] at h2
    simp at h2

theorem make59 (s : Nat) (hs : s ≤ 1000000) (w : World) : (Instr.makeSlice 59 (.int .i64 (s : Nat)) (.int .i64 (s : Nat))).run Try.prog w = .ok (.slice (some ⟨w.heap.size, 0, none⟩) s s) (w.alloc (.cells (madeCells #[.bool false] s) 4)) := by
  obtain ⟨i0, hi, hz0, hz1, hz2⟩ := info_parts info4
  have h := run_make (P := Try.prog) w 59 4 i0 (.bool false) Try.underlying59 hi hz0 .i64 .i64 s s (by omega) (Int.le_refl _) (by rw [hz2]; omega) (by omega)
  rw [hz1, Int.toNat_natCast, Nat.mul_one] at h
  exact h

theorem BB.made (s : Nat) (w : World) : BB (w.alloc (.cells (madeCells #[.bool false] s) 4)) w.heap.size (fun _ => false) s := by
  have h := World.alloc_heap_new w (.cells (madeCells #[.bool false] s) 4)
  unfold BB
  rw [h]
  congr 2
  apply Array.ext
  · simp [bv, madeCells]
  · intro i h1 h2
    simp [bv, madeCells, Nat.mod_one]

theorem cntU_none (m : Nat) : cntU (fun _ => false) m = m := by
  unfold cntU
  simp

theorem opM_match {A B : List M3} {s : Int} (vA : vOne A = true) (vB : vOne B = true) : opM A B s = (matchR (runsM A B s) (tn A) (tn B) B.length A.length 0 (fun _ => false) && decide (B.length = A.length)) := by
  obtain ⟨-, h1, -⟩ := vOne_facts vA
  obtain ⟨-, h2, -⟩ := vOne_facts vB
  have := openT_match (runsM A B s) (tn A) (tn B) A.length B.length tones (fun i hi => tones_mem (h1 i hi).2) (fun i hi => tones_mem (h2 i hi).2) A.length 0 (fun _ => false) (Nat.zero_add _)
  rw [cntU_none] at this
  exact this

/-- Half way through: what is used and what is told. -/
structure Half (A B : List M3) (s : Int) (j : Nat) (U : Nat → Bool) : Prop where
  op : openT (runsM A B s) (tn A) (tn B) A.length B.length tones j U = true
  gr : grM A B s = (grM A B s).take j ++ greedy (runsM A B s) (tn A) (tn B) A.length B.length tones (A.length - j) j U
  cnt : cntU U B.length = A.length - j

theorem Half.zero {A B : List M3} {s : Int} (h : opM A B s = true) (hl : B.length = A.length) : Half A B s 0 fun _ => false :=
  ⟨h, rfl, by rw [cntU_none, hl]; rfl⟩

theorem half_match {A B : List M3} {s : Int} (vA : vOne A = true) (vB : vOne B = true) {j k : Nat} {U : Nat → Bool} (h : Half A B s j U) (hj : j < A.length) (hk : k < B.length) (hu : U k = false) :
    matchR (runsM A B s) (tn A) (tn B) B.length (A.length - (j + 1)) (j + 1) (upd U k) = openT (runsM A B s) (tn A) (tn B) A.length B.length tones (j + 1) (upd U k) := by
  obtain ⟨-, h1, -⟩ := vOne_facts vA
  obtain ⟨-, h2, -⟩ := vOne_facts vB
  have := openT_match (runsM A B s) (tn A) (tn B) A.length B.length tones (fun i hi => tones_mem (h1 i hi).2) (fun i hi => tones_mem (h2 i hi).2) (A.length - (j + 1)) (j + 1) (upd U k) (by omega)
  have hc := cntU_upd hk hu
  rw [h.cnt] at hc
  rw [this, decide_eq_true (by omega), Bool.and_true]

theorem Half.some {A B : List M3} {s : Int} (vA : vOne A = true) {j : Nat} {U : Nat → Bool} (h : Half A B s j U) (hj : j < A.length) :
    ∃ k, k < B.length ∧ may (runsM A B s) (tn A) (tn B) A.length B.length tones j U k = true :=  by
  obtain ⟨-, h1, -⟩ := vOne_facts vA
  obtain ⟨k, hk, hm, -⟩ := may_first (runsM A B s) (tn A) (tn B) A.length B.length tones hj (tones_mem (h1 j hj).2) h.op
  exact ⟨k, hk, hm⟩

theorem Half.next {A B : List M3} {s : Int} {j k : Nat} {U : Nat → Bool} (h : Half A B s j U) (hl : (grM A B s).length = A.length) (hj : j < A.length) (hk : k < B.length) (hm : may (runsM A B s) (tn A) (tn B) A.length B.length tones j U k = true)
    (hn : ∀ x, x < k → may (runsM A B s) (tn A) (tn B) A.length B.length tones j U x = false) : Half A B s (j + 1) (upd U k) ∧ (grM A B s).take (j + 1) = (grM A B s).take j ++ [k] := by
  have hg := h.gr
  rw [show A.length - j = (A.length - (j + 1)) + 1 by omega, greedy_cons _ _ _ _ _ _ hk hm hn] at hg
  have hm' := hm
  unfold may at hm'
  rw [Bool.and_eq_true, Bool.and_eq_true] at hm'
  have hu : U k = false := by simpa using hm'.1.1
  have ht : (grM A B s).take (j + 1) = (grM A B s).take j ++ [k] := by
    have hlen : ((grM A B s).take j).length = j := by rw [List.length_take]; omega
    conv => lhs; rw [hg]
    rw [List.take_append, hlen, show j + 1 - j = 1 by omega, List.take_of_length_le (by rw [hlen]; omega)]
    rfl
  refine ⟨⟨hm'.2, ?_, ?_⟩, ht⟩
  · rw [ht, List.append_assoc]
    exact hg
  · have hc := cntU_upd hk hu
    rw [h.cnt] at hc
    omega

theorem Half.last {A B : List M3} {s : Int} (hl : (grM A B s).length = A.length) : (grM A B s).take A.length = grM A B s := by
  rw [← hl, List.take_length]

end Go.Proofs.Ytiebbbeijlfedaa

/- Walks: RunOn of the reference, the walk. -/
namespace Go.Proofs.Ytiebbbeijlfedaa
open Go Go.RowKit Go.Proofs Go.Pairs

theorem own_sln {W : World} {base n : Nat} {v : Value} {L : List Nat} (h : W.ownsRow base 3 1 v n (nv L)) (hn : L.length = n) (hl : n ≤ 1000) : SlN W v L := by
  subst hn
  rcases h.2 with ⟨rfl, h0⟩ | ⟨g, cap, cur, rfl, -⟩
  · have : L = [] := List.eq_nil_of_length_eq_zero h0
    subst this
    exact sln_nil W
  · refine ⟨_, cap, by rw [List.length_map], by rw [List.length_map]; omega, fun k hk => ⟨g, 0, rfl, ?_⟩⟩
    have hk' : k < L.length := by simpa using hk
    rw [Nat.zero_add, iz_map, h.cellAt k (by omega)]
    exact nv_get hk'

/-- Nothing to be paired, or a wrong argument. -/
theorem runOnR_bad (A B : List M3) (s : Int) (va vb : Value) (w : World) (sA : SlM w va A) (sB : SlM w vb B) (h : okR A B s = false) :
    Calls Try.prog 25 #[va, vb, .int .i64 s] w fun e w' => ∃ v, e = .returned (.tuple #[v, .int .i64 (runE A B s)]) ∧ SlN w' v (runL A B s) ∧ Below w.heap.size w w' := by
  have C1 := refOne_any va A w sA
  have C2 := fun w' (hb : Below w.heap.size w w') => refOne_any vb B w' (sB.keep hb)
  have C3 := fun w => refWithin_any s 0 16 w
  obtain ⟨rfl', rfl''⟩ : runE A B s = 1 ∧ runL A B s = [] := by unfold runE runL; rw [h]; simp
  rw [rfl', rfl'']
  clear rfl' rfl'' sA sB
  unfold okR at h
  generalize vOne A = p at C1 h
  generalize vOne B = q at C2 h
  generalize wi s 0 16 = t at C3 h
  cases p
  · clear h
    go_enter Try.func25, Try.ntmps25
    go_wp2_with (first
      | (go_at_call 54; with_reducible refine C1.mono ?_; rintro e w1 ⟨rfl, hb1⟩)
      | (go_at_call 54; with_reducible refine (C2 _ hb1).mono ?_; rintro e w2 ⟨rfl, hb2⟩)
      | (go_at_call 39; with_reducible refine (C3 _).mono ?_; rintro e w3 ⟨rfl, rfl⟩))
    go_ret2
    exact ⟨_, rfl, sln_nil _, hb1⟩
  · cases q
    · clear h
      go_enter Try.func25, Try.ntmps25
      go_wp2_with (first
        | (go_at_call 54; with_reducible refine C1.mono ?_; rintro e w1 ⟨rfl, hb1⟩; clear C1)
        | (go_at_call 54; with_reducible refine (C2 _ hb1).mono ?_; rintro e w2 ⟨rfl, hb2⟩)
        | (go_at_call 39; with_reducible refine (C3 _).mono ?_; rintro e w3 ⟨rfl, rfl⟩))
      go_ret2
      exact ⟨_, rfl, sln_nil _, keep_below hb1 hb2⟩
    · cases t
      · clear h
        go_enter Try.func25, Try.ntmps25
        go_wp2_with (first
          | (go_at_call 54; with_reducible refine C1.mono ?_; rintro e w1 ⟨rfl, hb1⟩; clear C1)
          | (go_at_call 54; with_reducible refine (C2 _ hb1).mono ?_; rintro e w2 ⟨rfl, hb2⟩)
          | (go_at_call 39; with_reducible refine (C3 _).mono ?_; rintro e w3 ⟨rfl, rfl⟩))
        go_ret2
        exact ⟨_, rfl, sln_nil _, keep_below hb1 hb2⟩
      · simp at h

set_option maxRecDepth 100000 in
set_option maxHeartbeats 4000000 in
theorem runOnR_good (A B : List M3) (s : Int) (va vb : Value) (w : World) (sA : SlM w va A) (sB : SlM w vb B) (hcap : ∀ x n c, va = .slice x n c → n ≤ c) (vA : vOne A = true) (vB : vOne B = true) (hs0 : wi s 0 16 = true) :
    Calls Try.prog 25 #[va, vb, .int .i64 s] w fun e w' => ∃ v, e = .returned (.tuple #[v, .int .i64 (runE A B s)]) ∧ SlN w' v (runL A B s) ∧ Below w.heap.size w w' := by
  have C1 := refOne_any va A w sA
  have C2 := fun w' (hb : Below w.heap.size w w') => refOne_any vb B w' (sB.keep hb)
  have C3 := fun w => refWithin_any s 0 16 w
  rw [vA] at C1
  simp only [vB] at C2
  simp only [hs0] at C3
  have hs : 0 ≤ s ∧ s ≤ 16 := by unfold wi at hs0; simpa using hs0
  have hE : runE A B s = if opM A B s = true then 0 else 31 := by unfold runE okR; rw [vA, vB, hs0]; rfl
  have hL : runL A B s = if opM A B s = true then grM A B s else [] := by unfold runL okR; rw [vA, vB, hs0]; simp
  obtain ⟨lA, fA, -⟩ := vOne_facts vA
  obtain ⟨lB, fB, -⟩ := vOne_facts vB
  have HMT : Hid (∀ c i0 U va' vu w', i0 + c = A.length → Below w.heap.size w w' → SlM w' va' (A.drop i0) → SlU w' vu U B.length → Calls Try.prog 55 #[va', vb, vu, .int .i64 s] w' fun e w'' => e = .returned (.bool (matchR (runsM A B s) (tn A) (tn B) B.length c i0 U)) ∧ Below w'.heap.size w' w'') :=
    Lib.hid fun c i0 U va' vu w' hc hb sA' sU => matched_any A B s hs (fun k hk => (fA k hk).1) (fun k hk => (fB k hk).1) lB c i0 U hc va' vb vu w' sA' (sB.keep hb) sU
  have hopm := opM_match (s := s) vA vB
  obtain ⟨a, capa, hva, -, hca⟩ := id sA
  obtain ⟨b, capb, hvb, -, hcb⟩ := id sB
  subst hva hvb
  have hcapA := hcap _ _ _ rfl
  have M1 := make59 B.length (by omega)
  go_enter Try.func25, Try.ntmps25
  go_upto_region 3 with (first
    | (go_at_call 54; with_reducible refine C1.mono ?_; rintro e w1 ⟨rfl, hb1⟩; clear C1)
    | (go_at_call 54; with_reducible refine (C2 _ hb1).mono ?_; rintro e w2 ⟨rfl, hb2⟩)
    | (go_at_call 39; with_reducible refine (C3 _).mono ?_; rintro e w3 ⟨rfl, rfl⟩))
  have bw2 := keep_below hb1 hb2
  clear hb1 hb2 C2 C3 w1
  have R0 := BB.made B.length w3
  have bw3 := bw2.alloc bw2.size (.cells (madeCells #[.bool false] B.length) 4)
  obtain ⟨W3, hW3⟩ : ∃ W3, w3.alloc (.cells (madeCells #[.bool false] B.length) 4) = W3 := ⟨_, rfl⟩
  have M2 := M1 w3
  obtain ⟨g, hg⟩ : ∃ g, w3.heap.size = g := ⟨_, rfl⟩
  have hgw : w.heap.size ≤ g := by rw [← hg]; exact bw2.size
  rw [hW3] at R0 bw3 M2
  rw [hg] at R0 M2
  clear hW3 hg M1 bw2
  have SA3 : SlM W3 (.slice a A.length capa) (A.drop 0) := by rw [List.drop_zero]; exact sA.keep bw3
  by_cases hnm : B.length = A.length
  · have CM := HMT.out A.length 0 (fun _ => false) _ _ W3 (Nat.zero_add _) bw3 SA3 R0.slu
    rw [← Bool.and_true (matchR _ _ _ _ _ _ _), ← decide_eq_true hnm, ← hopm] at CM
    simp only [hnm] at CM R0 M2 HMT fB hcb lB ⊢
    obtain ⟨o, ho⟩ : ∃ o, opM A B s = o := ⟨_, rfl⟩
    rw [ho] at CM
    rw [ho] at hE hL
    have HO := Lib.hid ho
    have HNM := Lib.hid hnm
    clear ho hnm hopm SA3
    cases o
    · have hEL : runE A B s = 31 ∧ runL A B s = [] := by rw [hE, hL]; simp
      have HEL := Lib.hid hEL
      clear hEL hE hL hca hcb HMT sA sB vA vB fA fB
      go_wp2_with (go_at_call 55; with_reducible refine CM.mono ?_; rintro e w5 ⟨rfl, hb5⟩)
      go_ret2
      exact ⟨_, by rw [HEL.out.1]; rfl, by rw [HEL.out.2]; exact sln_nil _, keep_below bw3 hb5⟩
    · have hEL : runE A B s = 0 ∧ runL A B s = grM A B s := by rw [hE, hL]; simp
      have HEL := Lib.hid hEL
      have hgl := gr_len vA HO.out
      have HGL := Lib.hid hgl
      have HZ := Lib.hid (Half.zero HO.out HNM.out)
      have HVA := Lib.hid vA
      have HVB := Lib.hid vB
      have HCA := Lib.hid hca
      have HCB := Lib.hid hcb
      have HFA := Lib.hid fA
      have HFB := Lib.hid fB
      have HSA := Lib.hid sA
      have HHS := Lib.hid hs
      clear hEL hE hL hca hcb sA sB vA vB fA fB hgl hcap hs
      obtain ⟨i0, hi0, hz0, hz1, hz2⟩ := info_parts info3
      go_upto_region 8 with (go_at_call 55; with_reducible refine CM.mono ?_; rintro e w5 ⟨rfl, hb5⟩)
      have b5 := keep_below bw3 hb5
      have R5 := R0.keep hb5
      clear CM R0 M2 bw3 hb5 lB
      obtain ⟨n, hn⟩ : ∃ n, A.length = n := ⟨_, rfl⟩
      have HN := Lib.hid hn
      simp only [hn] at R5 HMT HCA HCB HFA HFB HGL hcapA lA ⊢
      clear hn
      go_loopw [9, 10] (fun out i wr => ∃ (j : Nat) (U : Nat → Bool), j ≤ n ∧ i = .int .i64 j ∧ BB wr g U n ∧ wr.ownsRow w.heap.size 3 1 out j (nv ((grM A B s).take j)) ∧ Below w.heap.size w wr ∧ Half A B s j U) (fun _ i _ => n - (intOf i).toNat)
      case atStart => exact ⟨0, _, Nat.zero_le _, rfl, R5, World.ownsRow_nil _ _ _ _, b5, HZ.out⟩
      case round =>
        clear R5 b5 W3
        obtain ⟨j, U, hj, rfl, hR0, hown0, hbel0, hH⟩ := hrel
        have HH := Lib.hid hH
        clear hH
        by_cases hlt : j < n
        · have j1 : (j : Int) < (n : Int) := by omega
          go_wp2_with fail
          go_loopw [9, 11] (fun out kk wr => ∃ k : Nat, k ≤ n ∧ kk = .int .i64 k ∧ BB wr g U n ∧ wr.ownsRow w.heap.size 3 1 out j (nv ((grM A B s).take j)) ∧ Below w.heap.size w wr ∧ ∀ x, x < k → may (runsM A B s) (tn A) (tn B) A.length B.length tones j U x = false) (fun _ kk _ => n - (intOf kk).toNat)
          case atStart => exact ⟨0, Nat.zero_le _, rfl, hR0, hown0, hbel0, fun x hx => absurd hx (Nat.not_lt_zero _)⟩
          case round =>
            clear hR0 hown0 hbel0
            obtain ⟨k, hk, rfl, hR, hown, hbel, hall⟩ := hrel
            have HALL := Lib.hid hall
            clear hall
            by_cases hlk : k < n
            · have j2 : (k : Int) < (n : Int) := by omega
              have cu := hR.cell hlk
              obtain ⟨ba, oa, rfl, a0, a1, a2⟩ := HCA.out j hlt
              obtain ⟨bb, ob, rfl, d0, d1, d2⟩ := HCB.out k hlk
              replace a0 := keep_cell hbel a0
              replace a1 := keep_cell hbel a1
              replace a2 := keep_cell hbel a2
              replace d0 := keep_cell hbel d0
              replace d1 := keep_cell hbel d1
              replace d2 := keep_cell hbel d2
              have C := fun w => refRuns_any (mq A j) (mq B k) s HHS.out (HFA.out j hlt).1 (HFB.out k hlk).1 w
              obtain ⟨u, hu⟩ : ∃ u, U k = u := ⟨_, rfl⟩
              obtain ⟨t, ht⟩ : ∃ t, runs1 (mq A j) (mq B k) s = t := ⟨_, rfl⟩
              have HU := Lib.hid hu
              have HT : Hid (runsM A B s j k = t) := Lib.hid ht
              simp only [ht] at C
              rw [hu] at cu
              clear ht hu
              generalize (mq A j).x = p0 at a0 C
              generalize (mq A j).y = p1 at a1 C
              generalize (mq A j).z = p2 at a2 C
              generalize (mq B k).x = q0 at d0 C
              generalize (mq B k).y = q1 at d1 C
              generalize (mq B k).z = q2 at d2 C
              have G := grow_cell cu
              have G0 := grow_cell a0
              have G1 := grow_cell a1
              have G2 := grow_cell a2
              have G3 := grow_cell d0
              have G4 := grow_cell d1
              have G5 := grow_cell d2
              clear cu a0 a1 a2 d0 d1 d2
              have HRR := Lib.hid hR
              have HOW := Lib.hid hown
              clear hR hown
              cases u
              · cases t
                · as_aux_lemma =>
                  go_wp2_with fail
                  refine wp_region_grow (by kernel_rfl) (by kernel_rfl) ?_
                  repeat (go_big_quiet_step ((go_at_call 56; with_reducible exact calls_grow (C _))))
                  refine wpQuiet_nil ?_
                  rintro w3 ⟨gg, hgg⟩
                  have hb3 : Below wr.heap.size wr w3 := by rw [hgg]; exact gg.b
                  clear hgg gg G G0 G1 G2 G3 G4 G5 C
                  go_wp2
                  refine ⟨⟨k + 1, by omega, by simp, HRR.out.keep hb3, own_keep HOW.out hb3, keep_below hbel hb3, fun x hx => ?_⟩, by (simp [intOf] <;> omega)⟩
                  rcases Nat.lt_or_ge x k with h | h
                  · exact HALL.out x h
                  · obtain rfl : x = k := by omega
                    unfold may
                    rw [HT.out]; simp
                · as_aux_lemma =>
                  go_upto_region 13 with fail
                  refine wp_region_grow (by kernel_rfl) (by kernel_rfl) ?_
                  repeat (go_big_quiet_step ((go_at_call 56; with_reducible exact calls_grow (C _))))
                  refine wpQuiet_nil ?_
                  rintro w3 ⟨gg, hgg⟩
                  have hb3 : Below wr.heap.size wr w3 := by rw [hgg]; exact gg.b
                  clear hgg gg G G0 G1 G2 G3 G4 G5 C
                  have R3 := HRR.out.keep hb3
                  have bel3 := keep_below hbel hb3
                  have own3 := own_keep HOW.out hb3
                  have cu := R3.cell hlk
                  rw [HU.out] at cu
                  have fu := R3.frozen k
                  have R4 := R3.put k true (V := upd U k) (fun x => by unfold upd; by_cases e : x = k <;> simp [e])
                  have own4 := ownsRow_setCell_other own3 (a := ⟨g, k, none⟩) (R3.not_row own3) (.bool true)
                  have bel4 := bel3.setCell (p := ⟨g, k, none⟩) hgw (.bool true)
                  have SA4 : SlM (w3.setCell ⟨g, k, none⟩ (.bool true)) (.slice (some ⟨ba, oa, none⟩) n capa) A := by
                    have := HSA.out.keep bel4
                    rwa [HN.out] at this
                  have e1 : IntKind.i64.wrap ((j : Int) + 1) = (j : Int) + 1 := wi64 _ (by omega)
                  have i1 : (j : Int) + 1 ≤ (n : Int) := by omega
                  have i2 : (n : Int) ≤ (capa : Int) := by omega
                  have i3 : (0 : Int) ≤ (j : Int) + 1 := by omega
                  have ej : ((j : Int) + 1).toNat = j + 1 := by omega
                  have hlen : (A.drop (j + 1)).length = n - (j + 1) := by rw [List.length_drop, HN.out]
                  have HMC : Hid (∀ va', SlM (w3.setCell ⟨g, k, none⟩ (.bool true)) va' (A.drop (j + 1)) → Calls Try.prog 55 #[va', .slice (some ⟨bb, ob, none⟩) n capb, .slice (some ⟨g, 0, none⟩) n n, .int .i64 s] (w3.setCell ⟨g, k, none⟩ (.bool true)) fun e w'' => e = .returned (.bool (openT (runsM A B s) (tn A) (tn B) A.length B.length tones (j + 1) (upd U k))) ∧ Below (w3.setCell ⟨g, k, none⟩ (.bool true)).heap.size (w3.setCell ⟨g, k, none⟩ (.bool true)) w'') := Lib.hid fun va' hva' => by
                    have hh := half_match HVA.out HVB.out HH.out (by rw [HN.out]; exact hlt) (by rw [HNM.out, HN.out]; exact hlk) HU.out
                    have := HMT.out (n - (j + 1)) (j + 1) (upd U k) va' _ _ (by omega) bel4 hva' R4.slu
                    rw [← hh, HNM.out, HN.out]
                    exact this
                  by_cases hce : capa = j + 1
                  · subst hce
                    have hnj : n = j + 1 := by omega
                    have CM := HMC.out (.slice (some ⟨ba, oa, none⟩) (n - (j + 1)) 0) ⟨_, 0, by rw [hlen], by rw [hlen]; omega, fun x hx => absurd hx (by rw [hlen]; omega)⟩
                    rw [show n - (j + 1) = 0 by omega] at CM
                    clear hnj
                    obtain ⟨o2, ho2⟩ : ∃ x, openT (runsM A B s) (tn A) (tn B) A.length B.length tones (j + 1) (upd U k) = x := ⟨_, rfl⟩
                    rw [ho2] at CM
                    have HM : Hid (may (runsM A B s) (tn A) (tn B) A.length B.length tones j U k = o2) := Lib.hid (by
                      unfold may
                      rw [HU.out, HT.out, ho2]; rfl)
                    clear ho2
                    have HR4 := Lib.hid R4
                    have HW4 := Lib.hid own4
                    have HB4 := Lib.hid bel4
                    clear R3 bel3 own3 R4 own4 bel4 SA4 HSA
                    cases o2
                    · go_upto_region 17 with (go_at_call 55; with_reducible refine CM.mono ?_; rintro e w5 ⟨rfl, hb5⟩)
                      have R5 := HR4.out.keep hb5
                      have own5 := own_keep HW4.out hb5
                      have bel5 := keep_below HB4.out hb5
                      have c5 := R5.cell hlk
                      have f5 := R5.frozen k
                      have R6 := R5.put k false (V := U) (fun x => upd_back HU.out x)
                      have own6 := ownsRow_setCell_other own5 (a := ⟨g, k, none⟩) (R5.not_row own5) (.bool false)
                      have bel6 := bel5.setCell (p := ⟨g, k, none⟩) hgw (.bool false)
                      generalize upd U k k = x at c5
                      clear CM hb5 R5 own5 bel5 cu fu
                      go_wp2
                      refine ⟨⟨k + 1, by omega, by simp, R6, own6, bel6, fun x hx => ?_⟩, by (simp [intOf] <;> omega)⟩
                      rcases Nat.lt_or_ge x k with h | h
                      · exact HALL.out x h
                      · obtain rfl : x = k := by omega
                        exact HM.out
                    · go_upto_region 16 with (go_at_call 55; with_reducible refine CM.mono ?_; rintro e w5 ⟨rfl, hb5⟩)
                      have R5 := HR4.out.keep hb5
                      have own5 := own_keep HW4.out hb5
                      have bel5 := keep_below HB4.out hb5
                      have z5 := bel5.size
                      clear CM hb5 cu fu
                      go_wp2_with (first
                        | (at_builtin; go_loud (refine wpList_append_own _ rfl _ _ 26 rfl w.heap.size 3 i0 (.int .i64 0) 1 8 Try.underlying26 hi0 hz0 hz1 hz2 rfl (by decide) _ _ _ rfl (own5.alloc _) _ 1 1 [.int .i64 ((k : Nat) : Int)] rfl rfl (int_new _ _) (int_one _) (by unfold maxLen; omega) (by omega) (by simp; omega) ?_; intro v6 w6 hown6 hgrow6 hnil6)))
                      have bel6 := (bel5.alloc z5 (.cells #[.int .i64 ((k : Nat) : Int)] 3)).grown hgrow6 (by simp; omega) (fun x hx => (own5.lt x hx).1)
                      have R6 : BB w6 g (upd U k) n := by
                        refine R5.of ?_
                        rw [hgrow6.block g (by have := R5.lt; simp; omega) (fun e => R5.not_row own5 e.symm), alloc_heap_old _ _ R5.lt]
                      obtain ⟨hH, hTk⟩ := HH.out.next (by rw [HGL.out, HN.out]) (by rw [HN.out]; exact hlt) (by rw [HNM.out, HN.out]; exact hlk) HM.out (fun x hx => HALL.out x hx)
                      refine ⟨⟨j + 1, _, by omega, by simp, R6, ?_, bel6, hH⟩, by (simp [intOf] <;> omega)⟩
                      rw [hTk]
                      have : nv ((grM A B s).take j ++ [k]) = nv ((grM A B s).take j) ++ [.int .i64 ((k : Nat) : Int)] := by simp [nv]
                      rw [this]
                      exact hown6
                  · have hsd : SlM (w3.setCell ⟨g, k, none⟩ (.bool true)) (.slice (some ⟨ba, oa + (j + 1) * 3, none⟩) (n - (j + 1)) (capa - (j + 1))) (A.drop (j + 1)) := by
                      obtain ⟨x, cx, e0, -, hcx⟩ := SA4
                      simp only [Value.slice.injEq] at e0
                      obtain ⟨rfl, -, rfl⟩ := e0
                      refine ⟨_, _, by rw [hlen], by rw [hlen]; omega, fun x hx => ⟨ba, oa + (j + 1) * 3, rfl, ?_⟩⟩
                      rw [hlen] at hx
                      obtain ⟨b', o', e1, c0, c1, c2⟩ := hcx (j + 1 + x) (by rw [HN.out]; omega)
                      cases e1
                      have e : mq (A.drop (j + 1)) x = mq A (j + 1 + x) := by unfold mq; simp [List.getD_eq_getElem?_getD]
                      rw [e, show oa + (j + 1) * 3 + x * 3 = oa + (j + 1 + x) * 3 by omega]
                      exact ⟨c0, c1, c2⟩
                    have CM := HMC.out _ hsd
                    clear hsd
                    obtain ⟨o2, ho2⟩ : ∃ x, openT (runsM A B s) (tn A) (tn B) A.length B.length tones (j + 1) (upd U k) = x := ⟨_, rfl⟩
                    rw [ho2] at CM
                    have HM : Hid (may (runsM A B s) (tn A) (tn B) A.length B.length tones j U k = o2) := Lib.hid (by
                      unfold may
                      rw [HU.out, HT.out, ho2]; rfl)
                    clear ho2
                    have HR4 := Lib.hid R4
                    have HW4 := Lib.hid own4
                    have HB4 := Lib.hid bel4
                    clear R3 bel3 own3 R4 own4 bel4 SA4 HSA
                    cases o2
                    · go_upto_region 17 with (go_at_call 55; with_reducible refine CM.mono ?_; rintro e w5 ⟨rfl, hb5⟩)
                      have R5 := HR4.out.keep hb5
                      have own5 := own_keep HW4.out hb5
                      have bel5 := keep_below HB4.out hb5
                      have c5 := R5.cell hlk
                      have f5 := R5.frozen k
                      have R6 := R5.put k false (V := U) (fun x => upd_back HU.out x)
                      have own6 := ownsRow_setCell_other own5 (a := ⟨g, k, none⟩) (R5.not_row own5) (.bool false)
                      have bel6 := bel5.setCell (p := ⟨g, k, none⟩) hgw (.bool false)
                      generalize upd U k k = x at c5
                      clear CM hb5 R5 own5 bel5 cu fu
                      go_wp2
                      refine ⟨⟨k + 1, by omega, by simp, R6, own6, bel6, fun x hx => ?_⟩, by (simp [intOf] <;> omega)⟩
                      rcases Nat.lt_or_ge x k with h | h
                      · exact HALL.out x h
                      · obtain rfl : x = k := by omega
                        exact HM.out
                    · go_upto_region 16 with (go_at_call 55; with_reducible refine CM.mono ?_; rintro e w5 ⟨rfl, hb5⟩)
                      have R5 := HR4.out.keep hb5
                      have own5 := own_keep HW4.out hb5
                      have bel5 := keep_below HB4.out hb5
                      have z5 := bel5.size
                      clear CM hb5 cu fu
                      go_wp2_with (first
                        | (at_builtin; go_loud (refine wpList_append_own _ rfl _ _ 26 rfl w.heap.size 3 i0 (.int .i64 0) 1 8 Try.underlying26 hi0 hz0 hz1 hz2 rfl (by decide) _ _ _ rfl (own5.alloc _) _ 1 1 [.int .i64 ((k : Nat) : Int)] rfl rfl (int_new _ _) (int_one _) (by unfold maxLen; omega) (by omega) (by simp; omega) ?_; intro v6 w6 hown6 hgrow6 hnil6)))
                      have bel6 := (bel5.alloc z5 (.cells #[.int .i64 ((k : Nat) : Int)] 3)).grown hgrow6 (by simp; omega) (fun x hx => (own5.lt x hx).1)
                      have R6 : BB w6 g (upd U k) n := by
                        refine R5.of ?_
                        rw [hgrow6.block g (by have := R5.lt; simp; omega) (fun e => R5.not_row own5 e.symm), alloc_heap_old _ _ R5.lt]
                      obtain ⟨hH, hTk⟩ := HH.out.next (by rw [HGL.out, HN.out]) (by rw [HN.out]; exact hlt) (by rw [HNM.out, HN.out]; exact hlk) HM.out (fun x hx => HALL.out x hx)
                      refine ⟨⟨j + 1, _, by omega, by simp, R6, ?_, bel6, hH⟩, by (simp [intOf] <;> omega)⟩
                      rw [hTk]
                      have : nv ((grM A B s).take j ++ [k]) = nv ((grM A B s).take j) ++ [.int .i64 ((k : Nat) : Int)] := by simp [nv]
                      rw [this]
                      exact hown6
              · as_aux_lemma =>
                go_wp2_with fail
                refine wp_region_grow (by kernel_rfl) (by kernel_rfl) ?_
                repeat (go_big_quiet_step ((go_at_call 56; with_reducible exact calls_grow (C _))))
                refine wpQuiet_nil ?_
                rintro w3 ⟨gg, hgg⟩
                have hb3 : Below wr.heap.size wr w3 := by rw [hgg]; exact gg.b
                clear hgg gg G G0 G1 G2 G3 G4 G5 C
                go_wp2
                refine ⟨⟨k + 1, by omega, by simp, HRR.out.keep hb3, own_keep HOW.out hb3, keep_below hbel hb3, fun x hx => ?_⟩, by (simp [intOf] <;> omega)⟩
                rcases Nat.lt_or_ge x k with h | h
                · exact HALL.out x h
                · obtain rfl : x = k := by omega
                  unfold may
                  rw [HU.out]; simp
            · exfalso
              obtain ⟨k', h1, h2⟩ := HH.out.some HVA.out (by rw [HN.out]; exact hlt)
              rw [HALL.out k' (by have := HNM.out; have := HN.out; omega)] at h2
              cases h2
        · obtain rfl : j = n := by omega
          have hl := hown0
          have hT : (grM A B s).take j = grM A B s := by have := Half.last (A := A) (B := B) (s := s) (by rw [HGL.out, HN.out]); rwa [HN.out] at this
          rw [hT] at hl
          have HLL := Lib.hid hl
          clear hl hown0 hT
          go_wp2
          go_ret2
          exact ⟨_, by rw [HEL.out.1]; rfl, by rw [HEL.out.2]; exact own_sln HLL.out (by rw [HGL.out]) (by omega), hbel0⟩
  · have jn : ((A.length : Int) == (B.length : Int)) = false := by rw [beq_eq_false_iff_ne]; omega
    have ho : opM A B s = false := by rw [hopm, decide_eq_false hnm, Bool.and_false]
    have hEL : runE A B s = 31 ∧ runL A B s = [] := by rw [hE, hL, ho]; simp
    have HEL := Lib.hid hEL
    clear hEL hE hL ho hopm hca hcb HMT SA3 sA sB vA vB fA fB
    go_wp2_with fail
    go_ret2
    exact ⟨_, by rw [HEL.out.1]; rfl, by rw [HEL.out.2]; exact sln_nil _, bw3⟩

end Go.Proofs.Ytiebbbeijlfedaa
