/- The abstract machine, part NB. -/
import Derived.Test.YtlocdadkhdcedaaMA
import Derived.Test.YtlocdadkhdcedaaMC
import Derived.Test.YtlocdadkhdcedaaRA
import Derived.Test.YtlocdadkhdcedaaWB
import Derived.Test.YtlocdadkhdcedaaKA
import Derived.Test.YtlocdadkhdcedaaQB
/- Walks: flat. -/
namespace Go.Proofs.Ytlocdadkhdcedaa
open Go Go.RowKit Go.Proofs Go.Abs Go.Plain

/-- A slice in a block of its own. -/
def Sl1 (w : World) (b : Nat) (v : Value) : Prop := w.heap[b]? = some (.cells #[v] 32 (0, 0))
theorem Sl1.lt {w : World} {b : Nat} {v : Value} (h : Sl1 w b v) : b < w.heap.size := (Array.getElem?_eq_some_iff.1 h).1
theorem Sl1.c0 {w : World} {b : Nat} {v : Value} (h : Sl1 w b v) : w.cell? ⟨b, 0, none⟩ = some v := cell_at h rfl
theorem Sl1.keep {w w' : World} {b : Nat} {v : Value} (h : Sl1 w b v) (hb : Below w.heap.size w w') : Sl1 w' b v := (hb.block b h.lt).trans h
theorem Sl1.new (w : World) (v : Value) : Sl1 (w.alloc (.cells #[v] 32)) w.heap.size v := World.alloc_heap_new _ _

/-- Does the point q lie off the line of the points a and p? -/
def offB (ax ay px_ py_ qx qy : Int) : Bool := cross ax ay px_ py_ qx qy != 0

set_option maxRecDepth 100000 in
set_option maxHeartbeats 2000000 in
theorem flatLit_any (b off n cap B1 B2 : Nat) (ax ay px_ py_ qx qy : Int) (hn : 0 < n) (w : World) (ha : Small ax ∧ Small ay) (hp : Small px_ ∧ Small py_) (hq : Small qx ∧ Small qy)
    (h1 : Sl1 w B1 (.slice (some ⟨b, off, none⟩) n cap)) (h2 : Pb w B2 px_ py_) (c0 : w.cell? ⟨b, off, none⟩ = some (.int .i64 ax)) (c1 : w.cell? ⟨b, off + 1, none⟩ = some (.int .i64 ay)) :
    Calls Try.prog 133 #[pt qx qy, .pointer (some ⟨B1, 0, none⟩), .pointer (some ⟨B2, 0, none⟩)] w fun e w' => e = .returned (.bool (offB ax ay px_ py_ qx qy)) ∧ Below w.heap.size w w' := by
  have CC := fun w => cross_any ax ay px_ py_ qx qy w ha.1 ha.2 hp.1 hp.2 hq.1 hq.2
  obtain ⟨cv, hcv⟩ : ∃ c, cross ax ay px_ py_ qx qy = c := ⟨_, rfl⟩
  have HV : Hid (offB ax ay px_ py_ qx qy = (cv != 0)) := Lib.hid (by unfold offB; rw [hcv])
  rw [hcv] at CC
  obtain ⟨v, hv⟩ : ∃ v, offB ax ay px_ py_ qx qy = v := ⟨_, rfl⟩
  rw [hv] at HV ⊢
  clear hcv hv
  have j0 : (0 : Int) < (n : Int) := by omega
  have bel := (Below.refl w.heap.size w).alloc (Nat.le_refl _) (ptObj qx qy)
  have q1 := h1.keep bel
  have q2 := h2.keep bel
  have q3 := Pb.new w qx qy
  have d0 := keep_cell bel c0
  have d1 := keep_cell bel c1
  obtain ⟨W, hW⟩ : ∃ W, w.alloc (ptObj qx qy) = W := ⟨_, rfl⟩
  rw [hW] at bel q1 q2 q3 d0 d1
  clear h1 h2 c0 c1 ha hp hq
  go_enter Try.func133, Try.ntmps133
  go_wp2_with fail
  clear hW
  have G0 := grow_cell d0
  have G1 := grow_cell d1
  have G2 := grow_cell q1.c0
  have G3 := grow_cell q2.c0
  have G4 := grow_cell q2.c1
  have G5 := grow_cell q3.c0
  have G6 := grow_cell q3.c1
  refine wp_region_grow (by kernel_rfl) (by kernel_rfl) ?_
  repeat (go_big_quiet_step ((first | (go_at_call 74; with_reducible exact calls_grow (CC _)))))
  refine wpQuiet_nil ?_
  rintro w2 ⟨x, hx⟩
  have hb : Below W.heap.size W w2 := by rw [hx]; exact x.b
  clear hx x G0 G1 G2 G3 G4 G5 G6 CC q1 q2 q3 d0 d1
  have bel2 := keep_below bel hb
  go_wp2
  go_ret
  refine ⟨?_, bel2⟩
  show Ending.returned (.bool (cv != 0)) = .returned (.bool v)
  rw [HV.out]

/-- The first number below n of a kind, as a number of the program; -1 if there is none. -/
def firstI (f : Nat → Bool) (n : Nat) : Int := match (List.range n).find? f with
  | none => -1
  | some k => (k : Nat)

theorem firstI_none {f : Nat → Bool} {n : Nat} (h : ∀ j, j < n → f j = false) : firstI f n = -1 := by
  unfold firstI
  rw [List.find?_eq_none.2 (fun j hj => by rw [h j (List.mem_range.1 hj)]; simp)]

theorem firstI_some {f : Nat → Bool} {n k : Nat} (hk : k < n) (h : f k = true) (hb : ∀ j, j < k → f j = false) : firstI f n = (k : Nat) := by
  unfold firstI
  rw [find_range hk h hb]

set_option maxRecDepth 100000 in
set_option maxHeartbeats 2000000 in
theorem indexF_any (b off n cap : Nat) (xs ys : Nat → Int) (p1 p2 : Value) (f : Nat → Bool) (hn : n ≤ 1000000) (w : World)
    (hc : ∀ k, k < n → w.cell? ⟨b, off + k * 2, none⟩ = some (.int .i64 (xs k)) ∧ w.cell? ⟨b, off + k * 2 + 1, none⟩ = some (.int .i64 (ys k)))
    (HF : ∀ k, k < n → ∀ w', Below w.heap.size w w' → Calls Try.prog 133 #[pt (xs k) (ys k), p1, p2] w' fun e w'' => e = .returned (.bool (f k)) ∧ Below w'.heap.size w' w'') :
    Calls Try.prog 156 #[.slice (some ⟨b, off, none⟩) n cap, .func (.func 133) #[] #[p1, p2]] w fun e w' => e = .returned (.int .i64 (firstI f n)) ∧ Below w.heap.size w w' := by
  have HC := Lib.hid hc
  have HFF := Lib.hid HF
  clear hc HF
  go_enter Try.func156, Try.ntmps156
  go_wp2_with fail
  go_loopw [8] (fun i wr => ∃ k : Nat, k ≤ n ∧ i = .int .i64 k ∧ Below w.heap.size w wr ∧ ∀ j, j < k → f j = false) (fun i _ => n - (intOf i).toNat)
  case atStart => exact ⟨0, Nat.zero_le _, rfl, Below.refl _ _, fun j h => absurd h (Nat.not_lt_zero _)⟩
  case round =>
    obtain ⟨k, hk, rfl, hbel, hall⟩ := hrel
    have HA := Lib.hid hall
    clear hall
    by_cases hlt : k < n
    · have j1 : (k : Int) < (n : Int) := by omega
      have a0 := keep_cell hbel (HC.out k hlt).1
      have a1 := keep_cell hbel (HC.out k hlt).2
      have F := HFF.out k hlt
      have HT : Hid (f k = true → firstI f n = (k : Nat)) := Lib.hid (fun h => firstI_some hlt h HA.out)
      have HN : Hid (f k = false → ∀ j, j < k + 1 → f j = false) := Lib.hid (fun h j hj => by
        rcases Nat.lt_or_ge j k with h1 | h1
        · exact HA.out j h1
        · obtain rfl : j = k := by omega
          exact h)
      obtain ⟨fv, hfv⟩ : ∃ c, f k = c := ⟨_, rfl⟩
      rw [hfv] at F HT HN
      generalize xs k = x0, ys k = y0 at a0 a1 F
      clear hfv
      go_wp2_with fail
      refine (F _ hbel).mono ?_
      rintro e w2 ⟨rfl, hb⟩
      have hbel2 := keep_below hbel hb
      clear hb F a0 a1
      cases fv
      · have HN2 := Lib.hid (HN.out rfl)
        go_wp2
        exact ⟨⟨k + 1, by omega, by simp, hbel2, HN2.out⟩, by simp [intOf]; omega⟩
      · have HT2 := Lib.hid (HT.out rfl)
        go_wp2
        go_ret
        exact ⟨by rw [HT2.out]; rfl, hbel2⟩
    · obtain rfl : k = n := by omega
      have HT := Lib.hid (firstI_none HA.out)
      go_wp2
      go_ret
      exact ⟨by rw [HT.out]; rfl, hbel⟩

set_option maxRecDepth 100000 in
set_option maxHeartbeats 2000000 in
theorem containsF_any (b off n cap : Nat) (xs ys : Nat → Int) (p1 p2 : Value) (f : Nat → Bool) (hn : n ≤ 1000000) (w : World)
    (hc : ∀ k, k < n → w.cell? ⟨b, off + k * 2, none⟩ = some (.int .i64 (xs k)) ∧ w.cell? ⟨b, off + k * 2 + 1, none⟩ = some (.int .i64 (ys k)))
    (HF : ∀ k, k < n → ∀ w', Below w.heap.size w w' → Calls Try.prog 133 #[pt (xs k) (ys k), p1, p2] w' fun e w'' => e = .returned (.bool (f k)) ∧ Below w'.heap.size w' w'') :
    Calls Try.prog 132 #[.slice (some ⟨b, off, none⟩) n cap, .func (.func 133) #[] #[p1, p2]] w fun e w' => e = .returned (.bool ((List.range n).any f)) ∧ Below w.heap.size w w' := by
  have CI := indexF_any b off n cap xs ys p1 p2 f hn w hc HF
  have HV : Hid ((List.range n).any f = decide (0 ≤ firstI f n)) := Lib.hid (by
    unfold firstI
    cases h : (List.range n).find? f with
    | none =>
      rw [List.find?_eq_none] at h
      simp only [Int.reduceNeg, Int.reduceLE, decide_false, List.any_eq_false]
      exact h
    | some k =>
      have := List.find?_some h
      have h2 := List.mem_of_find?_eq_some h
      simp only [Int.natCast_nonneg, decide_true, List.any_eq_true]
      exact ⟨k, h2, this⟩)
  obtain ⟨i, hi⟩ : ∃ i, firstI f n = i := ⟨_, rfl⟩
  rw [hi] at CI HV
  obtain ⟨v, hv⟩ : ∃ v, (List.range n).any f = v := ⟨_, rfl⟩
  rw [hv] at HV ⊢
  clear hi hv
  go_enter Try.func132, Try.ntmps132
  go_wp2_with fail
  refine CI.mono ?_
  rintro e w2 ⟨rfl, hb⟩
  go_wp2
  go_ret
  exact ⟨by rw [HV.out]; simp, hb⟩

end Go.Proofs.Ytlocdadkhdcedaa

/- Walks: flat, the program's and the reference's. -/
namespace Go.Proofs.Ytlocdadkhdcedaa
open Go Go.RowKit Go.Proofs Go.Abs Go.Plain

theorem flatS_any {L : Pl} {k : Nat} (hk : k < L.length) (h : (px L k == px L 0 && py L k == py L 0) = false) (hb : ∀ j, j < k → (px L j == px L 0 && py L j == py L 0) = true) :
    flatS L = !(List.range L.length).any fun m => offB (px L 0) (py L 0) (px L k) (py L k) (px L m) (py L m) := by
  rw [flatS_some hk h hb, List.not_any_eq_all_not]
  congr 1
  funext m
  unfold offB
  simp [bne]

set_option maxRecDepth 100000 in
set_option maxHeartbeats 4000000 in
theorem flat_any (b off cap : Nat) (L : Pl) (hs : 0 < L.length) (hl : L.length ≤ 1000000) (hsm : ∀ k, Small (px L k) ∧ Small (py L k)) (w : World) (hp : PtsAt w b off L) :
    Calls Try.prog 80 #[.slice (some ⟨b, off, none⟩) L.length cap] w fun e w' => e = .returned (.bool (flatS L)) ∧ Below w.heap.size w w' := by
  have HP := Lib.hid hp
  have HFS := Lib.hid (fun k => flatS_any (L := L) (k := k))
  have HFN := Lib.hid (flatS_none (L := L))
  have HSM := Lib.hid hsm
  clear hp hsm
  obtain ⟨v, hv⟩ : ∃ v, flatS L = v := ⟨_, rfl⟩
  rw [hv] at HFS HFN ⊢
  clear hv
  have q0 := Sl1.new w (.slice (some ⟨b, off, none⟩) L.length cap)
  have bel0 := (Below.refl w.heap.size w).alloc (Nat.le_refl _) (.cells #[.slice (some ⟨b, off, none⟩) L.length cap] 32)
  have j0 : (0 : Int) < (L.length : Int) := by omega
  go_enter Try.func80, Try.ntmps80
  go_wp2_with fail
  go_loopw [7] (fun i wr => ∃ k : Nat, k ≤ L.length ∧ i = .int .i64 k ∧ Below w.heap.size w wr ∧ Sl1 wr w.heap.size (.slice (some ⟨b, off, none⟩) L.length cap) ∧ ∀ j, j < k → (px L j == px L 0 && py L j == py L 0) = true) (fun i _ => L.length - (intOf i).toNat)
  case atStart => exact ⟨0, Nat.zero_le _, rfl, bel0, q0, fun j h => absurd h (Nat.not_lt_zero _)⟩
  case round =>
    clear q0 bel0
    obtain ⟨k, hk, rfl, hbel, q, hall⟩ := hrel
    have HA := Lib.hid hall
    clear hall
    by_cases hlt : k < L.length
    · have j1 : (k : Int) < (L.length : Int) := by omega
      have a0 := keep_cell hbel (HP.out k hlt).1
      have a1 := keep_cell hbel (HP.out k hlt).2
      have o0 := keep_cell hbel (HP.out 0 hs).1
      have o1 := keep_cell hbel (HP.out 0 hs).2
      rw [show off + 0 * 2 = off by omega] at o0 o1
      have HF1 : Hid ((px L k == px L 0 && py L k == py L 0) = false → v = !(List.range L.length).any fun m => offB (px L 0) (py L 0) (px L k) (py L k) (px L m) (py L m)) := Lib.hid (fun h => HFS.out k hlt h HA.out)
      have HN1 : Hid ((px L k == px L 0 && py L k == py L 0) = true → ∀ j, j < k + 1 → (px L j == px L 0 && py L j == py L 0) = true) := Lib.hid (fun h j hj => by
        rcases Nat.lt_or_ge j k with h1 | h1
        · exact HA.out j h1
        · obtain rfl : j = k := by omega
          exact h)
      have CF := fun (w' : World) (B1 B2 : Nat) (hb : Below w.heap.size w w') (s1 : Sl1 w' B1 (.slice (some ⟨b, off, none⟩) L.length cap)) (s2 : Pb w' B2 (px L k) (py L k)) =>
        containsF_any b off L.length cap (px L) (py L) (.pointer (some ⟨B1, 0, none⟩)) (.pointer (some ⟨B2, 0, none⟩)) (fun m => offB (px L 0) (py L 0) (px L k) (py L k) (px L m) (py L m)) hl w'
          (fun m hm => ⟨keep_cell hb (HP.out m hm).1, keep_cell hb (HP.out m hm).2⟩)
          (fun m hm w2 hb2 => flatLit_any b off L.length cap B1 B2 (px L 0) (py L 0) (px L k) (py L k) (px L m) (py L m) hs w2 (HSM.out 0) (HSM.out k) (HSM.out m) (s1.keep hb2) (s2.keep hb2)
            (by have := keep_cell (keep_below hb hb2) (HP.out 0 hs).1; rwa [show off + 0 * 2 = off by omega] at this) (by have := keep_cell (keep_below hb hb2) (HP.out 0 hs).2; rwa [show off + 0 * 2 = off by omega] at this))
      obtain ⟨av, hav⟩ : ∃ c, (List.range L.length).any (fun m => offB (px L 0) (py L 0) (px L k) (py L k) (px L m) (py L m)) = c := ⟨_, rfl⟩
      simp only [hav] at CF
      rw [hav] at HF1
      have E := fun w => run_pt_neq (px L k) (py L k) (px L 0) (py L 0) w
      obtain ⟨ev, hev⟩ : ∃ c, (px L k == px L 0 && py L k == py L 0) = c := ⟨_, rfl⟩
      rw [hev] at E HF1 HN1
      obtain ⟨x0, hx0⟩ : ∃ x, px L k = x := ⟨_, rfl⟩
      obtain ⟨y0, hy0⟩ : ∃ x, py L k = x := ⟨_, rfl⟩
      obtain ⟨x1, hx1⟩ : ∃ x, px L 0 = x := ⟨_, rfl⟩
      obtain ⟨y1, hy1⟩ : ∃ x, py L 0 = x := ⟨_, rfl⟩
      rw [hx0] at a0 E
      rw [hy0] at a1 E
      simp only [hx0, hy0] at CF
      rw [hx1] at o0 E
      rw [hy1] at o1 E
      clear hav hev hx0 hy0 hx1 hy1
      have bel1 := (Below.refl wr.heap.size wr).alloc (Nat.le_refl _) (ptObj x0 y0)
      have q1 := q.keep bel1
      have p1 := Pb.new wr x0 y0
      have d0 := keep_cell bel1 o0
      have d1 := keep_cell bel1 o1
      obtain ⟨W, hW⟩ : ∃ W, wr.alloc (ptObj x0 y0) = W := ⟨_, rfl⟩
      rw [hW] at bel1 q1 p1 d0 d1
      go_wp2_with fail
      clear hW o0 o1 a0 a1
      have G0 := grow_cell d0
      have G1 := grow_cell d1
      have G2 := grow_cell q1.c0
      have G3 := grow_cell p1.c0
      have G4 := grow_cell p1.c1
      refine wp_region_grow (by kernel_rfl) (by kernel_rfl) ?_
      repeat (go_big_quiet_step (fail))
      refine wpQuiet_nil ?_
      rintro w2 ⟨x, hx⟩
      have hb : Below W.heap.size W w2 := by rw [hx]; exact x.b
      clear hx x G0 G1 G2 G3 G4 E d0 d1
      have hbel2 := keep_below (keep_below hbel bel1) hb
      have q2 := q1.keep hb
      have p2 := p1.keep hb
      clear hb q1 p1 bel1
      cases ev
      · have HV := Lib.hid (HF1.out rfl)
        have c0 := q2.c0
        go_wp2_with fail
        refine (CF _ _ _ hbel2 q2 p2).mono ?_
        rintro e w3 ⟨rfl, hb⟩
        have hbel3 := keep_below hbel2 hb
        go_wp2
        go_ret
        exact ⟨by rw [HV.out]; rfl, hbel3⟩
      · have HN2 := Lib.hid (HN1.out rfl)
        go_wp2
        exact ⟨⟨k + 1, by omega, by simp, hbel2, q2, HN2.out⟩, by simp [intOf]; omega⟩
    · obtain rfl : k = L.length := by omega
      have HV := Lib.hid (HFN.out HA.out)
      go_wp2
      go_ret
      exact ⟨by rw [← HV.out]; rfl, hbel⟩

end Go.Proofs.Ytlocdadkhdcedaa

/- Walks: the reference's flat. -/
namespace Go.Proofs.Ytlocdadkhdcedaa
open Go Go.RowKit Go.Proofs Go.Abs Go.Plain

theorem beq2_comm (a b c d : Int) : (a == b && c == d) = (b == a && d == c) := by
  rw [Bool.eq_iff_iff]
  simp only [Bool.and_eq_true, beq_iff_eq]
  exact ⟨fun h => ⟨h.1.symm, h.2.symm⟩, fun h => ⟨h.1.symm, h.2.symm⟩⟩

set_option maxRecDepth 100000 in
set_option maxHeartbeats 8000000 in
theorem refFlat_any (b off cap : Nat) (L : Pl) (hs : 0 < L.length) (hl : L.length ≤ 1000000) (hsm : ∀ k, Small (px L k) ∧ Small (py L k)) (w : World) (hp : PtsAt w b off L) :
    Calls Try.prog 87 #[.slice (some ⟨b, off, none⟩) L.length cap] w fun e w' => e = .returned (.bool (flatS L)) ∧ Below w.heap.size w w' := by
  have HP := Lib.hid hp
  have HFS := Lib.hid (fun k => flatS_any (L := L) (k := k))
  have HFN := Lib.hid (flatS_none (L := L))
  have HSM := Lib.hid hsm
  clear hp hsm
  obtain ⟨v, hv⟩ : ∃ v, flatS L = v := ⟨_, rfl⟩
  rw [hv] at HFS HFN ⊢
  clear hv
  go_enter Try.func87, Try.ntmps87
  go_wp2_with fail
  go_loopw [3] (fun i wr => ∃ k : Nat, k ≤ L.length ∧ i = .int .i64 k ∧ Below w.heap.size w wr ∧ (0 < k → ∀ j, j < L.length → (px L j == px L 0 && py L j == py L 0) = true)) (fun i _ => L.length - (intOf i).toNat)
  case atStart => exact ⟨0, Nat.zero_le _, rfl, Below.refl _ _, fun h => absurd h (Nat.lt_irrefl _)⟩
  case round =>
    obtain ⟨i, hi, rfl, hbel, hall⟩ := hrel
    have HA := Lib.hid hall
    clear hall
    by_cases hlt : i < L.length
    · have j1 : (i : Int) < (L.length : Int) := by omega
      go_wp2_with fail
      go_loopw [4] (fun k wi => ∃ k' : Nat, i + 1 ≤ k' ∧ k' ≤ L.length ∧ k = .int .i64 k' ∧ Below w.heap.size w wi ∧ (i = 0 → ∀ j, j < k' → (px L j == px L 0 && py L j == py L 0) = true)) (fun k _ => L.length - (intOf k).toNat)
      case atStart => exact ⟨i + 1, Nat.le_refl _, by omega, by simp, hbel, fun h j hj => by
        obtain rfl : j = 0 := by omega
        simp⟩
      case round =>
        obtain ⟨k, hk1, hk2, rfl, hbel2, hin⟩ := hrel
        have HI := Lib.hid hin
        clear hin hbel
        by_cases hkl : k < L.length
        · have j2 : (k : Int) < (L.length : Int) := by omega
          have a0 := keep_cell hbel2 (HP.out i hlt).1
          have a1 := keep_cell hbel2 (HP.out i hlt).2
          have c0 := keep_cell hbel2 (HP.out k hkl).1
          have c1 := keep_cell hbel2 (HP.out k hkl).2
          have E := fun w => run_pt_eql (px L i) (py L i) (px L k) (py L k) w
          have HEV : Hid ((px L i == px L k && py L i == py L k) = true ∨ (i = 0 ∧ (px L k == px L 0 && py L k == py L 0) = false)) := Lib.hid (by
            rcases Nat.eq_zero_or_pos i with h0 | h0
            · subst h0
              rw [beq2_comm]
              cases (px L k == px L 0 && py L k == py L 0)
              · exact .inr ⟨rfl, rfl⟩
              · exact .inl rfl
            · have h1 := HA.out h0 i hlt
              have h2 := HA.out h0 k hkl
              simp only [Bool.and_eq_true, beq_iff_eq] at h1 h2 ⊢
              exact .inl ⟨h1.1.trans h2.1.symm, h1.2.trans h2.2.symm⟩)
          have HNX : Hid ((px L i == px L k && py L i == py L k) = true → i = 0 → ∀ j, j < k + 1 → (px L j == px L 0 && py L j == py L 0) = true) := Lib.hid (fun h h0 j hj => by
            subst h0
            rcases Nat.lt_or_ge j k with h1 | h1
            · exact HI.out rfl j h1
            · obtain rfl : j = k := by omega
              rw [beq2_comm]
              exact h)
          obtain ⟨ev, hev⟩ : ∃ c, (px L i == px L k && py L i == py L k) = c := ⟨_, rfl⟩
          rw [hev] at E HEV HNX
          have HEQ := Lib.hid hev
          have HXY := Lib.hid (show ∀ m, cross (px L i) (py L i) (px L k) (py L k) (px L m) (py L m) = cross (px L i) (py L i) (px L k) (py L k) (px L m) (py L m) from fun _ => rfl)
          obtain ⟨x0, hx0⟩ : ∃ x, px L i = x := ⟨_, rfl⟩
          obtain ⟨y0, hy0⟩ : ∃ x, py L i = x := ⟨_, rfl⟩
          obtain ⟨x1, hx1⟩ : ∃ x, px L k = x := ⟨_, rfl⟩
          obtain ⟨y1, hy1⟩ : ∃ x, py L k = x := ⟨_, rfl⟩
          rw [hx0] at a0 E
          rw [hy0] at a1 E
          rw [hx1] at c0 E
          rw [hy1] at c1 E
          have HX := Lib.hid (And.intro (And.intro hx0 hy0) (And.intro hx1 hy1))
          clear hx0 hy0 hx1 hy1 hev
          have S0 := HSM.out i
          have S1 := HSM.out k
          rw [HX.out.1.1, HX.out.1.2] at S0
          rw [HX.out.2.1, HX.out.2.2] at S1
          have HS0 := Lib.hid (And.intro S0 S1)
          clear S0 S1
          go_wp2_with fail
          have G0 := grow_cell a0
          have G1 := grow_cell a1
          have G2 := grow_cell c0
          have G3 := grow_cell c1
          refine wp_region_grow (by kernel_rfl) (by kernel_rfl) ?_
          repeat (go_big_quiet_step (fail))
          refine wpQuiet_nil ?_
          rintro w2 ⟨x, hx⟩
          have hb := x.b
          rw [← hx] at hb
          clear hx x G0 G1 G2 G3 E a0 a1 c0 c1
          have hbel3 := keep_below hbel2 hb
          clear hb hbel2
          cases ev
          · obtain ⟨h0, hf⟩ : i = 0 ∧ (px L k == px L 0 && py L k == py L 0) = false := HEV.out.resolve_left (by simp)
            have HV := Lib.hid (HFS.out k hkl hf (fun j hj => HI.out h0 j hj))
            have HI0 := Lib.hid h0
            clear h0 hf
            go_wp2_with fail
            go_loopw [5] (fun m wm => ∃ m' : Nat, m' ≤ L.length ∧ m = .int .i64 m' ∧ Below w.heap.size w wm ∧ ∀ j, j < m' → offB x0 y0 x1 y1 (px L j) (py L j) = false) (fun m _ => L.length - (intOf m).toNat)
            case atStart => exact ⟨0, Nat.zero_le _, rfl, hbel3, fun j h => absurd h (Nat.not_lt_zero _)⟩
            case round =>
              clear hbel3
              obtain ⟨m, hm, rfl, hbel4, hno⟩ := hrel
              have HO := Lib.hid hno
              clear hno
              by_cases hml : m < L.length
              · have j3 : (m : Int) < (L.length : Int) := by omega
                have a0 := keep_cell hbel4 (HP.out i hlt).1
                have a1 := keep_cell hbel4 (HP.out i hlt).2
                have c0 := keep_cell hbel4 (HP.out k hkl).1
                have c1 := keep_cell hbel4 (HP.out k hkl).2
                have d0 := keep_cell hbel4 (HP.out m hml).1
                have d1 := keep_cell hbel4 (HP.out m hml).2
                rw [HX.out.1.1] at a0
                rw [HX.out.1.2] at a1
                rw [HX.out.2.1] at c0
                rw [HX.out.2.2] at c1
                have CC := fun w => refCross_any x0 y0 x1 y1 (px L m) (py L m) w HS0.out.1.1 HS0.out.1.2 HS0.out.2.1 HS0.out.2.2 (HSM.out m).1 (HSM.out m).2
                have HT : Hid (offB x0 y0 x1 y1 (px L m) (py L m) = true → v = false) := Lib.hid (fun h => by
                  rw [HV.out, ← HI0.out, HX.out.1.1, HX.out.1.2, HX.out.2.1, HX.out.2.2]
                  simp only [Bool.not_eq_false', List.any_eq_true, List.mem_range]
                  exact ⟨m, hml, h⟩)
                have HN : Hid (offB x0 y0 x1 y1 (px L m) (py L m) = false → ∀ j, j < m + 1 → offB x0 y0 x1 y1 (px L j) (py L j) = false) := Lib.hid (fun h j hj => by
                  rcases Nat.lt_or_ge j m with h1 | h1
                  · exact HO.out j h1
                  · obtain rfl : j = m := by omega
                    exact h)
                obtain ⟨cv, hcv⟩ : ∃ c, cross x0 y0 x1 y1 (px L m) (py L m) = c := ⟨_, rfl⟩
                have HCV : Hid (offB x0 y0 x1 y1 (px L m) (py L m) = (cv != 0)) := Lib.hid (by unfold offB; rw [hcv])
                rw [hcv] at CC
                rw [HCV.out] at HT HN
                obtain ⟨x2, hx2⟩ : ∃ x, px L m = x := ⟨_, rfl⟩
                obtain ⟨y2, hy2⟩ : ∃ x, py L m = x := ⟨_, rfl⟩
                rw [hx2] at d0 CC
                rw [hy2] at d1 CC
                clear hx2 hy2 hcv HCV
                go_wp2_with fail
                have G0 := grow_cell a0
                have G1 := grow_cell a1
                have G2 := grow_cell c0
                have G3 := grow_cell c1
                have G4 := grow_cell d0
                have G5 := grow_cell d1
                refine wp_region_grow (by kernel_rfl) (by kernel_rfl) ?_
                repeat (go_big_quiet_step ((first | (go_at_call 65; with_reducible exact calls_grow (CC _)))))
                refine wpQuiet_nil ?_
                rintro w5 ⟨x, hx⟩
                have hb := x.b
                rw [← hx] at hb
                clear hx x G0 G1 G2 G3 G4 G5 CC a0 a1 c0 c1 d0 d1
                have hbel5 := keep_below hbel4 hb
                clear hb hbel4
                by_cases hz : cv = 0
                · have HN2 := Lib.hid (HN.out (by rw [hz]; rfl))
                  go_wp2
                  exact ⟨⟨m + 1, by omega, by simp, hbel5, HN2.out⟩, by simp [intOf]; omega⟩
                · have HT2 := Lib.hid (HT.out (by simpa using hz))
                  go_wp2
                  go_ret
                  exact ⟨by rw [HT2.out]; rfl, hbel5⟩
              · obtain rfl : m = L.length := by omega
                have HV2 : Hid (v = true) := Lib.hid (by
                  rw [HV.out, ← HI0.out, HX.out.1.1, HX.out.1.2, HX.out.2.1, HX.out.2.2]
                  simp only [Bool.not_eq_true', List.any_eq_false, List.mem_range]
                  intro j hj
                  rw [HO.out j hj]
                  simp)
                go_wp2
                go_ret
                exact ⟨by rw [HV2.out]; rfl, hbel4⟩
          · have HN2 := Lib.hid (HNX.out rfl)
            go_wp2
            exact ⟨⟨k + 1, by omega, by omega, by simp, hbel3, HN2.out⟩, by simp [intOf]; omega⟩
        · obtain rfl : k = L.length := by omega
          go_wp2
          refine ⟨⟨i + 1, by omega, by simp, hbel2, fun _ j hj => ?_⟩, by simp [intOf]; omega⟩
          rcases Nat.eq_zero_or_pos i with h0 | h0
          · exact HI.out h0 j hj
          · exact HA.out h0 j hj
    · obtain rfl : i = L.length := by omega
      have HV := Lib.hid (HFN.out (HA.out hs))
      go_wp2
      go_ret
      exact ⟨by rw [← HV.out]; rfl, hbel⟩

end Go.Proofs.Ytlocdadkhdcedaa

/- Walks: repeated, first at repeated. -/
namespace Go.Proofs.Ytlocdadkhdcedaa
open Go Go.RowKit Go.Proofs Go.Shelf

/-- Is the corner its next one? -/
def repB (xs ys : Nat → Int) (_p k q : Nat) : Bool := xs k == xs q && ys k == ys q

set_option maxHeartbeats 1000000 in
theorem repeated0_any (x0 y0 x1 y1 x2 y2 : Int) (w : World) :
    Calls Try.prog 82 #[.agg #[.int .i64 x0, .int .i64 y0, .int .i64 x1, .int .i64 y1, .int .i64 x2, .int .i64 y2]] w fun e w' => e = .returned (.bool (x1 == x2 && y1 == y2)) ∧ Below w.heap.size w w' := by
  have kb := (Below.refl w.heap.size w).alloc (Nat.le_refl _) (.cells #[.int .i64 x0, .int .i64 y0, .int .i64 x1, .int .i64 y1, .int .i64 x2, .int .i64 y2] 108)
  by_cases h1 : x1 = x2
  · by_cases h2 : y1 = y2
    · subst h1 h2
      simp only [BEq.rfl, Bool.and_self]
      go_enter Try.func82, Try.ntmps82
      go_wp2
      go_ret
      exact ⟨rfl, kb⟩
    · subst h1
      have e : (x1 == x1 && y1 == y2) = false := by simp [h2]
      rw [e]
      go_enter Try.func82, Try.ntmps82
      go_wp2
      all_goals first
        | (go_ret; exact ⟨rfl, kb⟩)
        | omega
  · have e : (x1 == x2 && y1 == y2) = false := by simp [h1]
    rw [e]
    go_enter Try.func82, Try.ntmps82
    go_wp2
    all_goals first
      | (go_ret; exact ⟨rfl, kb⟩)
      | omega

theorem repeated_any (xs ys : Nat → Int) (p k q : Nat) (_hsm : ∀ k, Small (xs k) ∧ Small (ys k)) (w : World) :
    Calls Try.prog 82 #[cnrV xs ys p k q] w fun e w' => e = .returned (.bool (repB xs ys p k q)) ∧ Below w.heap.size w w' :=
  repeated0_any _ _ _ _ _ _ w

attribute [local go_sem] Oper.semAt_some

def repX (xs ys : Nat → Int) (len x : Nat) : Bool := repB xs ys ((x + len - 1) % len) x ((x + 1) % len)

def firstR (xs ys : Nat → Int) (len : Nat) : Int := match (List.range len).find? (repX xs ys len) with
  | some k => k
  | none => -1

theorem firstR_none {xs ys : Nat → Int} {len : Nat} (h : ∀ x ∈ List.range len, repX xs ys len x = false) : firstR xs ys len = -1 := by
  unfold firstR
  have : (List.range len).find? (repX xs ys len) = none := List.find?_eq_none.2 fun x hx => by simp [h x hx]
  rw [this]

theorem firstR_some {xs ys : Nat → Int} {len k x : Nat} {pre : List Nat} (he : List.range k = pre ++ [x]) (hk : k ≤ len) (h : ∀ y ∈ pre, repX xs ys len y = false) (hx : repX xs ys len x = true) : firstR xs ys len = (x : Nat) := by
  unfold firstR
  have h1 : List.range len = (pre ++ [x]) ++ (List.range (len - k)).map (k + ·) := by
    rw [← he, ← List.range_add]; congr 1; omega
  have : (List.range len).find? (repX xs ys len) = some x := by
    rw [h1, List.append_assoc, List.find?_append]
    rw [List.find?_eq_none.2 (fun y hy => by simp [h y hy])]
    simp [hx]
  rw [this]

set_option maxRecDepth 100000 in
set_option maxHeartbeats 2000000 in
theorem firstRep_any (b off len cap : Nat) (xs ys : Nat → Int) (hlen : len ≤ 1000000) (hsm : ∀ k, Small (xs k) ∧ Small (ys k)) (w : World)
    (hc : ∀ k, k < len → w.cell? ⟨b, off + k * 2, none⟩ = some (.int .i64 (xs k)) ∧ w.cell? ⟨b, off + k * 2 + 1, none⟩ = some (.int .i64 (ys k))) (hb : b < w.heap.size) :
    Calls Try.prog 92 #[.slice (some ⟨b, off, none⟩) len cap, .func (.func 82) #[] #[]] w fun e w' => e = .returned (.int .i64 (firstR xs ys len)) ∧ Below w.heap.size w w' := by
  refine (callsIn_wide (n := 6)).1 ?_
  have h1 : 1 ≤ 6 := by omega
  refine callsIn_of_wp_marks Try.func92 rfl trivial ?_ rfl
  simp only [Try.ntmps92, List.size_toArray, List.length_cons, List.length_nil, Nat.reduceAdd, Nat.reduceSub, Array.replicate_succ, Array.replicate_zero, List.push_toArray, List.append_toArray, List.nil_append, List.cons_append]
  gi_wp2_with (refine ⟨trivial, ?_⟩; gi_at_call 98; refine (corners_in Fence.wide 5 trivial rfl _ _ _ _).mono ?_; rintro e w' ⟨rfl, rfl⟩)
  obtain ⟨W0, hW0⟩ : ∃ W0, ((w.alloc (.cells #[.func (.func 82) #[] #[]] 97)).alloc (.cells #[.int .i64 0] 3)).alloc (.cells #[.slice (some ⟨b, off, none⟩) len cap] 32) = W0 := ⟨_, rfl⟩
  have hsz : W0.heap.size = w.heap.size + 3 := by rw [← hW0]; simp
  have bK : Boxed W0 w.heap.size 97 (.func (.func 82) #[] #[]) := by rw [← hW0]; exact ((Boxed.new w 97 _).alloc _).alloc _
  have bR : Boxed W0 (w.heap.size + 1) 3 (.int .i64 0) := by
    rw [← hW0]; have := (Boxed.new (w.alloc (.cells #[.func (.func 82) #[] #[]] 97)) 3 (.int .i64 0)).alloc (.cells #[.slice (some ⟨b, off, none⟩) len cap] 32); rwa [World.size_alloc] at this
  have bC : Boxed W0 (w.heap.size + 1 + 1) 32 (.slice (some ⟨b, off, none⟩) len cap) := by
    rw [← hW0]; have := Boxed.new ((w.alloc (.cells #[.func (.func 82) #[] #[]] 97)).alloc (.cells #[.int .i64 0] 3)) 32 (.slice (some ⟨b, off, none⟩) len cap); rwa [World.size_alloc, World.size_alloc] at this
  have hB0 : Below w.heap.size w W0 := by rw [← hW0]; exact (((Below.refl _ w).alloc (Nat.le_refl _) _).alloc (by simp) _).alloc (by simp; omega) _
  rw [hW0]
  clear hW0
  refine wpIn_rangeFunc_ownH rfl h1 (gf := 140) (lb := #[.pointer (some ⟨w.heap.size + 1 + 1, 0, none⟩)]) rfl trivial (enters_of Try.func140 (by kernel_rfl) rfl)
    (corners_stops Fence.wide 5 trivial rfl (by omega) (w.heap.size + 1 + 1) w.heap.size b off len cap xs ys hlen hb W0 (by omega) (by omega) bC.cell (fun k hk => ⟨keep_cell hB0 (hc k hk).1, keep_cell hB0 (hc k hk).2⟩))
    KeepC.trans (fun W l o o' hl h _ _ => keepC_put (by omega) (by omega)) (Below.refl _ _) (fun _ => rfl)
    (fun pre W => ((∀ x ∈ pre, repX xs ys len x = false) ∧ Boxed W w.heap.size 97 (.func (.func 82) #[] #[])) ∧ Boxed W (w.heap.size + 1) 3 (.int .i64 0) ∧ Below w.heap.size w W ∧ w.heap.size + 3 ≤ W.heap.size)
    (fun c pre W => (c = .ret ∧ ∃ pre' x, pre = pre' ++ [x] ∧ (∀ x ∈ pre', repX xs ys len x = false) ∧ repX xs ys len x = true ∧ Boxed W (w.heap.size + 1) 3 (.int .i64 (x : Nat))) ∧ Below w.heap.size w W)
    (OwnFrom.and (OwnFrom.and (ownFrom_pure _ _) (Own.from (boxed_own _ _ _) _)) (OwnFrom.and (Own.from (boxed_own _ _ _) _) (OwnFrom.and (ownFrom_below (Nat.le_refl _) (by omega)) (ownFrom_size _ _))))
    (fun c => OwnFrom.and (fun s X Y row hs hg hr => by
      obtain ⟨h1, pre', x, h2, h3, h4, h5⟩ := hs
      exact ⟨h1, pre', x, h2, h3, h4, Own.from (boxed_own _ 3 (fun (_ : Unit) => Value.int .i64 (x : Nat))) _ () X Y row h5 hg hr⟩) (ownFrom_below (Nat.le_refl _) (by omega)))
    ⟨⟨by simp, bK⟩, bR, hB0, by omega⟩
    (fun x a' W => ∃ Bx, w.heap.size + 2 < Bx ∧ Box6 W Bx (cnrV xs ys ((x + len - 1) % len) x ((x + 1) % len)) ∧ a' = { tmps := #[.slice (some ⟨b, off, none⟩) len cap, .func (.func 82) #[] #[], undef, .pointer (some ⟨w.heap.size, 0, none⟩), .pointer (some ⟨w.heap.size + 1, 0, none⟩), .int .i64 x, .pointer (some ⟨Bx, 0, none⟩), .slice (some ⟨b, off, none⟩) len cap, .func (.func 140) #[] #[.pointer (some ⟨w.heap.size + 1 + 1, 0, none⟩)], .int .i64 x, cnrV xs ys ((x + len - 1) % len) x ((x + 1) % len), undef, undef, undef, undef], defers := [] })
    (fun x a' _ X Y row hs hg hr => by obtain ⟨Bx, h1, h2, h3⟩ := hs; exact ⟨Bx, h1, h2.own hg hr, h3⟩)
    ?assign ?body ?done ?stop
  case assign =>
    rintro l pre x W K ⟨⟨hpre, bK1⟩, bR1, hB1, hs1⟩ hK
    gi_wp2
    exact hK _ _ ((KeepsOthers.alloc _ _).from _) (KeepC.below ((Below.refl _ W).alloc (Nat.le_refl _) _) (by omega) (by omega)) ⟨⟨hpre, bK1.alloc _⟩, bR1.alloc _, hB1.alloc (by omega) _, by simp; omega⟩ ⟨W.heap.size, by omega, Box6.new W _, rfl⟩
  case body =>
    rintro l pre x a' W hl _ ⟨⟨hpre, bK1⟩, bR1, hB1, hs1⟩ ⟨Bx, hBx, bX, rfl⟩ hlt
    have x0 := bX.cell (o := 0) rfl
    have x1 := bX.cell (o := 1) rfl
    have x2 := bX.cell (o := 2) rfl
    have x3 := bX.cell (o := 3) rfl
    have x4 := bX.cell (o := 4) rfl
    have x5 := bX.cell (o := 5) rfl
    have cK := bK1.cell
    gi_wp2_with fail
    refine ⟨trivial, ?_⟩
    refine (CallsIn.inRound l (callsIn_wide.2 (repeated_any xs ys _ _ _ hsm _))).mono ?_
    rintro e w' ⟨rfl, hbw⟩
    change Below W.heap.size W w' at hbw
    have bR2 := below_box hbw bR1
    have bK2 := below_box hbw bK1
    have hB2 := hB1.trans (hbw.mono hB1.size)
    have hkf := keepsFrom_below W0.heap.size hbw
    have hkc : KeepC w.heap.size (w.heap.size + 1 + 1) W w' := KeepC.below hbw (by omega) (by omega)
    have hs2 := Nat.le_trans hs1 hbw.size
    have cR := bR2.cell
    have fR := bR2.frozen
    obtain ⟨kd, hkd⟩ : ∃ kd, repB xs ys ((x + len - 1) % len) x ((x + 1) % len) = kd := ⟨_, rfl⟩
    rw [hkd]
    have KD : Hid (repX xs ys len x = kd) := Lib.hid hkd
    clear hkd x0 x1 x2 x3 x4 x5 cK
    cases kd
    · gi_wp2
      exact ⟨hkf, hkc, ⟨fun y hy => (List.mem_append.1 hy).elim (hpre y) (fun e => by rw [List.mem_singleton.1 e]; exact KD.out), bK2⟩, bR2, hB2, hs2⟩
    · gi_wp2
      exact ⟨hkf.trans ((KeepsOthers.setCell _ _ _).from _), ⟨rfl, pre, x, rfl, hpre, KD.out, bR2.set _⟩, hB2.setCell (by simp) _⟩
  case done =>
    rintro D ks W hD rfl ⟨⟨hpre, bK1⟩, bR1, hB1, hs1⟩ hK
    have cR := bR1.cell
    have fR := bR1.frozen
    gi_wp2
    have hK' := (KeepsOthers.setCell W ⟨w.heap.size + 1, 0, none⟩ (.int .i64 (-1))).same D _ hK rfl
    refine ⟨by simp, .inl ⟨_, _, rfl, run_takeDeferred hK', ?_⟩⟩
    have hc5 := cell_kept (World.cell?_setCell_same' W ⟨w.heap.size + 1, 0, none⟩ (.int .i64 (-1)) (by rw [cR]; rfl)) (grownBy_putObj' _ D (.deferred none)) (fun r e => by cases e; exact ⟨_, hK', rfl⟩)
    refine ⟨.int .i64 (-1), ?_, ?_⟩
    · simp [results, Try.f92, go_sem, hc5]
    · refine ⟨?_, (hB1.setCell (p := ⟨w.heap.size + 1, 0, none⟩) (by simp) _).trans (belowK_b (w := w) (Nat.le_refl _) _ D _ _ (by omega) hK' rfl rfl)⟩
      rw [firstR_none hpre]
  case stop =>
    rintro D c pre W hD ⟨k, hk, hpre⟩ ⟨⟨rfl, pre', x, h2, h3, h4, h5⟩, hB1⟩ hK
    gi_wp2
    refine ⟨by simp, .inl ⟨_, _, rfl, run_takeDeferred hK, ?_⟩⟩
    have hc5 := cell_kept h5.cell (grownBy_putObj' _ D (.deferred none)) (fun r e => by cases e; exact ⟨_, hK, rfl⟩)
    refine ⟨.int .i64 (x : Nat), ?_, ?_⟩
    · simp [results, Try.f92, go_sem, hc5]
    · refine ⟨?_, hB1.trans (belowK_b (w := w) (Nat.le_refl _) _ D _ _ (by omega) hK rfl rfl)⟩
      rw [firstR_some (hpre.symm.trans h2) hk h3 h4]

end Go.Proofs.Ytlocdadkhdcedaa
