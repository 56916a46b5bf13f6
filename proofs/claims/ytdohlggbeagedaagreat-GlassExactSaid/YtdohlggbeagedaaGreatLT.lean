/- The abstract machine, part LT. -/
import Derived.Test.YtdohlggbeagedaaGreatLS
import Derived.Test.YtdohlggbeagedaaGreatT9
import Derived.Test.YtdohlggbeagedaaGreatLP
import Derived.Test.YtdohlggbeagedaaGreatVQ
/- Exact gauges, plain: what is congruent fits, and wider gauges hold where narrower ones do. -/
namespace Go.Proofs.YtdohlggbeagedaaGreat
open Go Go.RowKit Go.Proofs Go.Abs

/-- Corners and edges. -/
theorem layN_forth {n s i : Nat} (hs : s < n) (hi : i < n) : layN n s false i = fw n s i := by
  have h := layN_int (b := false) hs hi
  have e : layI s false n i = (fw n s i : Int) := by
    unfold layI Plain.ed fw
    simp only [Bool.false_eq_true, if_false]
    (repeat' split) <;> omega
  rw [e] at h
  exact Int.ofNat.inj h
theorem layN_back {n s i : Nat} (hs : s < n) (hi : i < n) : layN n s true i = fw n (kb n s i) 1 % n := by
  have h := layN_int (b := true) hs hi
  have e : layI s true n i = ((fw n (kb n s i) 1 % n : Nat) : Int) := by
    have h1 := kb_lt hs hi
    rw [show fw n (kb n s i) 1 % n = if kb n s i + 1 < n then kb n s i + 1 else 0 by
      unfold fw
      split
      · rw [Nat.mod_eq_of_lt (by omega)]
      · rw [show kb n s i + 1 - n = 0 by omega, Nat.zero_mod]]
    unfold layI Plain.ed kb
    simp only [if_true]
    (repeat' split) <;> omega
  rw [e] at h
  exact Int.ofNat.inj h

theorem layN_kb {n s i : Nat} (_h3 : 3 ≤ n) (hs : s < n) (hi : i < n) : layN n s true i = (kb n s i + 1) % n := by
  rw [layN_back hs hi]
  have h1 := kb_lt hs hi
  unfold fw
  split
  · rfl
  · rw [show kb n s i + 1 - n = 0 by omega, show kb n s i + 1 = n by omega, Nat.mod_self, Nat.zero_mod]
theorem fw_one {n s i : Nat} (h3 : 3 ≤ n) (hs : s < n) (hi : i < n) (c : Nat) (hc : c ≤ 2) : fw n s ((i + c) % n) = (fw n s i + c) % n := by
  have e : (i + c) % n = if i + c < n then i + c else i + c - n := by
    split
    · exact Nat.mod_eq_of_lt (by omega)
    · rw [Nat.mod_eq_sub_mod (by omega), Nat.mod_eq_of_lt (by omega)]
  have h1 := fw_lt hs hi
  have e2 : (fw n s i + c) % n = if fw n s i + c < n then fw n s i + c else fw n s i + c - n := by
    split
    · exact Nat.mod_eq_of_lt (by omega)
    · rw [Nat.mod_eq_sub_mod (by omega), Nat.mod_eq_of_lt (by omega)]
  rw [e, e2]
  unfold fw
  (repeat' split) <;> omega
theorem kb_one {n s i : Nat} (h3 : 3 ≤ n) (hs : s < n) (hi : i < n) : (kb n s ((i + 1) % n) + 1) % n = kb n s i := by
  have e : (i + 1) % n = if i + 1 < n then i + 1 else 0 := by
    split
    · exact Nat.mod_eq_of_lt (by omega)
    · rw [show i + 1 = n by omega, Nat.mod_self]
  have h1 := kb_lt hs hi
  have h2 : (i + 1) % n < n := Nat.mod_lt _ (by omega)
  have h4 := kb_lt hs h2
  have e2 : (kb n s ((i + 1) % n) + 1) % n = if kb n s ((i + 1) % n) + 1 < n then kb n s ((i + 1) % n) + 1 else 0 := by
    split
    · exact Nat.mod_eq_of_lt (by omega)
    · rw [show kb n s ((i + 1) % n) + 1 = n by omega, Nat.mod_self]
  rw [e2, e]
  unfold kb
  (repeat' split) <;> omega
theorem kb_two {n s i : Nat} (h3 : 3 ≤ n) (hs : s < n) (hi : i < n) : (kb n s ((i + 2) % n) + 1) % n = pr n (kb n s i) := by
  have h2 : (i + 1) % n < n := Nat.mod_lt _ (by omega)
  have e : (i + 2) % n = ((i + 1) % n + 1) % n := (mod_forth hi h3).symm
  rw [e, kb_one h3 hs h2]
  have e1 : (i + 1) % n = if i + 1 < n then i + 1 else 0 := by
    split
    · exact Nat.mod_eq_of_lt (by omega)
    · rw [show i + 1 = n by omega, Nat.mod_self]
  rw [e1]
  unfold kb pr
  (repeat' split) <;> omega

theorem sqK_comm (L : List (Int × Int)) (i j : Nat) : sqK L i j = sqK L j i := square_comm _ _ _ _

/-- The measures of the one are those of the other, as the setting lays it. -/
theorem cong_mea {P Q : List (Int × Int)} {s : Nat} {b : Bool} (h3 : 3 ≤ P.length) (hn : P.length = Q.length) (hs : s < P.length) (h : congS (px P) (py P) (px Q) (py Q) P.length s b = true) {i : Nat} (hi : i < P.length) :
    meA Q P.length s b i = m1 P i ∧ meB Q P.length s b i = m2 P i ∧ meC Q P.length s b i = m3 P i := by
  obtain ⟨hb, hq⟩ := cong_all h
  have i1 : (i + 1) % P.length < P.length := Nat.mod_lt _ (by omega)
  have i2 : (i + 2) % P.length < P.length := Nat.mod_lt _ (by omega)
  have q1 : sqK P i ((i + 1) % P.length) = sqK Q (layN P.length s b i) (layN P.length s b ((i + 1) % P.length)) := hq i _ hi i1
  have q2 : sqK P i ((i + 2) % P.length) = sqK Q (layN P.length s b i) (layN P.length s b ((i + 2) % P.length)) := hq i _ hi i2
  have q3 : bendS (px P) (py P) P.length ((i + 1) % P.length) = bendS (px Q) (py Q) P.length (layN P.length s b ((i + 1) % P.length)) := hb _ i1
  unfold meA meB meC m1 m2 m3
  rw [q1, q2, q3, ← hn]
  cases b
  · simp only [Bool.false_eq_true, if_false]
    rw [layN_forth hs hi, layN_forth hs i1, layN_forth hs i2, fw_one h3 hs hi 1 (by omega), fw_one h3 hs hi 2 (by omega)]
    exact ⟨rfl, rfl, rfl⟩
  · simp only [if_true]
    have k1 := kb_lt hs hi
    rw [layN_kb h3 hs hi, layN_kb h3 hs i1, layN_kb h3 hs i2, kb_one h3 hs hi, kb_two h3 hs hi]
    have e1 : (pr P.length (kb P.length s i) + 1) % P.length = kb P.length s i := by
      unfold pr
      split
      · rw [show P.length - 1 + 1 = P.length by omega, Nat.mod_self]; omega
      · rw [show kb P.length s i - 1 + 1 = kb P.length s i by omega, Nat.mod_eq_of_lt k1]
    have e2 : (pr P.length (kb P.length s i) + 2) % P.length = (kb P.length s i + 1) % P.length := by
      have := mod_forth (pr_lt k1) h3
      rw [e1] at this
      exact this.symm
    rw [e1, e2]
    exact ⟨sqK_comm _ _ _, sqK_comm _ _ _, rfl⟩

theorem gz_gaL {L : List (Int × Int)} {i : Nat} (hi : i < L.length) : gz (gaL L) i = gaF L i := by
  unfold gz gaL
  simp [List.getD_eq_getElem?_getD, hi]

/-- What is congruent fits. -/
theorem cong_fit {P Q : List (Int × Int)} {s : Nat} {b : Bool} (h3 : 3 ≤ P.length) (hn : P.length = Q.length) (hs : s < P.length) (h : congS (px P) (py P) (px Q) (py Q) P.length s b = true) : fitP (gaL P) Q Q.length s b = true := by
  rw [fit_eq _ _ _ (by omega)]
  unfold fitR
  rw [List.all_eq_true]
  intro i hi
  have hi' : i < P.length := by have := List.mem_range.1 hi; omega
  obtain ⟨e1, e2, e3⟩ := cong_mea h3 hn hs h hi'
  rw [← hn, gz_gaL hi', e1, e2, e3]
  unfold okM gaF wi
  simp

theorem sq_nn (a : Int) : 0 ≤ a * a := by
  rcases Int.le_total 0 a with h | h
  · exact Int.mul_nonneg h h
  · exact Int.mul_nonneg_of_nonpos_of_nonpos h h
theorem sq_zero {a : Int} (h : a * a = 0) : a = 0 := (Int.mul_eq_zero.1 h).elim (fun x => x) (fun x => x)
theorem straight_no {L : List (Int × Int)} (hv : vOut L = true) : ∀ x, x < L.length → strK (px L) (py L) L.length x = false := by
  unfold vOut at hv
  simp only [Bool.and_eq_true, decide_eq_true_eq] at hv
  exact firstS_neg.1 hv.2.2.2.1

/-- An outline's exact gauges are gauges. -/
theorem gaF_ok {L : List (Int × Int)} (hv : vOut L = true) {k : Nat} (hk : k < L.length) : (gaF L k).ok = true := by
  obtain ⟨h3, h24, hp⟩ := vOut_n hv
  have hval : ∀ j, j < L.length → (0 ≤ px L j ∧ px L j ≤ 4096) ∧ 0 ≤ py L j ∧ py L j ≤ 4096 := by
    intro j hj
    unfold vPts allValid at hp
    rw [List.all_eq_true] at hp
    have := hp j (List.mem_range.2 hj)
    unfold valid at this
    simp only [Bool.and_eq_true, decide_eq_true_eq] at this
    omega
  have hb : ∀ i j, i < L.length → j < L.length → 0 ≤ sqK L i j ∧ sqK L i j ≤ 33554432 := by
    intro i j hi hj
    have a := hval i hi
    have b := hval j hj
    unfold sqK square
    have e1 := mul_le (a := px L j - px L i) (b := px L j - px L i) (A := 4096) (B := 4096) (by omega) (by omega)
    have e2 := mul_le (a := py L j - py L i) (b := py L j - py L i) (A := 4096) (B := 4096) (by omega) (by omega)
    have p1 : 0 ≤ (px L j - px L i) * (px L j - px L i) := sq_nn _
    have p2 : 0 ≤ (py L j - py L i) * (py L j - py L i) := sq_nn _
    omega
  have k1 : (k + 1) % L.length < L.length := Nat.mod_lt _ (by omega)
  have k2 : (k + 2) % L.length < L.length := Nat.mod_lt _ (by omega)
  have hpos : 0 < m1 L k := by
    have h0 := (hb k _ hk k1).1
    by_cases e : m1 L k = 0
    · exfalso
      have hs := (straight_no hv) ((k + 1) % L.length) k1
      unfold m1 sqK square at e
      have p1 : 0 ≤ (px L ((k + 1) % L.length) - px L k) * (px L ((k + 1) % L.length) - px L k) := sq_nn _
      have p2 : 0 ≤ (py L ((k + 1) % L.length) - py L k) * (py L ((k + 1) % L.length) - py L k) := sq_nn _
      have x0 : px L ((k + 1) % L.length) - px L k = 0 := sq_zero (by omega)
      have y0 : py L ((k + 1) % L.length) - py L k = 0 := sq_zero (by omega)
      unfold strK strB cross at hs
      rw [mod_back hk h3] at hs
      rw [x0, y0] at hs
      simp at hs
    · unfold m1 at e ⊢
      omega
  have h1 := hb k _ hk k1
  have h2 := hb k _ hk k2
  have h5 : m3 L k = 1 ∨ m3 L k = -1 := by unfold m3 bendS; split <;> simp
  unfold G5.ok vG gaF wi
  simp only [Bool.and_eq_true, decide_eq_true_eq]
  unfold m1 at hpos ⊢
  unfold m2
  omega

theorem gaL_len (L : List (Int × Int)) : (gaL L).length = L.length := by simp [gaL]

theorem gaL_ok {L : List (Int × Int)} (hv : vOut L = true) : vGs (gaL L) = true := by
  obtain ⟨h3, h24, -⟩ := vOut_n hv
  unfold vGs badG
  rw [Bool.and_eq_true, gaL_len]
  refine ⟨by unfold wi; simp; omega, ?_⟩
  rw [Bool.not_eq_true', List.any_eq_false]
  intro k hk
  rw [gz_gaL (List.mem_range.1 hk), gaF_ok hv (List.mem_range.1 hk)]
  simp

/-- Wider gauges. -/
theorem wG_ok {g : G5} (h : g.ok = true) {y : Int} (hy : 0 ≤ y) : (wG y g).ok = true := by
  unfold G5.ok vG wi at h ⊢
  unfold wG wLo wHi
  simp only [Bool.and_eq_true, decide_eq_true_eq] at h ⊢
  omega

theorem vGs_all {G : List G5} (h : vGs G = true) : (3 ≤ G.length ∧ G.length ≤ 24) ∧ ∀ k, k < G.length → (gz G k).ok = true := by
  unfold vGs at h
  rw [Bool.and_eq_true] at h
  have h3 : badG G = false := by simpa using h.2
  have h1 := h.1
  unfold wi at h1
  simp at h1
  unfold badG at h3
  rw [List.any_eq_false] at h3
  exact ⟨by omega, fun k hk => by simpa using h3 k (List.mem_range.2 hk)⟩

theorem vGs_mk {G : List G5} (h1 : 3 ≤ G.length ∧ G.length ≤ 24) (h2 : ∀ k, k < G.length → (gz G k).ok = true) : vGs G = true := by
  unfold vGs badG wi
  simp only [Bool.and_eq_true, decide_eq_true_eq, Bool.not_eq_true', List.any_eq_false]
  exact ⟨by omega, fun k hk => by simp [h2 k (List.mem_range.1 hk)]⟩

theorem wide_ok {G : List G5} (h : vGs G = true) {y : Int} (hy : 0 ≤ y) : vGs (G.map (wG y)) = true := by
  obtain ⟨h1, h2⟩ := vGs_all h
  refine vGs_mk (by simpa using h1) (fun k hk => ?_)
  have hk' : k < G.length := by simpa using hk
  rw [gz_map G _ hk']
  exact wG_ok (h2 k hk') hy

theorem wide_wide {G : List G5} {a b : Int} (_ha : 0 ≤ a) (hb : 0 ≤ b) : (G.map (wG a)).map (wG b) = G.map (wG (a + b)) := by
  rw [List.map_map]
  congr 1
  funext g
  show wG b (wG a g) = wG (a + b) g
  unfold wG wLo wHi
  simp only [G5.mk.injEq, and_true]
  omega

theorem wide_okM {g : G5} {y u v x : Int} (hy : 0 ≤ y) (hg : 0 < g.a ∧ 0 ≤ g.c ∧ g.b ≤ 33554432 ∧ g.d ≤ 33554432) (h : okM g u v x = true) : okM (wG y g) u v x = true := by
  unfold okM wi at h ⊢
  unfold wG wLo wHi
  simp only [Bool.and_eq_true, Bool.or_eq_true, decide_eq_true_eq] at h ⊢
  omega

theorem ok_sides {g : G5} (h : g.ok = true) : 0 < g.a ∧ 0 ≤ g.c ∧ g.b ≤ 33554432 ∧ g.d ≤ 33554432 := by
  unfold G5.ok vG at h
  simp only [Bool.and_eq_true, decide_eq_true_eq] at h
  omega

/-- What fits, fits with wider gauges. -/
theorem wide_fit {G : List G5} {L : List (Int × Int)} {s : Nat} {b : Bool} {y : Int} (hg : vGs G = true) (hn : G.length = L.length) (hs : s < L.length) (hy : 0 ≤ y) (h : fitP G L L.length s b = true) : fitP (G.map (wG y)) L L.length s b = true := by
  obtain ⟨-, h2⟩ := vGs_all hg
  rw [fit_eq _ _ _ hs] at h ⊢
  unfold fitR at h ⊢
  rw [List.all_eq_true] at h ⊢
  intro i hi
  have hi' : i < G.length := by have := List.mem_range.1 hi; omega
  rw [gz_map G _ hi']
  exact wide_okM hy (ok_sides (h2 i hi')) (h i hi)

end Go.Proofs.YtdohlggbeagedaaGreat

/- Walks: law 6 (GlassExact): whether the settings are among others; the law where nothing is asked. -/
namespace Go.Proofs.YtdohlggbeagedaaGreat
open Go Go.RowKit Go.Proofs Go.Abs

set_option maxRecDepth 100000 in
set_option maxHeartbeats 2000000 in
theorem among_at {L : List (Nat × Bool)} {v : Value} (w : World) (h : SetAt w v L) (hl : L.length ≤ 1000) (s : Nat) (b : Bool) (hm : (s, b) ∈ L) :
    Calls Tryz.prog 34 #[v, st s b] w fun e w' => e = .returned (.bool true) ∧ Below w.heap.size w w' := by
  obtain ⟨g, cap, rfl, hrow⟩ : ∃ g cap, v = .slice (some ⟨g, 0, none⟩) L.length cap ∧ RowS w g L := by
    rcases h with ⟨rfl, -⟩ | ⟨g, cap, h1, h2⟩
    · cases hm
    · exact ⟨g, cap, h1, h2⟩
  obtain ⟨q, hq, hqe⟩ := List.getElem_of_mem hm
  have hx : ∀ i p, L[i]? = some p → w.cell? ⟨g, i * 2, none⟩ = some (.int .i64 p.1) ∧ w.cell? ⟨g, i * 2 + 1, none⟩ = some (.bool p.2) := fun i p hp => hrow.cell hp
  have HX := Lib.hid hx
  have hqe' : L[q]? = some (s, b) := List.getElem?_eq_some_iff.2 ⟨hq, hqe⟩
  clear h hrow hx hm hqe
  have n0 := st_new w s b
  have B0 : Below w.heap.size w (w.alloc (stObj s b)) := (Below.refl _ _).alloc (Nat.le_refl _) _
  obtain ⟨n, hn⟩ : ∃ n, L.length = n := ⟨_, rfl⟩
  have HLn := Lib.hid hn
  rw [hn] at hl hq ⊢
  clear hn
  go_enter Tryz.func34, Tryz.ntmps34
  go_wp2_with fail
  go_loopw [5] (fun i wr => ∃ k : Nat, k ≤ q ∧ i = .int .i64 k ∧ Below (w.alloc (stObj s b)).heap.size (w.alloc (stObj s b)) wr) (fun i _ => n - (intOf i).toNat)
  case atStart => exact ⟨0, Nat.zero_le _, rfl, Below.refl _ _⟩
  case round =>
    obtain ⟨k, hk, rfl, hbel⟩ := hrel
    have j1 : (k : Int) < (n : Int) := by omega
    obtain ⟨⟨t, c⟩, hp⟩ : ∃ p, L[k]? = some p := ⟨_, List.getElem?_eq_getElem (by rw [HLn.out]; omega)⟩
    have a0 := keep_cell2 (keep_below B0 hbel) (HX.out k _ hp).1
    have a1 := keep_cell2 (keep_below B0 hbel) (HX.out k _ hp).2
    have s0 := keep_cell2 hbel n0.1
    have s1 := keep_cell2 hbel n0.2
    have HK : Hid (k = q → t = s ∧ c = b) := Lib.hid (fun e => by
      subst e
      rw [hp] at hqe'
      simpa using hqe')
    have bel := keep_below B0 hbel
    clear hp
    go_wp2_with fail
    have G0 := grow_cell a0
    have G1 := grow_cell a1
    have G2 := grow_cell s0
    have G3 := grow_cell s1
    have hq := run_st_eql
    refine wp_region_grow (by kernel_rfl) (by kernel_rfl) ?_
    repeat (go_big_quiet_step (fail))
    refine wpQuiet_nil ?_
    rintro w4 ⟨z, hz⟩
    have hb : Below wr.heap.size wr w4 := by rw [hz]; exact z.b
    clear hz z G0 G1 G2 G3 a0 a1 s0 s1 hq
    have bel4 := keep_below bel hb
    replace hbel := keep_below hbel hb
    clear hb
    by_cases hts : t = s ∧ c = b
    · obtain ⟨rfl, rfl⟩ := hts
      go_wp2
      all_goals first
        | (exfalso; simp_all; done)
        | (go_ret; exact ⟨rfl, bel4⟩)
    · have hkq : k ≠ q := fun e => hts (HK.out e)
      have e1 : ((t : Int) == (s : Int) && c == b) = false := by
        rw [Bool.and_eq_false_iff]
        by_cases h : t = s
        · exact .inr (by simpa using fun h2 => hts ⟨h, h2⟩)
        · exact .inl (by simpa using fun h2 => h (by omega))
      rw [e1]
      clear e1 hts HK
      go_wp2
      exact ⟨⟨k + 1, by omega, by simp, hbel⟩, by simp [intOf]; omega⟩


set_option maxRecDepth 100000 in
set_option maxHeartbeats 8000000 in
/-- Nothing is asked. -/
theorem exactLaw_bad (v0 v1 : Value) (a b : Int) (P Q : List (Int × Int)) (w : World) (h0 : SlV w v0 P) (h1 : SlV w v1 Q)
    (hbad : (vOut P && (vOut Q && (!decide (a < 0) && (!decide (b < 0) && (!decide (a > 1000000) && !decide (b > 1000000)))))) = false) :
    Calls Tryz.prog 6 #[v0, v1, .int .i64 a, .int .i64 b] w fun e w' => e = .returned (.bool true) ∧ Below w.heap.size w w' := by
  have CP := fun W (hb : Below w.heap.size w W) => refOut_sl (h0.keep hb)
  have CQ := fun W (hb : Below w.heap.size w W) => refOut_sl (h1.keep hb)
  obtain ⟨p, hp⟩ : ∃ p, vOut P = p := ⟨_, rfl⟩
  obtain ⟨q, hq⟩ : ∃ q, vOut Q = q := ⟨_, rfl⟩
  rw [hp] at CP hbad
  rw [hq] at CQ hbad
  have b0 := Below.refl w.heap.size w
  clear h0 h1 hp hq
  cases p
  · clear hbad
    go_enter Tryz.func6, Tryz.ntmps6
    go_wp2_with (first
      | (go_at_call 10; with_reducible refine (awake_any _).mono ?_; rintro e w1 ⟨rfl, hb⟩
         have b1 := keep_below b0 hb)
      | (go_at_call 29; with_reducible refine (CP _ b1).mono ?_; rintro e w2 ⟨rfl, hb2⟩
         have b2 := keep_below b1 hb2))
    go_ret
    exact ⟨rfl, b2⟩
  · cases q
    · clear hbad
      go_enter Tryz.func6, Tryz.ntmps6
      go_wp2_with (first
        | (go_at_call 10; with_reducible refine (awake_any _).mono ?_; rintro e w1 ⟨rfl, hb⟩
           have b1 := keep_below b0 hb)
        | (go_at_call 29; with_reducible refine (CP _ b1).mono ?_; rintro e w2 ⟨rfl, hb2⟩
           have b2 := keep_below b1 hb2
           clear b1)
        | (go_at_call 29; with_reducible refine (CQ _ b2).mono ?_; rintro e w3 ⟨rfl, hb3⟩
           have b3 := keep_below b2 hb3))
      go_ret
      exact ⟨rfl, b3⟩
    · simp only [Bool.true_and] at hbad
      have tail : ∀ k1 k2 k3 k4 : Bool, decide (a < 0) = k1 → decide (b < 0) = k2 → decide (1000000 < a) = k3 → decide (1000000 < b) = k4 → (!k1 && (!k2 && (!k3 && !k4))) = false → Calls Tryz.prog 6 #[v0, v1, .int .i64 a, .int .i64 b] w fun e w' => e = .returned (.bool true) ∧ Below w.heap.size w w' := by
        intro k1 k2 k3 k4 e1 e2 e3 e4 hk
        clear hbad
        cases k1 <;> cases k2 <;> cases k3 <;> cases k4
        all_goals first
          | (exfalso; simp at hk; done)
          | (clear hk
             go_enter Tryz.func6, Tryz.ntmps6
             go_wp2_with (first
               | (go_at_call 10; with_reducible refine (awake_any _).mono ?_; rintro e w1 ⟨rfl, hb⟩
                  have b1 := keep_below b0 hb)
               | (go_at_call 29; with_reducible refine (CP _ b1).mono ?_; rintro e w2 ⟨rfl, hb2⟩
                  have b2 := keep_below b1 hb2
                  clear b1)
               | (go_at_call 29; with_reducible refine (CQ _ b2).mono ?_; rintro e w3 ⟨rfl, hb3⟩
                  have b3 := keep_below b2 hb3))
             go_ret
             exact ⟨rfl, b3⟩)
      exact tail _ _ _ _ rfl rfl rfl rfl hbad

end Go.Proofs.YtdohlggbeagedaaGreat

/- Walks: law 6 (GlassExact), where all is valid. -/
namespace Go.Proofs.YtdohlggbeagedaaGreat
open Go Go.RowKit Go.Proofs Go.Abs

theorem slm_nil (w : World) : SlM w (.slice none 0 0) [] := ⟨none, 0, rfl, by simp, fun k hk => absurd hk (Nat.not_lt_zero _)⟩

theorem vP_one {G : List G5} (h : vGs G = true) : vP 1 1 1 0 0 G [] = true := by
  unfold vP
  rw [h]
  unfold wi vMs badM risesM
  simp

/-- The settings of one list are among those of another. -/
def Sub (A B : List (Nat × Bool)) : Prop := ∀ p ∈ A, p ∈ B

set_option maxRecDepth 100000 in
set_option maxHeartbeats 16000000 in
theorem exactLaw_walk (v0 v1 : Value) (a b : Int) (w : World) (G G1 G2 : List G5) (S F F' : List (Nat × Bool)) (hS : S.length ≤ 1000) (hF : F.length ≤ 1000) (hF' : F'.length ≤ 1000) (hG2 : G2.length ≤ 1000) (hSF : Sub S F) (hFF : Sub F F') (ha : 0 ≤ a ∧ a ≤ 1000000) (hb' : 0 ≤ b ∧ b ≤ 1000000)
    (H29 : ∀ W, Below w.heap.size w W → Calls Tryz.prog 29 #[v0] W fun e w' => e = .returned (.bool true) ∧ Below W.heap.size W w')
    (H29' : ∀ W, Below w.heap.size w W → Calls Tryz.prog 29 #[v1] W fun e w' => e = .returned (.bool true) ∧ Below W.heap.size W w')
    (H30 : ∀ W, Below w.heap.size w W → Calls Tryz.prog 30 #[v0] W fun e w' => ∃ r, e = .returned (.tuple #[r, .int .i64 0]) ∧ SlG w' r G ∧ Below W.heap.size W w')
    (H31 : ∀ W, Below w.heap.size w W → Calls Tryz.prog 31 #[v0, v1] W fun e w' => ∃ r, e = .returned (.tuple #[r, .int .i64 0]) ∧ SetAt w' r S ∧ Below W.heap.size W w')
    (H14 : ∀ W vg, Below w.heap.size w W → SlG W vg G → Calls Tryz.prog 14 #[pcs 1 1 1 0 0 vg (.slice none 0 0), v1] W fun e w' => ∃ r, e = .returned (.tuple #[r, .int .i64 0]) ∧ SetAt w' r F ∧ Below W.heap.size W w')
    (H14' : ∀ W vg, Below w.heap.size w W → SlG W vg G1 → Calls Tryz.prog 14 #[pcs 1 1 1 0 0 vg (.slice none 0 0), v1] W fun e w' => ∃ r, e = .returned (.tuple #[r, .int .i64 0]) ∧ SetAt w' r F' ∧ Below W.heap.size W w')
    (H32 : ∀ W vg, SlG W vg G → Calls Tryz.prog 32 #[vg, .int .i64 a] W fun e w' => ∃ r, e = .returned (.tuple #[r, .int .i64 0]) ∧ SlG w' r G1 ∧ Below W.heap.size W w')
    (H32b : ∀ W vg, SlG W vg G1 → Calls Tryz.prog 32 #[vg, .int .i64 b] W fun e w' => ∃ r, e = .returned (.tuple #[r, .int .i64 0]) ∧ SlG w' r G2 ∧ Below W.heap.size W w')
    (H32c : ∀ W vg, SlG W vg G → Calls Tryz.prog 32 #[vg, .int .i64 (a + b)] W fun e w' => ∃ r, e = .returned (.tuple #[r, .int .i64 0]) ∧ SlG w' r G2 ∧ Below W.heap.size W w') :
    Calls Tryz.prog 6 #[v0, v1, .int .i64 a, .int .i64 b] w fun e w' => e = .returned (.bool true) ∧ Below w.heap.size w w' := by
  have b0 := Below.refl w.heap.size w
  have H29 := Lib.hid H29
  have H29' := Lib.hid H29'
  have H30 := Lib.hid H30
  have H31 := Lib.hid H31
  have H14 := Lib.hid H14
  have H14' := Lib.hid H14'
  have H32 := Lib.hid H32
  have H32b := Lib.hid H32b
  have H32c := Lib.hid H32c
  have HSF := Lib.hid hSF
  have HFF := Lib.hid hFF
  have HS := Lib.hid hS
  have HF := Lib.hid hF
  have HF' := Lib.hid hF'
  have HG2 := Lib.hid hG2
  have k1 : decide (a < 0) = false := by simp; omega
  have k2 : decide (b < 0) = false := by simp; omega
  have k3 : decide (1000000 < a) = false := by simp; omega
  have k4 : decide (1000000 < b) = false := by simp; omega
  have U : IntKind.i64.wrap (a + b) = a + b := wi64 _ (by omega)
  clear hSF hFF hS hF hF' hG2 ha hb'
  go_enter Tryz.func6, Tryz.ntmps6
  go_upto_region 13 with (first
    | (go_at_call 10; with_reducible refine (awake_any _).mono ?_; rintro e w1 ⟨rfl, hb⟩
       have b1 := keep_below b0 hb
       clear hb)
    | (go_at_call 29; with_reducible refine (H29.out _ b1).mono ?_; rintro e w2 ⟨rfl, hb⟩
       have b2 := keep_below b1 hb
       clear hb b1)
    | (go_at_call 29; with_reducible refine (H29'.out _ b2).mono ?_; rintro e w3 ⟨rfl, hb⟩
       have b3 := keep_below b2 hb
       clear hb b2)
    | (go_at_call 30; with_reducible refine (H30.out _ b3).mono ?_; rintro e w4 ⟨g, rfl, gG, hb⟩
       obtain ⟨gad, gcp, rfl⟩ := gG.shape
       have b4 := keep_below b3 hb
       clear hb b3)
    | (go_at_call 31; with_reducible refine (H31.out _ b4).mono ?_; rintro e w5 ⟨sv, rfl, sA, hb⟩
       have b5 := keep_below b4 hb
       have gG := gG.keep hb
       have ba := b5.alloc b5.size (pcsObj 1 1 1 0 0 (.slice gad G.length gcp) (.slice none 0 0))
       have bw : Below w5.heap.size w5 (w5.alloc (pcsObj 1 1 1 0 0 (.slice gad G.length gcp) (.slice none 0 0))) := (Below.refl _ _).alloc (Nat.le_refl _) _
       have gGa := gG.keep bw
       have sAa := sA.keep bw
       have hp0 := pcs_new w5 1 1 1 0 0 (.slice gad G.length gcp) (.slice none 0 0)
       have z5 : w.heap.size ≤ w5.heap.size := b5.size
       clear hb b4)
    | (go_at_call 14; with_reducible refine (H14.out _ _ ba gGa).mono ?_; rintro e w6 ⟨fv, rfl, fA, hb⟩
       have b6 := keep_below ba hb
       have gG := gGa.keep hb
       have sA := sAa.keep hb
       have hp := (hb.block w5.heap.size (by simp)).trans hp0
       clear hb b5 ba bw gGa sAa hp0)
    | (go_at_call 32; with_reducible refine (H32.out _ _ gG).mono ?_; rintro e w7 ⟨g1, rfl, gA, hb⟩
       obtain ⟨gad1, gcp1, rfl⟩ := gA.shape
       have b7 := keep_below b6 hb
       have gG := gG.keep hb
       have sA := sA.keep hb
       have fA := fA.keep hb
       have hp := (hb.block w5.heap.size (Array.getElem?_eq_some_iff.1 hp).1).trans hp
       clear hb b6)
    | (go_at_call 32; with_reducible refine (H32b.out _ _ gA).mono ?_; rintro e w8 ⟨g2, rfl, gB, hb⟩
       have b8 := keep_below b7 hb
       have gG := gG.keep hb
       have gA := gA.keep hb
       have sA := sA.keep hb
       have fA := fA.keep hb
       have hp := (hb.block w5.heap.size (Array.getElem?_eq_some_iff.1 hp).1).trans hp
       clear hb b7)
    | (go_at_call 32; with_reducible refine (H32c.out _ _ gG).mono ?_; rintro e w9 ⟨g3, rfl, gC, hb⟩
       have b9 := keep_below b8 hb
       have gA := gA.keep hb
       have gB := gB.keep hb
       have sA := sA.keep hb
       have fA := fA.keep hb
       have hp := (hb.block w5.heap.size (Array.getElem?_eq_some_iff.1 hp).1).trans hp
       clear hb b8)
    | (go_at_call 33; with_reducible refine (sameGauges_any _ gB gC HG2.out).mono ?_; rintro e w10 ⟨rfl, hb⟩
       have b10 := keep_below b9 hb
       have gA := gA.keep hb
       have sA := sA.keep hb
       have fA := fA.keep hb
       have hp := (hb.block w5.heap.size (Array.getElem?_eq_some_iff.1 hp).1).trans hp
       clear hb b9 gB gC))
  clear gG H29 H29' H30 H31 H14 H32 H32b H32c k1 k2 k3 k4 U b0 z5
  have q0 := cell_of hp (k := 0) rfl
  have q1 := cell_of hp (k := 1) rfl
  have q2 := cell_of hp (k := 2) rfl
  have q3 := cell_of hp (k := 3) rfl
  have q4 := cell_of hp (k := 4) rfl
  have q5 := cell_of hp (k := 5) rfl
  have q6 := cell_of hp (k := 6) rfl
  have bx : Below w.heap.size w (w10.alloc (pcsObj 1 1 1 0 0 (.slice gad1 G1.length gcp1) (.slice none 0 0))) := b10.alloc b10.size _
  have bw : Below w10.heap.size w10 (w10.alloc (pcsObj 1 1 1 0 0 (.slice gad1 G1.length gcp1) (.slice none 0 0))) := (Below.refl _ _).alloc (Nat.le_refl _) _
  have gx := gA.keep bw
  have sx := sA.keep bw
  have fx := fA.keep bw
  clear hp bw gA sA fA
  go_upto_region 18 with (first
    | (go_at_call 14; with_reducible refine (H14'.out _ _ bx gx).mono ?_; rintro e w11 ⟨fv', rfl, fB, hb⟩
       have b11 := keep_below bx hb
       have sA := sx.keep hb
       have fA := fx.keep hb
       clear hb bx gx sx fx q0 q1 q2 q3 q4 q5 q6 b10))
  clear H14'
  obtain ⟨n, hn⟩ : ∃ n, S.length = n := ⟨_, rfl⟩
  obtain ⟨m, hm⟩ : ∃ m, F.length = m := ⟨_, rfl⟩
  obtain ⟨sa, sc, hsv⟩ := sA.shape
  obtain ⟨fa, fc, hfv⟩ := fA.shape
  have HsA := Lib.hid sA
  have HfA := Lib.hid fA
  have HfB := Lib.hid fB
  have HN := Lib.hid hn
  have HM := Lib.hid hm
  rw [hn] at hsv
  rw [hm] at hfv
  subst hsv hfv
  have ln : n ≤ 1000 := by have := HS.out; omega
  have lm : m ≤ 1000 := by have := HF.out; omega
  have Hpos1 : Hid (∀ k p, S[k]? = some p → ∃ g, sa = some ⟨g, 0, none⟩ ∧ w11.cell? ⟨g, k * 2, none⟩ = some (.int .i64 p.1) ∧ w11.cell? ⟨g, k * 2 + 1, none⟩ = some (.bool p.2)) := Lib.hid (fun k p hp => by
    have h := HsA.out
    rw [← hn] at h
    exact h.pos hp)
  have Hpos2 : Hid (∀ k p, F[k]? = some p → ∃ g, fa = some ⟨g, 0, none⟩ ∧ w11.cell? ⟨g, k * 2, none⟩ = some (.int .i64 p.1) ∧ w11.cell? ⟨g, k * 2 + 1, none⟩ = some (.bool p.2)) := Lib.hid (fun k p hp => by
    have h := HfA.out
    rw [← hm] at h
    exact h.pos hp)
  clear sA fA fB hn hm
  go_upto_region 19 with fail
  go_loopw [26] (fun i wr => ∃ k : Nat, k ≤ n ∧ i = .int .i64 k ∧ Below w11.heap.size w11 wr) (fun i _ => n - (intOf i).toNat)
  case atStart => exact ⟨0, Nat.zero_le _, rfl, Below.refl _ _⟩
  case round =>
    obtain ⟨k, hk, rfl, hbel⟩ := hrel
    by_cases hlt : k < n
    · have j1 : (k : Int) < (n : Int) := by omega
      obtain ⟨⟨s, b⟩, hp⟩ : ∃ p, S[k]? = some p := ⟨_, List.getElem?_eq_getElem (by rw [HN.out]; omega)⟩
      obtain ⟨g, rfl, x0, x1⟩ := Hpos1.out k _ hp
      have y0 := keep_cell hbel x0
      have y1 := keep_cell hbel x1
      have CA := among_at wr (HfA.out.keep hbel) HF.out s b (HSF.out _ (List.mem_of_getElem? hp))
      clear hp x0 x1
      go_wp2_with (go_at_call 34; with_reducible refine CA.mono ?_; rintro e w12 ⟨rfl, hb⟩)
      refine ⟨⟨k + 1, by omega, by simp, keep_below hbel hb⟩, by simp [intOf]; omega⟩
    · obtain rfl : k = n := by omega
      obtain ⟨w12, hw12⟩ : ∃ x, x = wr := ⟨_, rfl⟩
      subst hw12
      have b12 := keep_below b11 hbel
      have HfA2 := Lib.hid (HfA.out.keep hbel)
      have HfB2 := Lib.hid (HfB.out.keep hbel)
      have Hpos3 : Hid (∀ k p, F[k]? = some p → ∃ g, fa = some ⟨g, 0, none⟩ ∧ w12.cell? ⟨g, k * 2, none⟩ = some (.int .i64 p.1) ∧ w12.cell? ⟨g, k * 2 + 1, none⟩ = some (.bool p.2)) := Lib.hid (fun k p hp => by
        obtain ⟨g, h1, h2, h3⟩ := Hpos2.out k p hp
        exact ⟨g, h1, keep_cell hbel h2, keep_cell hbel h3⟩)
      clear Hpos2 HfA HfB hbel b11
      go_upto_region 24 with fail
      go_loopw [27] (fun i wx => ∃ k : Nat, k ≤ m ∧ i = .int .i64 k ∧ Below w12.heap.size w12 wx) (fun i _ => m - (intOf i).toNat)
      case atStart => exact ⟨0, Nat.zero_le _, rfl, Below.refl _ _⟩
      case round =>
        obtain ⟨k, hk, rfl, hbel⟩ := hrel
        by_cases hlt : k < m
        · have j1 : (k : Int) < (m : Int) := by omega
          obtain ⟨⟨s, b⟩, hp⟩ : ∃ p, F[k]? = some p := ⟨_, List.getElem?_eq_getElem (by rw [HM.out]; omega)⟩
          obtain ⟨g, rfl, x0, x1⟩ := Hpos3.out k _ hp
          have y0 := keep_cell hbel x0
          have y1 := keep_cell hbel x1
          have CA := among_at wr (HfB2.out.keep hbel) HF'.out s b (HFF.out _ (List.mem_of_getElem? hp))
          clear hp x0 x1
          go_wp2_with (go_at_call 34; with_reducible refine CA.mono ?_; rintro e w13 ⟨rfl, hb⟩)
          refine ⟨⟨k + 1, by omega, by simp, keep_below hbel hb⟩, by simp [intOf]; omega⟩
        · obtain rfl : k = m := by omega
          go_wp2
          go_ret
          exact ⟨rfl, keep_below b12 hbel⟩

theorem exactLaw_any (v0 v1 : Value) (a b : Int) (P Q : List (Int × Int)) (w : World) (h0 : SlV w v0 P) (h1 : SlV w v1 Q) :
    Calls Tryz.prog 6 #[v0, v1, .int .i64 a, .int .i64 b] w fun e w' => e = .returned (.bool true) ∧ Below w.heap.size w w' := by
  cases hc : (vOut P && (vOut Q && (!decide (a < 0) && (!decide (b < 0) && (!decide (a > 1000000) && !decide (b > 1000000))))))
  · exact exactLaw_bad v0 v1 a b P Q w h0 h1 hc
  · simp only [Bool.and_eq_true, Bool.not_eq_true', decide_eq_false_iff_not] at hc
    obtain ⟨hP, hQ, ha0, hb0, ha1, hb1⟩ := hc
    obtain ⟨h3, h24, -⟩ := vOut_n hP
    have hG := gaL_ok hP
    have hG1 := wide_ok hG (y := a) (by omega)
    have hlen : ∀ y : Int, ((gaL P).map (wG y)).length = P.length := fun y => by rw [List.length_map, gaL_len]
    have e1 : outG P = gaL P := by unfold outG; rw [if_pos hP]
    have e2 : outE P = 0 := by unfold outE; rw [if_pos hP]
    have e3 : settE P Q = 0 := by unfold settE; rw [if_pos ⟨hP, hQ⟩]
    have e4 : setsE true Q = 0 := by unfold setsE; simp [hQ]
    have wi_ok : ∀ y : Int, 0 ≤ y → y ≤ 2000000 → wi y 0 33554432 = true := fun y h1 h2 => by unfold wi; simp; omega
    have eW : ∀ (H : List G5) (y : Int), vGs H = true → 0 ≤ y → y ≤ 2000000 → widG H y = H.map (wG y) ∧ widE H y = 0 := fun H y hH h1 h2 => by
      unfold widG widE
      rw [hH, wi_ok y h1 h2]
      exact ⟨rfl, rfl⟩
    have eF : ∀ (H : List G5), vGs H = true → vP 1 1 1 0 0 H [] = true := fun H hH => vP_one hH
    refine exactLaw_walk v0 v1 a b w (gaL P) ((gaL P).map (wG a)) ((gaL P).map (wG (a + b))) (settV P Q) (setsV true (gaL P) Q) (setsV true ((gaL P).map (wG a)) Q) ?_ (setsV_len _ _ _) (setsV_len _ _ _) (by rw [hlen]; omega) ?_ ?_ ⟨by omega, by omega⟩ ⟨by omega, by omega⟩ ?_ ?_ ?_ ?_ ?_ ?_ ?_ ?_ ?_
    · have := settV_most P Q
      omega
    · rintro ⟨s, bk⟩ hp
      have hn : P.length = Q.length := by
        by_cases h : P.length = Q.length
        · exact h
        · rw [settV_same h] at hp; cases hp
      unfold settV at hp
      rw [if_pos ⟨hP, hQ, hn⟩] at hp
      obtain ⟨hs, hcg⟩ := mem_settL.1 hp
      unfold setsV
      rw [if_pos ⟨rfl, hQ, by rw [gaL_len]; exact hn⟩, List.mem_filter]
      exact ⟨by rw [← hn]; exact mem_allS.2 hs, cong_fit h3 hn hs hcg⟩
    · rintro ⟨s, bk⟩ hp
      unfold setsV at hp ⊢
      by_cases hn : P.length = Q.length
      · rw [if_pos ⟨rfl, hQ, by rw [gaL_len]; exact hn⟩, List.mem_filter] at hp
        rw [if_pos ⟨rfl, hQ, by rw [hlen]; exact hn⟩, List.mem_filter]
        exact ⟨hp.1, wide_fit hG (by rw [gaL_len]; exact hn) (mem_allS.1 hp.1) (by omega) hp.2⟩
      · rw [if_neg (fun h => hn (by rw [← h.2.2, gaL_len]))] at hp
        cases hp
    · intro W hb
      have := refOut_sl (h0.keep hb)
      rwa [hP] at this
    · intro W hb
      have := refOut_sl (h1.keep hb)
      rwa [hQ] at this
    · intro W hb
      have := gauges_sl (h0.keep hb)
      rwa [e1, e2] at this
    · intro W hb
      refine (settings_sl (h0.keep hb) (h1.keep hb)).mono ?_
      rintro e w' ⟨v, rfl, ho, hb'⟩
      rw [e3]
      exact ⟨v, rfl, setAt_own ho, hb'⟩
    · intro W vg hb hg
      have := settings14_any 1 1 1 0 0 vg (.slice none 0 0) v1 (gaL P) [] Q W hg (slm_nil W) (h1.keep hb)
      rwa [eF _ hG, e4] at this
    · intro W vg hb hg
      have := settings14_any 1 1 1 0 0 vg (.slice none 0 0) v1 ((gaL P).map (wG a)) [] Q W hg (slm_nil W) (h1.keep hb)
      rwa [eF _ hG1, e4] at this
    · intro W vg hg
      have := widen_sl hg a
      rwa [(eW _ a hG (by omega) (by omega)).1, (eW _ a hG (by omega) (by omega)).2] at this
    · intro W vg hg
      have := widen_sl hg b
      rwa [(eW _ b hG1 (by omega) (by omega)).1, (eW _ b hG1 (by omega) (by omega)).2, wide_wide (by omega) (by omega)] at this
    · intro W vg hg
      have := widen_sl hg (a + b)
      rwa [(eW _ (a + b) hG (by omega) (by omega)).1, (eW _ (a + b) hG (by omega) (by omega)).2] at this

end Go.Proofs.YtdohlggbeagedaaGreat
