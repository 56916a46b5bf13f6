/- The abstract machine, part TB. -/
import Derived.Test.YtiebbbeijlfedaaTA
/- Walks: Widen. -/
namespace Go.Proofs.Ytiebbbeijlfedaa
open Go Go.RowKit Go.Proofs Go.Abs

def wG (y : Int) (g : G5) : G5 := ⟨wLo g.a y 1, wHi g.b y, wLo g.c y 0, wHi g.d y, g.e⟩

/-- What Widen answers. -/
def WidS (G : List G5) (y : Int) (w : World) (v : Value) (E : Int) : Prop :=
  ((vGs G && wi y 0 33554432) = false ∧ v = .slice none 0 0 ∧ E = 1) ∨ ((vGs G && wi y 0 33554432) = true ∧ SlG w v (G.map (wG y)) ∧ E = 0)

theorem gz_map (G : List G5) (f : G5 → G5) {k : Nat} (h : k < G.length) : gz (G.map f) k = f (gz G k) := by
  unfold gz
  simp [List.getD_eq_getElem?_getD, h]

/-- The first k gauges are widened. -/
def Gk (G : List G5) (y : Int) (k i : Nat) : G5 := if i < k then wG y (gz G i) else gz G i

theorem vGs_ok {G : List G5} (h : vGs G = true) : 3 ≤ G.length ∧ G.length ≤ 24 ∧ ∀ k, k < G.length → (0 ≤ (gz G k).a ∧ (gz G k).a ≤ 33554432) ∧ (0 ≤ (gz G k).b ∧ (gz G k).b ≤ 33554432) ∧ (0 ≤ (gz G k).c ∧ (gz G k).c ≤ 33554432) ∧ (0 ≤ (gz G k).d ∧ (gz G k).d ≤ 33554432) := by
  unfold vGs at h
  rw [Bool.and_eq_true] at h
  obtain ⟨h1, h2⟩ := h
  unfold wi at h1
  simp at h1
  refine ⟨by omega, by omega, fun k hk => ?_⟩
  have h3 : badG G = false := by simpa using h2
  unfold badG at h3
  rw [List.any_eq_false] at h3
  have h4 := h3 k (List.mem_range.2 hk)
  simp only [Bool.not_eq_true, Bool.not_eq_false'] at h4
  unfold G5.ok vG at h4
  simp only [Bool.and_eq_true, decide_eq_true_eq] at h4
  omega

theorem slg_box {w : World} {g n cap : Nat} {cur : Array Value} {G : List G5} (hb : BoxS 67 w g (.agg cur)) (hn : G.length = n) (hl : n ≤ 1000000) (hc : ∀ j, j < n * 5 → cur[j]? = some (cG (gz G) j)) : SlG w (.slice (some ⟨g, 0, none⟩) n cap) G := by
  subst hn
  refine ⟨_, cap, rfl, by omega, fun k hk => ⟨g, 0, rfl, ?_, ?_, ?_, ?_, ?_⟩⟩
  · rw [Nat.zero_add]; exact hb.cell (by rw [hc _ (by omega), cG_0])
  · rw [Nat.zero_add]; exact hb.cell (by rw [hc _ (by omega), cG_1])
  · rw [Nat.zero_add]; exact hb.cell (by rw [hc _ (by omega), cG_2])
  · rw [Nat.zero_add]; exact hb.cell (by rw [hc _ (by omega), cG_3])
  · rw [Nat.zero_add]; exact hb.cell (by rw [hc _ (by omega), cG_4])

theorem own_box {w : World} {base g n cap : Nat} {G : Nat → G5} (h : w.ownsRow base 67 5 (.slice (some ⟨g, 0, none⟩) n cap) n (rowG G n)) : ∃ cur, BoxS 67 w g (.agg cur) ∧ ∀ j, j < n * 5 → cur[j]? = some (cG G j) := by
  have hc := fun j (hj : j < n * 5) => (h.cellAt j hj).trans (rowG_get G hj)
  rcases h.2 with ⟨h, -⟩ | ⟨g', cap2, cur, h, -, h2, -⟩
  · cases h
  · simp only [Value.slice.injEq, Option.some.injEq, Addr.mk.injEq] at h
    obtain ⟨⟨rfl, -⟩, -, -⟩ := h
    refine ⟨cur, ⟨cur, rfl, h2⟩, fun j hj => ?_⟩
    have := hc j hj
    simpa [World.cell?, h2] using this

theorem cG_congr {G G' : Nat → G5} {j : Nat} (h : G (j / 5) = G' (j / 5)) : cG G j = cG G' j := by
  unfold cG
  rw [h]

/-- One more gauge is widened. -/
theorem Gk_step {G : List G5} {y : Int} {n k : Nat} {cur : Array Value} (_hk : k < n) (hc : ∀ j, j < n * 5 → cur[j]? = some (cG (Gk G y k) j)) :
    ∀ j, j < n * 5 → ((((cur.setIfInBounds (k * 5) (.int .i64 (wLo (gz G k).a y 1))).setIfInBounds (k * 5 + 1) (.int .i64 (wHi (gz G k).b y))).setIfInBounds (k * 5 + 2) (.int .i64 (wLo (gz G k).c y 0))).setIfInBounds (k * 5 + 3) (.int .i64 (wHi (gz G k).d y)))[j]? = some (cG (Gk G y (k + 1)) j) := by
  have hs : ∀ j, j < n * 5 → j < cur.size := fun j hj => (Array.getElem?_eq_some_iff.1 (hc j hj)).1
  have hG : Gk G y (k + 1) k = wG y (gz G k) := by unfold Gk; rw [if_pos (by omega)]
  have hG0 : Gk G y k k = gz G k := by unfold Gk; rw [if_neg (by omega)]
  intro j hj
  by_cases hjk : j / 5 = k
  · rcases (show j = k * 5 ∨ j = k * 5 + 1 ∨ j = k * 5 + 2 ∨ j = k * 5 + 3 ∨ j = k * 5 + 4 by omega) with rfl | rfl | rfl | rfl | rfl
    · rw [Array.getElem?_setIfInBounds_ne (by omega), Array.getElem?_setIfInBounds_ne (by omega), Array.getElem?_setIfInBounds_ne (by omega), Array.getElem?_setIfInBounds_self_of_lt (hs _ hj), cG_0, hG]; rfl
    · rw [Array.getElem?_setIfInBounds_ne (by omega), Array.getElem?_setIfInBounds_ne (by omega), Array.getElem?_setIfInBounds_self_of_lt (by simpa using hs _ hj), cG_1, hG]; rfl
    · rw [Array.getElem?_setIfInBounds_ne (by omega), Array.getElem?_setIfInBounds_self_of_lt (by simpa using hs _ hj), cG_2, hG]; rfl
    · rw [Array.getElem?_setIfInBounds_self_of_lt (by simpa using hs _ hj), cG_3, hG]; rfl
    · rw [Array.getElem?_setIfInBounds_ne (by omega), Array.getElem?_setIfInBounds_ne (by omega), Array.getElem?_setIfInBounds_ne (by omega), Array.getElem?_setIfInBounds_ne (by omega), hc _ hj, cG_4, cG_4, hG, hG0]; rfl
  · rw [Array.getElem?_setIfInBounds_ne (by omega), Array.getElem?_setIfInBounds_ne (by omega), Array.getElem?_setIfInBounds_ne (by omega), Array.getElem?_setIfInBounds_ne (by omega), hc _ hj]
    have : Gk G y (k + 1) (j / 5) = Gk G y k (j / 5) := by
      unfold Gk
      by_cases h : j / 5 < k
      · rw [if_pos h, if_pos (by omega)]
      · rw [if_neg h, if_neg (by omega)]
    unfold cG
    rw [this]

theorem widen_bad (v : Value) (G : List G5) (y : Int) (w : World) (h : SlG w v G) (hg : (vGs G && wi y 0 33554432) = false) :
    Calls Try.prog 17 #[v, .int .i64 y] w fun e w' => e = .returned (.tuple #[.slice none 0 0, .int .i64 1]) ∧ Below w.heap.size w w' := by
  have C1 := validGauges_any v G w h
  have C2 := fun w => within_any y 0 33554432 w
  cases hv : vGs G
  · rw [hv] at C1
    clear h hg hv C2
    go_enter Try.func17, Try.ntmps17
    go_wp2_with fail
    refine C1.mono ?_
    rintro e w1 ⟨rfl, hb⟩
    go_wp2
    go_ret2
    exact ⟨rfl, hb⟩
  · rw [hv] at C1
    have hy : wi y 0 33554432 = false := by simpa [hv] using hg
    rw [hy] at C2
    clear h hg hv hy
    go_enter Try.func17, Try.ntmps17
    go_wp2_with fail
    refine C1.mono ?_
    rintro e w1 ⟨rfl, hb⟩
    go_wp2_with fail
    refine (C2 _).mono ?_
    rintro e w2 ⟨rfl, rfl⟩
    go_wp2
    go_ret2
    exact ⟨rfl, hb⟩

set_option maxRecDepth 100000 in
set_option maxHeartbeats 8000000 in
theorem widen_good (v : Value) (G : List G5) (y : Int) (w : World) (h : SlG w v G) (hv : vGs G = true) (hy : wi y 0 33554432 = true) :
    Calls Try.prog 17 #[v, .int .i64 y] w fun e w' => ∃ v', e = .returned (.tuple #[v', .int .i64 0]) ∧ SlG w' v' (G.map (wG y)) ∧ Below w.heap.size w w' := by
  have C1 := validGauges_any v G w h
  have C2 := fun w => within_any y 0 33554432 w
  rw [hv] at C1
  rw [hy] at C2
  obtain ⟨h3, h24, hok⟩ := vGs_ok hv
  have hy' : 0 ≤ y ∧ y ≤ 33554432 := by unfold wi at hy; simpa using hy
  obtain ⟨b, off, cap, rfl, hc⟩ := h.cell (by omega)
  have hblt : b < w.heap.size := lt_of_cell (hc 0 (by omega))
  have C3 := fun w' (hb : Below w.heap.size w w') => cloneG_any b off G.length cap (gz G) (by omega) (by omega) w' (fun j hj => keep_cell hb (hc j hj))
  have STEP := Lib.hid (fun (n : Nat) (hn : G.length = n) (k : Nat) (hk : k < n) (cur : Array Value) => Gk_step (G := G) (y := y) (n := n) (k := k) (cur := cur) hk)
  have DONE := Lib.hid (fun (n : Nat) (hn : G.length = n) (w' : World) (g cap' : Nat) (cur : Array Value) (hb : BoxS 67 w' g (.agg cur)) (hcur : ∀ j, j < n * 5 → cur[j]? = some (cG (Gk G y n) j)) =>
    slg_box (cap := cap') (n := n) (G := G.map (wG y)) hb (by simpa using hn) (by omega) (fun j hj => (hcur j hj).trans (congrArg some (cG_congr (by rw [gz_map G (wG y) (show j / 5 < G.length by omega)]; unfold Gk; rw [if_pos (by omega)])))))
  have HC := Lib.hid (fun (n : Nat) (hn : G.length = n) (k : Nat) (hk : k < n) => (show (w.cell? ⟨b, off + k * 5, none⟩ = some (.int .i64 (gz G k).a) ∧ w.cell? ⟨b, off + k * 5 + 1, none⟩ = some (.int .i64 (gz G k).b) ∧ w.cell? ⟨b, off + k * 5 + 2, none⟩ = some (.int .i64 (gz G k).c) ∧ w.cell? ⟨b, off + k * 5 + 3, none⟩ = some (.int .i64 (gz G k).d)) from
    ⟨by rw [hc _ (by omega), cG_0], by rw [Nat.add_assoc, hc _ (by omega), cG_1], by rw [Nat.add_assoc, hc _ (by omega), cG_2], by rw [Nat.add_assoc, hc _ (by omega), cG_3]⟩))
  have OK := Lib.hid hok
  have S0 := Lib.hid (show ∀ j, cG (gz G) j = cG (Gk G y 0) j from fun j => rfl)
  clear h hv hy hc hok
  obtain ⟨n, hn⟩ : ∃ n, G.length = n := ⟨_, rfl⟩
  rw [hn] at OK h3 h24 C1 C3 ⊢
  replace STEP := Lib.hid (STEP.out n hn)
  replace DONE := Lib.hid (DONE.out n hn)
  replace HC := Lib.hid (HC.out n hn)
  clear hn
  go_enter Try.func17, Try.ntmps17
  go_wp2_with fail
  refine C1.mono ?_
  rintro e w1 ⟨rfl, hb1⟩
  go_wp2_with fail
  refine (C2 _).mono ?_
  rintro e w2 ⟨rfl, rfl⟩
  go_wp2_with fail
  refine (C3 _ hb1).mono ?_
  rintro e w2 ⟨r, rfl, own2, hb2⟩
  have b2 := keep_below hb1 hb2
  obtain ⟨g, cap', hr⟩ : ∃ g cap', r = .slice (some ⟨g, 0, none⟩) n cap' := by
    rcases own2.2 with ⟨-, h⟩ | ⟨g, cap', cur, h, -⟩
    · omega
    · exact ⟨g, cap', h⟩
  subst hr
  have hgw : w.heap.size ≤ g := Nat.le_trans hb1.size (own2.lt g rfl).1
  obtain ⟨cur0, bx0, hcur0⟩ := own_box own2
  clear own2 hb2 hb1 C1 C2 C3
  have hne : b ≠ g := by omega
  go_wp2_with fail
  go_loopw [20] (fun i wr => ∃ k : Nat, k ≤ n ∧ i = .int .i64 k ∧ (∃ cur, BoxS 67 wr g (.agg cur) ∧ ∀ j, j < n * 5 → cur[j]? = some (cG (Gk G y k) j)) ∧ Below w.heap.size w wr) (fun i _ => n - (intOf i).toNat)
  case atStart => exact ⟨0, Nat.zero_le _, rfl, ⟨cur0, bx0, hcur0⟩, b2⟩
  case round =>
    clear bx0 hcur0 b2 w2 cur0
    obtain ⟨k, hk, rfl, ⟨cur, bx, hcur⟩, hbel⟩ := hrel
    by_cases hlt : k < n
    · have j1 : (k : Int) < (n : Int) := by omega
      obtain ⟨p0, p1, p2, p3⟩ := HC.out k hlt
      replace p0 := keep_cell hbel p0
      replace p1 := keep_cell hbel p1
      replace p2 := keep_cell hbel p2
      replace p3 := keep_cell hbel p3
      obtain ⟨q0, q1, q2, q3⟩ := OK.out k hlt
      have D1 := fun w => wider_any (gz G k).a (gz G k).b y 1 q0 q1 hy' w
      have D2 := fun w => wider_any (gz G k).c (gz G k).d y 0 q2 q3 hy' w
      have ST := Lib.hid (STEP.out k hlt cur hcur)
      have hcs : k * 5 + 3 < cur.size := (Array.getElem?_eq_some_iff.1 (hcur (k * 5 + 3) (by omega))).1
      generalize wLo (gz G k).a y 1 = A at D1 ST
      generalize wHi (gz G k).b y = B at D1 ST
      generalize wLo (gz G k).c y 0 = C at D2 ST
      generalize wHi (gz G k).d y = D at D2 ST
      generalize (gz G k).a = x0 at p0 D1
      generalize (gz G k).b = x1 at p1 D1
      generalize (gz G k).c = x2 at p2 D2
      generalize (gz G k).d = x3 at p3 D2
      clear q0 q1 q2 q3 hcur
      have hpl := lt_of_cell p0
      go_wp2_with fail
      refine (D1 _).mono ?_
      rintro e w3 ⟨rfl, hb3⟩
      replace p2 := keep_cell hb3 p2
      replace p3 := keep_cell hb3 p3
      have bx3 := bx.keep hb3
      have bel3 := keep_below hbel hb3
      clear D1 p0 p1 hb3 bx hbel
      have c0 := bx3.cell (o := k * 5) (Array.getElem?_eq_getElem (by omega))
      have c1 := bx3.cell (o := k * 5 + 1) (Array.getElem?_eq_getElem (by omega))
      have f0 := bx3.frozen (k * 5)
      have f1 := bx3.frozen (k * 5 + 1)
      have bx4 := (bx3.set (k * 5) (.int .i64 A)).set (k * 5 + 1) (.int .i64 B)
      have bel4 := (bel3.setCell (p := ⟨g, k * 5, none⟩) hgw (.int .i64 A)).setCell (p := ⟨g, k * 5 + 1, none⟩) hgw (.int .i64 B)
      have p24 := set_cell (q := ⟨g, k * 5 + 1, none⟩) (v := .int .i64 B) (by simp) (set_cell (q := ⟨g, k * 5, none⟩) (v := .int .i64 A) (by simp) p2)
      have p34 := set_cell (q := ⟨g, k * 5 + 1, none⟩) (v := .int .i64 B) (by simp) (set_cell (q := ⟨g, k * 5, none⟩) (v := .int .i64 A) (by simp) p3)
      go_wp2_with fail
      clear p24 p34 p2 p3 c0 c1 f0 f1
      generalize (w3.setCell ⟨g, k * 5, none⟩ (.int .i64 A)).setCell ⟨g, k * 5 + 1, none⟩ (.int .i64 B) = X4 at bx4 bel4 ⊢
      refine (D2 _).mono ?_
      rintro e w5 ⟨rfl, hb5⟩
      have bx5 := bx4.keep hb5
      have bel5 := keep_below bel4 hb5
      clear D2 hb5 bx4 bel4 bx3 bel3 X4 w3
      have c2 := bx5.cell (o := k * 5 + 2) (Array.getElem?_eq_getElem (by simp; omega))
      have c3 := bx5.cell (o := k * 5 + 3) (Array.getElem?_eq_getElem (by simp; omega))
      have f2 := bx5.frozen (k * 5 + 2)
      have f3 := bx5.frozen (k * 5 + 3)
      have bx6 := (bx5.set (k * 5 + 2) (.int .i64 C)).set (k * 5 + 3) (.int .i64 D)
      have bel6 := (bel5.setCell (p := ⟨g, k * 5 + 2, none⟩) hgw (.int .i64 C)).setCell (p := ⟨g, k * 5 + 3, none⟩) hgw (.int .i64 D)
      go_wp2_with fail
      exact ⟨⟨k + 1, by omega, by simp, ⟨_, bx6, ST.out⟩, bel6⟩, by simp [intOf]; omega⟩
    · obtain rfl : k = n := by omega
      go_wp2
      go_ret2
      exact ⟨_, rfl, DONE.out _ _ _ _ bx hcur, hbel⟩

end Go.Proofs.Ytiebbbeijlfedaa

/- Walks: the reference's Widen. -/
namespace Go.Proofs.Ytiebbbeijlfedaa
open Go Go.RowKit Go.Proofs Go.Abs

theorem rowG_succ (F : Nat → G5) (k : Nat) : rowG F (k + 1) = rowG F k ++ [.int .i64 (F k).a, .int .i64 (F k).b, .int .i64 (F k).c, .int .i64 (F k).d, .int .i64 (F k).e] := by
  unfold rowG
  rw [show (k + 1) * 5 = k * 5 + 1 + 1 + 1 + 1 + 1 by omega, List.range_succ, List.range_succ, List.range_succ, List.range_succ, List.range_succ]
  simp only [List.map_append, List.map_cons, List.map_nil, List.append_assoc, List.cons_append, List.nil_append]
  rw [show k * 5 + 1 + 1 = k * 5 + 2 by omega, show k * 5 + 2 + 1 = k * 5 + 3 by omega, show k * 5 + 3 + 1 = k * 5 + 4 by omega, cG_0, cG_1, cG_2, cG_3, cG_4]

theorem own_cast {w : World} {base n : Nat} {v : Value} {xs : List Value} {a b c d e a' b' c' d' e' : Int} (h : w.ownsRow base 67 5 v n (xs ++ [.int .i64 a, .int .i64 b, .int .i64 c, .int .i64 d, .int .i64 e])) (h1 : a = a') (h2 : b = b') (h3 : c = c') (h4 : d = d') (h5 : e = e') :
    w.ownsRow base 67 5 v n (xs ++ [.int .i64 a', .int .i64 b', .int .i64 c', .int .i64 d', .int .i64 e']) := by
  subst h1 h2 h3 h4 h5
  exact h

theorem own_slg {w : World} {base n : Nat} {v : Value} {F : Nat → G5} {G : List G5} (h : w.ownsRow base 67 5 v n (rowG F n)) (hn : G.length = n) (h0 : 0 < n) (hl : n ≤ 1000000) (hF : ∀ i, i < n → F i = gz G i) : SlG w v G := by
  obtain ⟨g, cap, rfl⟩ : ∃ g cap, v = .slice (some ⟨g, 0, none⟩) n cap := by
    rcases h.2 with ⟨-, h⟩ | ⟨g, cap', cur, h, -⟩
    · omega
    · exact ⟨g, cap', h⟩
  obtain ⟨cur, bx, hcur⟩ := own_box h
  exact slg_box bx hn hl (fun j hj => (hcur j hj).trans (congrArg some (cG_congr (hF _ (by omega)))))

theorem refWiden_bad (v : Value) (G : List G5) (y : Int) (w : World) (h : SlG w v G) (hg : (vGs G && wi y 0 33554432) = false) :
    Calls Try.prog 18 #[v, .int .i64 y] w fun e w' => e = .returned (.tuple #[.slice none 0 0, .int .i64 1]) ∧ Below w.heap.size w w' := by
  have C1 := refGauges_any v G w h
  have C2 := fun w => refWithin_any y 0 33554432 w
  cases hv : vGs G
  · rw [hv] at C1
    clear h hg hv C2
    go_enter Try.func18, Try.ntmps18
    go_wp2_with fail
    refine C1.mono ?_
    rintro e w1 ⟨rfl, hb⟩
    go_wp2
    go_ret2
    exact ⟨rfl, hb⟩
  · rw [hv] at C1
    have hy : wi y 0 33554432 = false := by simpa [hv] using hg
    rw [hy] at C2
    clear h hg hv hy
    go_enter Try.func18, Try.ntmps18
    go_wp2_with fail
    refine C1.mono ?_
    rintro e w1 ⟨rfl, hb⟩
    go_wp2_with fail
    refine (C2 _).mono ?_
    rintro e w2 ⟨rfl, rfl⟩
    go_wp2
    go_ret2
    exact ⟨rfl, hb⟩

set_option maxRecDepth 100000 in
set_option maxHeartbeats 8000000 in
theorem refWiden_good (v : Value) (G : List G5) (y : Int) (w : World) (h : SlG w v G) (hv : vGs G = true) (hy : wi y 0 33554432 = true) :
    Calls Try.prog 18 #[v, .int .i64 y] w fun e w' => ∃ v', e = .returned (.tuple #[v', .int .i64 0]) ∧ SlG w' v' (G.map (wG y)) ∧ Below w.heap.size w w' := by
  obtain ⟨i0, hi, hz0, hz1, hz2⟩ := info_parts info67
  have C1 := refGauges_any v G w h
  have C2 := fun w => refWithin_any y 0 33554432 w
  rw [hv] at C1
  rw [hy] at C2
  obtain ⟨h3, h24, hok⟩ := vGs_ok hv
  have hy' : 0 ≤ y ∧ y ≤ 33554432 := by unfold wi at hy; simpa using hy
  obtain ⟨b, off, cap, rfl, hc⟩ := h.cell (by omega)
  have DONE := Lib.hid (fun (n : Nat) (hn : G.length = n) (w' : World) (v' : Value) (ho : w'.ownsRow w.heap.size 67 5 v' n (rowG (fun i => wG y (gz G i)) n)) =>
    own_slg (G := G.map (wG y)) ho (by simpa using hn) (by omega) (by omega) (fun i hi => (gz_map G (wG y) (by omega)).symm))
  have HC := Lib.hid (fun (n : Nat) (hn : G.length = n) (k : Nat) (hk : k < n) => (show (w.cell? ⟨b, off + k * 5, none⟩ = some (.int .i64 (gz G k).a) ∧ w.cell? ⟨b, off + k * 5 + 1, none⟩ = some (.int .i64 (gz G k).b) ∧ w.cell? ⟨b, off + k * 5 + 2, none⟩ = some (.int .i64 (gz G k).c) ∧ w.cell? ⟨b, off + k * 5 + 3, none⟩ = some (.int .i64 (gz G k).d) ∧ w.cell? ⟨b, off + k * 5 + 4, none⟩ = some (.int .i64 (gz G k).e)) from
    ⟨by rw [hc _ (by omega), cG_0], by rw [Nat.add_assoc, hc _ (by omega), cG_1], by rw [Nat.add_assoc, hc _ (by omega), cG_2], by rw [Nat.add_assoc, hc _ (by omega), cG_3], by rw [Nat.add_assoc, hc _ (by omega), cG_4]⟩))
  have OK := Lib.hid hok
  have RS := Lib.hid (fun k => rowG_succ (fun i => wG y (gz G i)) k)
  have RN : rowG (fun i => wG y (gz G i)) 0 = [] := rfl
  clear h hv hy hc hok
  obtain ⟨n, hn⟩ : ∃ n, G.length = n := ⟨_, rfl⟩
  rw [hn] at OK h3 h24 C1 ⊢
  replace DONE := Lib.hid (DONE.out n hn)
  replace HC := Lib.hid (HC.out n hn)
  clear hn
  go_enter Try.func18, Try.ntmps18
  go_wp2_with fail
  refine C1.mono ?_
  rintro e w1 ⟨rfl, hb1⟩
  go_wp2_with fail
  refine (C2 _).mono ?_
  rintro e w2 ⟨rfl, rfl⟩
  clear C1 C2
  go_wp2_with fail
  go_loopw [6, 7] (fun u i wr => ∃ k : Nat, k ≤ n ∧ i = .int .i64 k ∧ wr.ownsRow w.heap.size 67 5 u k (rowG (fun i => wG y (gz G i)) k) ∧ Below w.heap.size w wr) (fun _ i _ => n - (intOf i).toNat)
  case atStart => exact ⟨0, Nat.zero_le _, rfl, by rw [RN]; exact World.ownsRow_nil _ _ _ _, hb1⟩
  case round =>
    obtain ⟨k, hk, rfl, hown, hbel⟩ := hrel
    by_cases hlt : k < n
    · have j1 : (k : Int) < (n : Int) := by omega
      obtain ⟨p0, p1, p2, p3, p4⟩ := HC.out k hlt
      replace p0 := keep_cell hbel p0
      replace p1 := keep_cell hbel p1
      replace p2 := keep_cell hbel p2
      replace p3 := keep_cell hbel p3
      replace p4 := keep_cell hbel p4
      obtain ⟨q0, q1, q2, q3⟩ := OK.out k hlt
      have R := RS.out k
      have hb2 := hbel.size
      clear RN
      have hxs : ∃ xs, rowG (fun i => wG y (gz G i)) k = xs := ⟨_, rfl⟩
      obtain ⟨xs, hxs⟩ := hxs
      rw [hxs] at hown R
      have HR := Lib.hid R
      clear R hxs HC DONE OK RS
      change Hid (_ = xs ++ [.int .i64 (wLo (gz G k).a y 1), .int .i64 (wHi (gz G k).b y), .int .i64 (wLo (gz G k).c y 0), .int .i64 (wHi (gz G k).d y), .int .i64 (gz G k).e]) at HR
      generalize (gz G k).a = x0 at *
      generalize (gz G k).b = x1 at *
      generalize (gz G k).c = x2 at *
      generalize (gz G k).d = x3 at *
      generalize (gz G k).e = x4 at *
      have U1 : IntKind.i64.wrap (x0 - y) = x0 - y := wi64 _ (by omega)
      have U2 : IntKind.i64.wrap (x1 + y) = x1 + y := wi64 _ (by omega)
      have U3 : IntKind.i64.wrap (x2 - y) = x2 - y := wi64 _ (by omega)
      have U4 : IntKind.i64.wrap (x3 + y) = x3 + y := wi64 _ (by omega)
      go_wp2_with (at_builtin; go_loud (refine wpList_append_own _ rfl _ _ 22 rfl w.heap.size 67 i0 (gg 0 0 0 0 0) 5 40 Try.underlying22 hi hz0 hz1 hz2 rfl (by decide) _ _ _ rfl ((hown.alloc _).alloc _) _ 1 1 [.int .i64 _, .int .i64 _, .int .i64 _, .int .i64 _, .int .i64 _] rfl rfl (five_at _ _ (by simp) _ _ _ _ _) (five_cells _ _ _ _ _) (by unfold maxLen; omega) (by omega) (by simp; omega) ?_; intro v1 w4 hown4 hgrow4 hnil4))
      have b4 := Below.grown (row := u6.ownBlock) ((hbel.alloc hb2 _).alloc (by simp; omega) _) hgrow4 (by simp; omega) (fun j hj => (hown.lt j hj).1)
      refine ⟨⟨k + 1, by omega, by simp, ?_, b4⟩, by simp [intOf]; omega⟩
      rw [HR.out]
      refine own_cast hown4 ?_ ?_ ?_ ?_ rfl
      · unfold wLo; split <;> omega
      · unfold wHi; split <;> omega
      · unfold wLo; split <;> omega
      · unfold wHi; split <;> omega
    · obtain rfl : k = n := by omega
      go_wp2
      go_ret2
      exact ⟨_, rfl, DONE.out _ _ hown, hbel⟩

end Go.Proofs.Ytiebbbeijlfedaa

/- Walks: SameGauges of equal lists. -/
namespace Go.Proofs.Ytiebbbeijlfedaa
open Go Go.RowKit Go.Proofs Go.Abs

theorem SlG.shape {w : World} {v : Value} {G : List G5} (h : SlG w v G) : ∃ a cap, v = .slice a G.length cap := by
  obtain ⟨a, cap, rfl, _⟩ := h
  exact ⟨a, cap, rfl⟩

theorem SlG.at {w : World} {a : Option Addr} {cap : Nat} {G : List G5} (h : SlG w (.slice a G.length cap) G) {k : Nat} (hk : k < G.length) :
    ∃ b off, a = some ⟨b, off, none⟩ ∧ w.cell? ⟨b, off + k * 5, none⟩ = some (.int .i64 (gz G k).a) ∧ w.cell? ⟨b, off + k * 5 + 1, none⟩ = some (.int .i64 (gz G k).b) ∧ w.cell? ⟨b, off + k * 5 + 2, none⟩ = some (.int .i64 (gz G k).c) ∧
    w.cell? ⟨b, off + k * 5 + 3, none⟩ = some (.int .i64 (gz G k).d) ∧ w.cell? ⟨b, off + k * 5 + 4, none⟩ = some (.int .i64 (gz G k).e) := by
  obtain ⟨a', cap', e, -, hc⟩ := h
  simp only [Value.slice.injEq] at e
  obtain ⟨rfl, -, rfl⟩ := e
  exact hc k hk

theorem run_gg_neq (a b c d e : Int) (w : World) : (binOp .neq 67 (gg a b c d e) (gg a b c d e)).run Try.prog w = .ok (.bool false) w := by
  go_simp

set_option maxRecDepth 100000 in
set_option maxHeartbeats 2000000 in
theorem sameGauges_any {G : List G5} {v1 v2 : Value} (w : World) (h1 : SlG w v1 G) (h2 : SlG w v2 G) (hl : G.length ≤ 1000) :
    Calls Try.prog 19 #[v1, v2] w fun e w' => e = .returned (.bool true) ∧ Below w.heap.size w w' := by
  obtain ⟨a1, c1, rfl⟩ := h1.shape
  obtain ⟨a2, c2, rfl⟩ := h2.shape
  have H1 := Lib.hid h1
  have H2 := Lib.hid h2
  clear h1 h2
  go_enter Try.func19, Try.ntmps19
  go_wp2_with fail
  go_loopw [5] (fun i wr => ∃ k : Nat, k ≤ G.length ∧ i = .int .i64 k ∧ Below w.heap.size w wr) (fun i _ => G.length - (intOf i).toNat)
  case atStart => exact ⟨0, Nat.zero_le _, rfl, Below.refl _ _⟩
  case round =>
    obtain ⟨k, hk, rfl, hbel⟩ := hrel
    by_cases hlt : k < G.length
    · have j1 : (k : Int) < (G.length : Int) := by omega
      obtain ⟨b1, o1, rfl, x0, x1, x2, x3, x4⟩ := (H1.out.keep hbel).at hlt
      obtain ⟨b2, o2, rfl, y0, y1, y2, y3, y4⟩ := (H2.out.keep hbel).at hlt
      have hq := run_gg_neq
      generalize (gz G k).a = a at x0 y0
      generalize (gz G k).b = b at x1 y1
      generalize (gz G k).c = c at x2 y2
      generalize (gz G k).d = d at x3 y3
      generalize (gz G k).e = e at x4 y4
      go_wp2_with fail
      have G0 := grow_cell x0
      have G1 := grow_cell x1
      have G2 := grow_cell x2
      have G3 := grow_cell x3
      have G4 := grow_cell x4
      have G5 := grow_cell y0
      have G6 := grow_cell y1
      have G7 := grow_cell y2
      have G8 := grow_cell y3
      have G9 := grow_cell y4
      refine wp_region_grow (by kernel_rfl) (by kernel_rfl) ?_
      repeat (go_big_quiet_step (fail))
      refine wpQuiet_nil ?_
      rintro w4 ⟨z, hz⟩
      have hb : Below wr.heap.size wr w4 := by rw [hz]; exact z.b
      clear hz z G0 G1 G2 G3 G4 G5 G6 G7 G8 G9 x0 x1 x2 x3 x4 y0 y1 y2 y3 y4 hq
      have bel4 := keep_below hbel hb
      clear hb
      go_wp2
      exact ⟨⟨k + 1, by omega, by simp, bel4⟩, by simp [intOf]; omega⟩
    · obtain rfl : k = G.length := by omega
      go_wp2
      go_ret
      exact ⟨rfl, hbel⟩

end Go.Proofs.Ytiebbbeijlfedaa
