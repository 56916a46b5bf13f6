/- The abstract machine, part LK. -/
import Derived.Test.YtcfapbccegijnaaGreatLJ
import Derived.ArgAppend
/- Walks: the reference's measures and Gauges. -/
namespace Go.Proofs.YtcfapbccegijnaaGreat
open Go Go.RowKit Go.Proofs Go.Abs

set_option maxRecDepth 100000 in
set_option maxHeartbeats 1000000 in
theorem at88_any (b off len cap : Nat) (xs ys : Nat → Int) (hlen : len ≤ 1000000) (hpos : 0 < len) (i : Int) (w : World)
    (hc : ∀ k, k < len → w.cell? ⟨b, off + k * 2, none⟩ = some (.int .i64 (xs k)) ∧ w.cell? ⟨b, off + k * 2 + 1, none⟩ = some (.int .i64 (ys k))) :
    Calls Tryz.prog 146 #[.slice (some ⟨b, off, none⟩) len cap, .int .i64 i] w fun e w' => e = .returned (pt (xs (atN len i)) (ys (atN len i))) ∧ Below w.heap.size w w' := by
  have T0 := at_tmod (n := len) (i := i) hpos
  have L0 := atN_lt (n := len) (i := i) hpos
  obtain ⟨q, hq⟩ : ∃ q, atN len i = q := ⟨_, rfl⟩
  rw [hq] at T0 L0 ⊢
  have h3 := Int.lt_tmod_of_pos i (show (0 : Int) < len by omega)
  have h4 := Int.tmod_lt_of_pos i (show (0 : Int) < len by omega)
  obtain ⟨r, hr⟩ : ∃ r, i.tmod len = r := ⟨_, rfl⟩
  rw [hr] at T0 h3 h4
  have T1 : (r + len) % (len : Int) = q := by rw [← T0, Int.tmod_eq_emod_of_nonneg (by omega)]
  have j1 : (q : Int) < (len : Int) := by omega
  have a0 := keep_cell2 ((Below.refl w.heap.size w).alloc (Nat.le_refl _) (ptObj 0 0)) (hc q L0).1
  have a1 := keep_cell2 ((Below.refl w.heap.size w).alloc (Nat.le_refl _) (ptObj 0 0)) (hc q L0).2
  have hl0 : ¬ len = 0 := by omega
  clear hq hc
  go_enter Tryz.func146, Tryz.ntmps146
  go_wp2
  refine bodyPost_ret (v := pt (xs q) (ys q)) ?_ rfl ⟨rfl, (Below.refl _ _).alloc (Nat.le_refl _) _⟩
  have n1 := pt_new w (xs q) (ys q)
  simp [results, go_sem, n1.1, n1.2]

theorem at88_from {b off len cap : Nat} {xs ys : Nat → Int} (hlen : len ≤ 1000000) {w0 : World}
    (hc : Hid (∀ k, k < len → w0.cell? ⟨b, off + k * 2, none⟩ = some (.int .i64 (xs k)) ∧ w0.cell? ⟨b, off + k * 2 + 1, none⟩ = some (.int .i64 (ys k))))
    (i : Int) (q : Nat) (x y : Int) (hq : Hid (0 < len ∧ atN len i = q ∧ xs q = x ∧ ys q = y)) (w : World) (hb : Below w0.heap.size w0 w) :
    Calls Tryz.prog 146 #[.slice (some ⟨b, off, none⟩) len cap, .int .i64 i] w fun e w' => e = .returned (pt x y) ∧ Below w.heap.size w w' := by
  obtain ⟨h0, rfl, rfl, rfl⟩ := hq.out
  exact at88_any b off len cap xs ys hlen h0 i w (fun k hk => ⟨keep_cell2 hb (hc.out k hk).1, keep_cell2 hb (hc.out k hk).2⟩)

theorem atN_two {len k : Nat} : atN len ((k : Int) + 2) = (k + 2) % len := by
  unfold atN
  have : ((k : Int) + 2) % (len : Int) = ((k + 2) % len : Nat) := by rw [Int.natCast_emod]; congr 1
  rw [this, Int.toNat_natCast]

theorem mod_back {k len : Nat} (h : k < len) (_h3 : 3 ≤ len) : ((k + 1) % len + len - 1) % len = k := by
  rcases Nat.lt_or_ge (k + 1) len with h1 | h1
  · rw [Nat.mod_eq_of_lt h1, show k + 1 + len - 1 = k + len by omega, Nat.add_mod_right, Nat.mod_eq_of_lt h]
  · have : k + 1 = len := by omega
    rw [this, Nat.mod_self, show 0 + len - 1 = k by omega, Nat.mod_eq_of_lt h]

theorem mod_forth {k len : Nat} (h : k < len) (_h3 : 3 ≤ len) : ((k + 1) % len + 1) % len = (k + 2) % len := by
  rcases Nat.lt_or_ge (k + 1) len with h1 | h1
  · rw [Nat.mod_eq_of_lt h1]
  · have : k + 1 = len := by omega
    rw [this, Nat.mod_self, show k + 2 = 1 + len by omega, Nat.add_mod_right]

theorem m3_eq {L : List (Int × Int)} {x : Nat} (h : x < L.length) (h3 : 3 ≤ L.length) : m3 L x =
    if 0 < cross (px L x) (py L x) (px L ((x + 1) % L.length)) (py L ((x + 1) % L.length)) (px L ((x + 2) % L.length)) (py L ((x + 2) % L.length)) then 1 else -1 := by
  unfold m3 bendS
  rw [mod_back h h3, mod_forth h h3]

set_option maxRecDepth 100000 in
set_option maxHeartbeats 2000000 in
theorem bend89_any (b off cap : Nat) (L : List (Int × Int)) (h3 : 3 ≤ L.length) (h24 : L.length ≤ 24) (hs : ∀ k, Small (px L k) ∧ Small (py L k)) (w : World)
    (hp : PtsAt w b off L) (x : Nat) (hx : x < L.length) :
    Calls Tryz.prog 147 #[.slice (some ⟨b, off, none⟩) L.length cap, .int .i64 ((x : Int) + 1)] w fun e w' => e = .returned (.int .i64 (m3 L x)) ∧ Below w.heap.size w w' := by
  have M := m3_eq hx h3
  have HC := Lib.hid (show ∀ k, k < L.length → _ from hp)
  have A0 := at88_from (cap := cap) (by omega) HC ((x : Int)) x (px L x) (py L x) (Lib.hid ⟨by omega, atN_nat hx, rfl, rfl⟩)
  have A1 := at88_from (cap := cap) (by omega) HC ((x : Int) + 1) ((x + 1) % L.length) _ _ (Lib.hid ⟨by omega, atN_succ hx, rfl, rfl⟩)
  have A2 := at88_from (cap := cap) (by omega) HC ((x : Int) + 2) ((x + 2) % L.length) _ _ (Lib.hid ⟨by omega, atN_two, rfl, rfl⟩)
  have C := fun w => refCross_any (px L x) (py L x) (px L ((x + 1) % L.length)) (py L ((x + 1) % L.length)) (px L ((x + 2) % L.length)) (py L ((x + 2) % L.length)) w (hs _).1 (hs _).2 (hs _).1 (hs _).2 (hs _).1 (hs _).2
  generalize cross (px L x) (py L x) (px L ((x + 1) % L.length)) (py L ((x + 1) % L.length)) (px L ((x + 2) % L.length)) (py L ((x + 2) % L.length)) = c at C M
  generalize px L x = x0, py L x = y0 at A0 C
  generalize px L ((x + 1) % L.length) = x1, py L ((x + 1) % L.length) = y1 at A1 C
  generalize px L ((x + 2) % L.length) = x2, py L ((x + 2) % L.length) = y2 at A2 C
  generalize L.length = n at *
  have U1 : IntKind.i64.wrap ((x : Int) + 1 - 1) = x := by rw [wi64 _ (by omega)]; omega
  have U2 : IntKind.i64.wrap ((x : Int) + 1 + 1) = (x : Int) + 2 := by rw [wi64 _ (by omega)]; omega
  have U3 : IntKind.i64.wrap (x : Int) = x := wi64 _ (by omega)
  have U4 : IntKind.i64.wrap ((x : Int) + 2) = (x : Int) + 2 := wi64 _ (by omega)
  have bb := Below.refl w.heap.size w
  have HM := Lib.hid M
  clear hp HC hs M
  go_enter Tryz.func147, Tryz.ntmps147
  go_wp2_with fail
  refine (A0 _ bb).mono ?_
  rintro e w1 ⟨rfl, hb⟩
  replace bb := keep_below bb hb
  clear hb
  go_wp2_with fail
  refine (A1 _ bb).mono ?_
  rintro e w2 ⟨rfl, hb⟩
  replace bb := keep_below bb hb
  clear hb
  go_wp2_with fail
  refine (A2 _ bb).mono ?_
  rintro e w3 ⟨rfl, hb⟩
  replace bb := keep_below bb hb
  clear hb
  go_wp2_with fail
  refine (C _).mono ?_
  rintro e w4 ⟨rfl, hb⟩
  replace bb := keep_below bb hb
  clear hb C A0 A1 A2
  by_cases hc : 0 < c
  · have hm : m3 L x = 1 := by rw [HM.out, if_pos hc]
    go_wp2
    go_ret
    exact ⟨by rw [hm]; rfl, bb⟩
  · have hm : m3 L x = -1 := by rw [HM.out, if_neg hc]
    go_wp2
    go_ret
    exact ⟨by rw [hm]; rfl, bb⟩

theorem BoxS.load82 {w : World} {b : Nat} {x y z : Int} (h : BoxS 130 w b (ms x y z)) : (loadVar 130 ⟨b, 0, none⟩).run Tryz.prog w = .ok (ms x y z) w :=
  run_loadVar_mid (P := Tryz.prog) w b 0 130 [.int .i64 x, .int .i64 y, .int .i64 z] _ (fun j v hv => by rw [Nat.zero_add]; exact h.cell (by simpa [← List.getElem?_toArray] using hv)) Tryz.underlying130 rfl (by kernel_rfl)

theorem BoxS.frozen {t : TypeId} {W : World} {B : Nat} {v : Value} (h : BoxS t W B v) (o : Nat) : W.frozen? ⟨B, o, none⟩ = false := by
  obtain ⟨c, e, hb⟩ := h
  unfold World.frozen?
  simp [hb]

theorem BoxS.set {t : TypeId} {W : World} {B : Nat} {c : Array Value} (h : BoxS t W B (.agg c)) (k : Nat) (v : Value) : BoxS t (W.setCell ⟨B, k, none⟩ v) B (.agg (c.setIfInBounds k v)) := by
  obtain ⟨c', e, hb⟩ := h
  cases e
  exact ⟨_, rfl, setCell_heap _ hb⟩

theorem BoxS.keep {t : TypeId} {w w' : World} {b : Nat} {v : Value} (h : BoxS t w b v) (hb : Below w.heap.size w w') : BoxS t w' b v := by
  obtain ⟨c, e, h⟩ := h
  exact ⟨c, e, (hb.block b (Array.getElem?_eq_some_iff.1 h).1).trans h⟩

set_option maxRecDepth 100000 in
set_option maxHeartbeats 4000000 in
theorem measure48_any (b off cap : Nat) (L : List (Int × Int)) (h3 : 3 ≤ L.length) (h24 : L.length ≤ 24) (hs : ∀ k, Small (px L k) ∧ Small (py L k)) (w : World)
    (hp : PtsAt w b off L) (x : Nat) (hx : x < L.length) :
    Calls Tryz.prog 97 #[.slice (some ⟨b, off, none⟩) L.length cap, .agg #[.int .i64 0, .bool false], .int .i64 x] w fun e w' => e = .returned (ms (m1 L x) (m2 L x) (m3 L x)) ∧ Below w.heap.size w w' := by
  have HC := Lib.hid (show ∀ k, k < L.length → _ from hp)
  have A0 := at88_from (cap := cap) (by omega) HC ((x : Int)) x (px L x) (py L x) (Lib.hid ⟨by omega, atN_nat hx, rfl, rfl⟩)
  have A1 := at88_from (cap := cap) (by omega) HC ((x : Int) + 1) ((x + 1) % L.length) _ _ (Lib.hid ⟨by omega, atN_succ hx, rfl, rfl⟩)
  have A2 := at88_from (cap := cap) (by omega) HC ((x : Int) + 2) ((x + 2) % L.length) _ _ (Lib.hid ⟨by omega, atN_two, rfl, rfl⟩)
  have D1 := fun w => dist_any (px L x) (py L x) (px L ((x + 1) % L.length)) (py L ((x + 1) % L.length)) w (hs _).1 (hs _).2 (hs _).1 (hs _).2
  have D2 := fun w => dist_any (px L x) (py L x) (px L ((x + 2) % L.length)) (py L ((x + 2) % L.length)) w (hs _).1 (hs _).2 (hs _).1 (hs _).2
  have BB := Lib.hid (fun (w' : World) (hb : Below w.heap.size w w') => bend89_any b off cap L h3 h24 hs w' (hp.keep hb) x hx)
  rw [show square (px L x) (py L x) (px L ((x + 1) % L.length)) (py L ((x + 1) % L.length)) = m1 L x from rfl] at D1
  rw [show square (px L x) (py L x) (px L ((x + 2) % L.length)) (py L ((x + 2) % L.length)) = m2 L x from rfl] at D2
  generalize m1 L x = a1 at *
  generalize m2 L x = a2 at *
  generalize m3 L x = a3 at *
  generalize px L x = x0, py L x = y0 at A0 D1 D2
  generalize px L ((x + 1) % L.length) = x1, py L ((x + 1) % L.length) = y1 at A1 D1
  generalize px L ((x + 2) % L.length) = x2, py L ((x + 2) % L.length) = y2 at A2 D2
  generalize L.length = n at *
  have U0 : IntKind.i64.wrap (x : Int) = x := wi64 _ (by omega)
  have U1 : IntKind.i64.wrap ((x : Int) + 1) = (x : Int) + 1 := wi64 _ (by omega)
  have U2 : IntKind.i64.wrap ((x : Int) + 2) = (x : Int) + 2 := wi64 _ (by omega)
  have bb : Below w.heap.size w ((w.alloc (.cells #[.int .i64 0, .bool false] 28)).alloc (.cells #[.int .i64 0, .int .i64 0, .int .i64 0] 130)) := ((Below.refl _ _).alloc (Nat.le_refl _) _).alloc (by simp) _
  have bx : BoxS 130 ((w.alloc (.cells #[.int .i64 0, .bool false] 28)).alloc (.cells #[.int .i64 0, .int .i64 0, .int .i64 0] 130)) (w.heap.size + 1) (ms 0 0 0) := by
    have := BoxS.new 130 (w.alloc (.cells #[.int .i64 0, .bool false] 28)) #[.int .i64 0, .int .i64 0, .int .i64 0]
    rwa [World.size_alloc] at this
  clear hp HC hs
  go_enter Tryz.func97, Tryz.ntmps97
  go_wp2_with fail
  refine (A0 _ bb).mono ?_
  rintro e w1 ⟨rfl, hb⟩
  replace bx := bx.keep hb
  replace bb := keep_below bb hb
  clear hb
  go_wp2_with fail
  refine (A1 _ bb).mono ?_
  rintro e w1 ⟨rfl, hb⟩
  replace bx := bx.keep hb
  replace bb := keep_below bb hb
  clear hb
  go_wp2_with fail
  refine (D1 _).mono ?_
  rintro e w1 ⟨rfl, hb⟩
  replace bx := bx.keep hb
  replace bb := keep_below bb hb
  clear hb
  go_wp2_with fail
  refine (A0 _ bb).mono ?_
  rintro e w1 ⟨rfl, hb⟩
  replace bx := bx.keep hb
  replace bb := keep_below bb hb
  clear hb
  go_wp2_with fail
  refine (A2 _ bb).mono ?_
  rintro e w1 ⟨rfl, hb⟩
  replace bx := bx.keep hb
  replace bb := keep_below bb hb
  clear hb
  go_wp2_with fail
  refine (D2 _).mono ?_
  rintro e w1 ⟨rfl, hb⟩
  replace bx := bx.keep hb
  replace bb := keep_below bb hb
  clear hb
  go_wp2_with fail
  refine (BB.out _ bb).mono ?_
  rintro e w1 ⟨rfl, hb⟩
  replace bx := bx.keep hb
  replace bb := keep_below bb hb
  clear hb
  have c0 := bx.cell (o := 0) rfl
  have c1 := bx.cell (o := 1) rfl
  have c2 := bx.cell (o := 2) rfl
  have g0 := bx.frozen 0
  have g1 := bx.frozen 1
  have g2 := bx.frozen 2
  clear A0 A1 A2 D1 D2 BB
  go_wp2_with fail
  have s3 := ((bx.set 0 (.int .i64 a1)).set 1 (.int .i64 a2)).set 2 (.int .i64 a3)
  refine bodyPost_ret (v := ms a1 a2 a3) (results_cell rfl _ rfl (BoxS.load82 s3)) rfl ⟨rfl, ?_⟩
  exact ((bb.setCell (by simp) _).setCell (by simp) _).setCell (by simp) _

theorem five_at (w : World) (p : Nat) (hp : p = w.heap.size) (a b c d e : Int) : ∀ j u, [Value.int .i64 a, .int .i64 b, .int .i64 c, .int .i64 d, .int .i64 e][j]? = some u → (w.alloc (.cells #[.int .i64 a, .int .i64 b, .int .i64 c, .int .i64 d, .int .i64 e] 83)).cell? ((⟨p, 0, none⟩ : Addr).add j) = some u := by
  subst hp
  exact five_new w a b c d e

theorem gauL_len (L : List (Int × Int)) (pre : List Nat) : (gauL L pre).length = pre.length * 5 := by
  induction pre with
  | nil => rfl
  | cons x l ih => simp [gauL, gau] at ih ⊢; omega

end Go.Proofs.YtcfapbccegijnaaGreat

/- Walks: Clone of gauges, wider. -/
namespace Go.Proofs.YtcfapbccegijnaaGreat
open Go Go.RowKit Go.Proofs Go.Abs

/-- The cell j of a row of gauges. -/
def cG (G : Nat → G5) (j : Nat) : Value := if j % 5 = 0 then .int .i64 (G (j / 5)).a else if j % 5 = 1 then .int .i64 (G (j / 5)).b else if j % 5 = 2 then .int .i64 (G (j / 5)).c else if j % 5 = 3 then .int .i64 (G (j / 5)).d else .int .i64 (G (j / 5)).e
def rowG (G : Nat → G5) (n : Nat) : List Value := (List.range (n * 5)).map (cG G)

theorem rowG_len (G : Nat → G5) (n : Nat) : (rowG G n).length = n * 5 := by simp [rowG]
theorem rowG_get (G : Nat → G5) {n j : Nat} (h : j < n * 5) : (rowG G n)[j]? = some (cG G j) := by
  unfold rowG
  rw [List.getElem?_map, List.getElem?_range h]
  rfl

theorem cG_one (G : Nat → G5) (j : Nat) : (cG G j).oneCell' = true := by
  unfold cG
  repeat' split
  all_goals rfl

theorem rowG_one (G : Nat → G5) (n : Nat) : ∀ u ∈ rowG G n, u.oneCell' = true := by
  intro u hu
  unfold rowG at hu
  obtain ⟨j, -, rfl⟩ := List.mem_map.1 hu
  exact cG_one G j

theorem cG_0 (G : Nat → G5) (k : Nat) : cG G (k * 5) = .int .i64 (G k).a := by
  unfold cG; rw [if_pos (by omega), show k * 5 / 5 = k by omega]
theorem cG_1 (G : Nat → G5) (k : Nat) : cG G (k * 5 + 1) = .int .i64 (G k).b := by
  unfold cG; rw [if_neg (by omega), if_pos (by omega), show (k * 5 + 1) / 5 = k by omega]
theorem cG_2 (G : Nat → G5) (k : Nat) : cG G (k * 5 + 2) = .int .i64 (G k).c := by
  unfold cG; rw [if_neg (by omega), if_neg (by omega), if_pos (by omega), show (k * 5 + 2) / 5 = k by omega]
theorem cG_3 (G : Nat → G5) (k : Nat) : cG G (k * 5 + 3) = .int .i64 (G k).d := by
  unfold cG; rw [if_neg (by omega), if_neg (by omega), if_neg (by omega), if_pos (by omega), show (k * 5 + 3) / 5 = k by omega]
theorem cG_4 (G : Nat → G5) (k : Nat) : cG G (k * 5 + 4) = .int .i64 (G k).e := by
  unfold cG; rw [if_neg (by omega), if_neg (by omega), if_neg (by omega), if_neg (by omega), show (k * 5 + 4) / 5 = k by omega]

theorem SlG.cell {w : World} {v : Value} {G : List G5} (h : SlG w v G) (hn : 0 < G.length) : ∃ b off cap, v = .slice (some ⟨b, off, none⟩) G.length cap ∧ ∀ j, j < G.length * 5 → w.cell? ⟨b, off + j, none⟩ = some (cG (gz G) j) := by
  obtain ⟨a, cap, rfl, hl, hc⟩ := h
  obtain ⟨b, off, rfl, -⟩ := hc 0 hn
  refine ⟨b, off, cap, rfl, fun j hj => ?_⟩
  obtain ⟨b', off', e, h0, h1, h2, h3, h4⟩ := hc (j / 5) (by omega)
  cases e
  rcases (show j = j / 5 * 5 ∨ j = j / 5 * 5 + 1 ∨ j = j / 5 * 5 + 2 ∨ j = j / 5 * 5 + 3 ∨ j = j / 5 * 5 + 4 by omega) with e | e | e | e | e
  all_goals rw [e]
  · rw [cG_0]; exact h0
  · rw [cG_1]; exact h1
  · rw [cG_2]; exact h2
  · rw [cG_3]; exact h3
  · rw [cG_4]; exact h4

theorem run_nil_eqlG (a : Addr) (n c : Nat) (w : World) : (binOp .eql 22 (.slice (some a) n c) (.slice none 0 0)).run Tryz.prog w = .ok (.bool false) w := by
  kernel_rfl

set_option maxRecDepth 100000 in
set_option maxHeartbeats 2000000 in
theorem cloneG_any (b off n cap : Nat) (G : Nat → G5) (h0 : 0 < n) (h1 : n ≤ 1000000) (w : World) (hc : ∀ j, j < n * 5 → w.cell? ⟨b, off + j, none⟩ = some (cG G j)) :
    Calls Tryz.prog 71 #[.slice (some ⟨b, off, none⟩) n cap] w fun e w' => ∃ v, e = .returned v ∧ w'.ownsRow w.heap.size 83 5 v n (rowG G n) ∧ Below w.heap.size w w' := by
  obtain ⟨i0, hi, hz0, hz1, hz2⟩ := info_parts info67
  have NE := run_nil_eqlG ⟨b, off, none⟩ n cap
  have hx : ∀ j u, (rowG G n)[j]? = some u → (w.alloc (Obj.cells #[] 83)).cell? ((⟨b, off, none⟩ : Addr).add j) = some u := by
    intro j u hj
    have hjl : j < n * 5 := by
      have := (List.getElem?_eq_some_iff.1 hj).1
      rwa [rowG_len] at this
    rw [rowG_get G hjl] at hj
    cases hj
    rw [Addr.add_lit]
    exact keep_cell ((Below.refl _ _).alloc (Nat.le_refl _) _) (hc j hjl)
  clear hc
  go_enter Tryz.func71, Tryz.ntmps71
  go_wp2_with (at_builtin; refine wpList_append_grows _ rfl _ _ 22 rfl 83 i0 (gg 0 0 0 0 0) 5 40 Tryz.underlying22 hi hz0 hz1 hz2 rfl (by decide) _ 0 0 [] rfl (by simp) rfl (by simp) ⟨b, off, none⟩ n cap (rowG G n) rfl (rowG_len _ _) hx (rowG_one G n) (by omega) (by unfold maxLen; omega) (by omega) ?_; intro v' w' hown hgr)
  go_ret
  have hz : (w.alloc (Obj.cells #[] 83)).heap.size = w.heap.size + 1 := by simp
  refine ⟨v', rfl, ?_, ((Below.refl _ w).alloc (Nat.le_refl _) (Obj.cells #[] 83)).grown hgr (by omega) (fun k e => by cases e)⟩
  have := own_base hown (B' := w.heap.size) (by omega)
  simpa using this

theorem ret_spn {a b c d : Int} (h1 : a = c) (h2 : b = d) : Ending.returned (spn a b) = .returned (spn c d) := by rw [h1, h2]
theorem sp_two (w : World) (a b c d : Int) : Sp ((w.alloc (.cells #[.int .i64 a, .int .i64 b] 81)).alloc (.cells #[.int .i64 c, .int .i64 d] 81)) (w.heap.size + 1) c d := by
  have := Sp.new (w.alloc (spnObj a b)) c d
  rwa [World.size_alloc] at this
theorem sp_below (w : World) (a b c d : Int) : Below w.heap.size w ((w.alloc (.cells #[.int .i64 a, .int .i64 b] 81)).alloc (.cells #[.int .i64 c, .int .i64 d] 81)) := ((Below.refl _ _).alloc (Nat.le_refl _) _).alloc (by simp) _

def wLo (lo by_ least : Int) : Int := max (lo - by_) least
def wHi (hi by_ : Int) : Int := min (hi + by_) 33554432

set_option maxRecDepth 100000 in
set_option maxHeartbeats 2000000 in
theorem wider_any (lo hi y least : Int) (h1 : 0 ≤ lo ∧ lo ≤ 33554432) (h2 : 0 ≤ hi ∧ hi ≤ 33554432) (h3 : 0 ≤ y ∧ y ≤ 33554432) (w : World) :
    Calls Tryz.prog 72 #[spn lo hi, .int .i64 y, .int .i64 least] w fun e w' => e = .returned (spn (wLo lo y least) (wHi hi y)) ∧ Below w.heap.size w w' := by
  have U1 : IntKind.i64.wrap (lo - y) = lo - y := wi64 _ (by omega)
  have U2 : IntKind.i64.wrap (hi + y) = hi + y := wi64 _ (by omega)
  have s0 : Sp (w.alloc (spnObj lo hi)) w.heap.size lo hi := Sp.new w lo hi
  have s1 := s0.alloc (.cells #[.int .i64 0, .int .i64 0] 81)
  have r1 : Sp ((w.alloc (spnObj lo hi)).alloc (.cells #[.int .i64 0, .int .i64 0] 81)) (w.heap.size + 1) 0 0 := by
    have := Sp.new (w.alloc (spnObj lo hi)) 0 0
    rwa [World.size_alloc] at this
  have d0 := s1.c0
  have d1 := s1.c1
  have c0 := r1.c0
  have c1 := r1.c1
  have f0 := r1.f 0
  have f1 := r1.f 1
  have bb : Below w.heap.size w ((w.alloc (spnObj lo hi)).alloc (.cells #[.int .i64 0, .int .i64 0] 81)) := ((Below.refl _ _).alloc (Nat.le_refl _) _).alloc (by simp) _
  clear s0
  go_enter Tryz.func72, Tryz.ntmps72
  go_wp2_with fail
  all_goals refine bodyPost_ret (results_cell (p := ⟨w.heap.size + 1, 0, none⟩) rfl _ rfl (Sp.load (sp_two w lo hi _ _))) rfl ⟨ret_spn ?_ ?_, sp_below w lo hi _ _⟩
  all_goals first
    | (unfold wLo; omega)
    | (unfold wHi; omega)

end Go.Proofs.YtcfapbccegijnaaGreat

/- Walks: Widen. -/
namespace Go.Proofs.YtcfapbccegijnaaGreat
open Go Go.RowKit Go.Proofs Go.Abs

def wG (y : Int) (g : G5) : G5 := ⟨wLo g.a y 1, wHi g.b y, wLo g.c y 0, wHi g.d y, g.e⟩

/-- What Widen answers. -/
def WidS (G : List G5) (y : Int) (w : World) (v : Value) (E : Int) : Prop :=
  ((vGs G && wi y 0 33554432) = false ∧ v = .slice none 0 0 ∧ E = 1) ∨ ((vGs G && wi y 0 33554432) = true ∧ SlG w v (G.map (wG y)) ∧ E = 0)

theorem gz_map (G : List G5) (f : G5 → G5) {k : Nat} (h : k < G.length) : gz (G.map f) k = f (gz G k) := by
  unfold gz
  simp [List.getD_eq_getElem?_getD, h]

/-- The first k gauges are widened. -/
def Gk (G : List G5) (y : Int) (k i : Nat) : G5 := if i < k then wG y (gz G i) else gz G i

theorem vGs_ok {G : List G5} (h : vGs G = true) : 3 ≤ G.length ∧ G.length ≤ 24 ∧ ∀ k, k < G.length → (0 ≤ (gz G k).a ∧ (gz G k).a ≤ 33554432) ∧ (0 ≤ (gz G k).b ∧ (gz G k).b ≤ 33554432) ∧ (0 ≤ (gz G k).c ∧ (gz G k).c ≤ 33554432) ∧ (0 ≤ (gz G k).d ∧ (gz G k).d ≤ 33554432) := by
  unfold vGs at h
  rw [Bool.and_eq_true] at h
  obtain ⟨h1, h2⟩ := h
  unfold wi at h1
  simp at h1
  refine ⟨by omega, by omega, fun k hk => ?_⟩
  have h3 : badG G = false := by simpa using h2
  unfold badG at h3
  rw [List.any_eq_false] at h3
  have h4 := h3 k (List.mem_range.2 hk)
  simp only [Bool.not_eq_true, Bool.not_eq_false'] at h4
  unfold G5.ok vG at h4
  simp only [Bool.and_eq_true, decide_eq_true_eq] at h4
  omega

theorem slg_box {w : World} {g n cap : Nat} {cur : Array Value} {G : List G5} (hb : BoxS 83 w g (.agg cur)) (hn : G.length = n) (hl : n ≤ 1000000) (hc : ∀ j, j < n * 5 → cur[j]? = some (cG (gz G) j)) : SlG w (.slice (some ⟨g, 0, none⟩) n cap) G := by
  subst hn
  refine ⟨_, cap, rfl, by omega, fun k hk => ⟨g, 0, rfl, ?_, ?_, ?_, ?_, ?_⟩⟩
  · rw [Nat.zero_add]; exact hb.cell (by rw [hc _ (by omega), cG_0])
  · rw [Nat.zero_add]; exact hb.cell (by rw [hc _ (by omega), cG_1])
  · rw [Nat.zero_add]; exact hb.cell (by rw [hc _ (by omega), cG_2])
  · rw [Nat.zero_add]; exact hb.cell (by rw [hc _ (by omega), cG_3])
  · rw [Nat.zero_add]; exact hb.cell (by rw [hc _ (by omega), cG_4])

theorem own_box {w : World} {base g n cap : Nat} {G : Nat → G5} (h : w.ownsRow base 83 5 (.slice (some ⟨g, 0, none⟩) n cap) n (rowG G n)) : ∃ cur, BoxS 83 w g (.agg cur) ∧ ∀ j, j < n * 5 → cur[j]? = some (cG G j) := by
  have hc := fun j (hj : j < n * 5) => (h.cellAt j hj).trans (rowG_get G hj)
  rcases h.2 with ⟨h, -⟩ | ⟨g', cap2, cur, h, -, h2, -⟩
  · cases h
  · simp only [Value.slice.injEq, Option.some.injEq, Addr.mk.injEq] at h
    obtain ⟨⟨rfl, -⟩, -, -⟩ := h
    refine ⟨cur, ⟨cur, rfl, h2⟩, fun j hj => ?_⟩
    have := hc j hj
    simpa [World.cell?, h2] using this

theorem cG_congr {G G' : Nat → G5} {j : Nat} (h : G (j / 5) = G' (j / 5)) : cG G j = cG G' j := by
  unfold cG
  rw [h]

/-- One more gauge is widened. -/
theorem Gk_step {G : List G5} {y : Int} {n k : Nat} {cur : Array Value} (_hk : k < n) (hc : ∀ j, j < n * 5 → cur[j]? = some (cG (Gk G y k) j)) :
    ∀ j, j < n * 5 → ((((cur.setIfInBounds (k * 5) (.int .i64 (wLo (gz G k).a y 1))).setIfInBounds (k * 5 + 1) (.int .i64 (wHi (gz G k).b y))).setIfInBounds (k * 5 + 2) (.int .i64 (wLo (gz G k).c y 0))).setIfInBounds (k * 5 + 3) (.int .i64 (wHi (gz G k).d y)))[j]? = some (cG (Gk G y (k + 1)) j) := by
  have hs : ∀ j, j < n * 5 → j < cur.size := fun j hj => (Array.getElem?_eq_some_iff.1 (hc j hj)).1
  have hG : Gk G y (k + 1) k = wG y (gz G k) := by unfold Gk; rw [if_pos (by omega)]
  have hG0 : Gk G y k k = gz G k := by unfold Gk; rw [if_neg (by omega)]
  intro j hj
  by_cases hjk : j / 5 = k
  · rcases (show j = k * 5 ∨ j = k * 5 + 1 ∨ j = k * 5 + 2 ∨ j = k * 5 + 3 ∨ j = k * 5 + 4 by omega) with rfl | rfl | rfl | rfl | rfl
    · rw [Array.getElem?_setIfInBounds_ne (by omega), Array.getElem?_setIfInBounds_ne (by omega), Array.getElem?_setIfInBounds_ne (by omega), Array.getElem?_setIfInBounds_self_of_lt (hs _ hj), cG_0, hG]; rfl
    · rw [Array.getElem?_setIfInBounds_ne (by omega), Array.getElem?_setIfInBounds_ne (by omega), Array.getElem?_setIfInBounds_self_of_lt (by simpa using hs _ hj), cG_1, hG]; rfl
    · rw [Array.getElem?_setIfInBounds_ne (by omega), Array.getElem?_setIfInBounds_self_of_lt (by simpa using hs _ hj), cG_2, hG]; rfl
    · rw [Array.getElem?_setIfInBounds_self_of_lt (by simpa using hs _ hj), cG_3, hG]; rfl
    · rw [Array.getElem?_setIfInBounds_ne (by omega), Array.getElem?_setIfInBounds_ne (by omega), Array.getElem?_setIfInBounds_ne (by omega), Array.getElem?_setIfInBounds_ne (by omega), hc _ hj, cG_4, cG_4, hG, hG0]; rfl
  · rw [Array.getElem?_setIfInBounds_ne (by omega), Array.getElem?_setIfInBounds_ne (by omega), Array.getElem?_setIfInBounds_ne (by omega), Array.getElem?_setIfInBounds_ne (by omega), hc _ hj]
    have : Gk G y (k + 1) (j / 5) = Gk G y k (j / 5) := by
      unfold Gk
      by_cases h : j / 5 < k
      · rw [if_pos h, if_pos (by omega)]
      · rw [if_neg h, if_neg (by omega)]
    unfold cG
    rw [this]

theorem widen_bad (v : Value) (G : List G5) (y : Int) (w : World) (h : SlG w v G) (hg : (vGs G && wi y 0 33554432) = false) :
    Calls Tryz.prog 32 #[v, .int .i64 y] w fun e w' => e = .returned (.tuple #[.slice none 0 0, .int .i64 1]) ∧ Below w.heap.size w w' := by
  have C1 := validGauges_any v G w h
  have C2 := fun w => within_any y 0 33554432 w
  cases hv : vGs G
  · rw [hv] at C1
    clear h hg hv C2
    go_enter Tryz.func32, Tryz.ntmps32
    go_wp2_with fail
    refine C1.mono ?_
    rintro e w1 ⟨rfl, hb⟩
    go_wp2
    go_ret2
    exact ⟨rfl, hb⟩
  · rw [hv] at C1
    have hy : wi y 0 33554432 = false := by simpa [hv] using hg
    rw [hy] at C2
    clear h hg hv hy
    go_enter Tryz.func32, Tryz.ntmps32
    go_wp2_with fail
    refine C1.mono ?_
    rintro e w1 ⟨rfl, hb⟩
    go_wp2_with fail
    refine (C2 _).mono ?_
    rintro e w2 ⟨rfl, rfl⟩
    go_wp2
    go_ret2
    exact ⟨rfl, hb⟩

set_option maxRecDepth 100000 in
set_option maxHeartbeats 8000000 in
theorem widen_good (v : Value) (G : List G5) (y : Int) (w : World) (h : SlG w v G) (hv : vGs G = true) (hy : wi y 0 33554432 = true) :
    Calls Tryz.prog 32 #[v, .int .i64 y] w fun e w' => ∃ v', e = .returned (.tuple #[v', .int .i64 0]) ∧ SlG w' v' (G.map (wG y)) ∧ Below w.heap.size w w' := by
  have C1 := validGauges_any v G w h
  have C2 := fun w => within_any y 0 33554432 w
  rw [hv] at C1
  rw [hy] at C2
  obtain ⟨h3, h24, hok⟩ := vGs_ok hv
  have hy' : 0 ≤ y ∧ y ≤ 33554432 := by unfold wi at hy; simpa using hy
  obtain ⟨b, off, cap, rfl, hc⟩ := h.cell (by omega)
  have hblt : b < w.heap.size := lt_of_cell (hc 0 (by omega))
  have C3 := fun w' (hb : Below w.heap.size w w') => cloneG_any b off G.length cap (gz G) (by omega) (by omega) w' (fun j hj => keep_cell hb (hc j hj))
  have STEP := Lib.hid (fun (n : Nat) (hn : G.length = n) (k : Nat) (hk : k < n) (cur : Array Value) => Gk_step (G := G) (y := y) (n := n) (k := k) (cur := cur) hk)
  have DONE := Lib.hid (fun (n : Nat) (hn : G.length = n) (w' : World) (g cap' : Nat) (cur : Array Value) (hb : BoxS 83 w' g (.agg cur)) (hcur : ∀ j, j < n * 5 → cur[j]? = some (cG (Gk G y n) j)) =>
    slg_box (cap := cap') (n := n) (G := G.map (wG y)) hb (by simpa using hn) (by omega) (fun j hj => (hcur j hj).trans (congrArg some (cG_congr (by rw [gz_map G (wG y) (show j / 5 < G.length by omega)]; unfold Gk; rw [if_pos (by omega)])))))
  have HC := Lib.hid (fun (n : Nat) (hn : G.length = n) (k : Nat) (hk : k < n) => (show (w.cell? ⟨b, off + k * 5, none⟩ = some (.int .i64 (gz G k).a) ∧ w.cell? ⟨b, off + k * 5 + 1, none⟩ = some (.int .i64 (gz G k).b) ∧ w.cell? ⟨b, off + k * 5 + 2, none⟩ = some (.int .i64 (gz G k).c) ∧ w.cell? ⟨b, off + k * 5 + 3, none⟩ = some (.int .i64 (gz G k).d)) from
    ⟨by rw [hc _ (by omega), cG_0], by rw [Nat.add_assoc, hc _ (by omega), cG_1], by rw [Nat.add_assoc, hc _ (by omega), cG_2], by rw [Nat.add_assoc, hc _ (by omega), cG_3]⟩))
  have OK := Lib.hid hok
  have S0 := Lib.hid (show ∀ j, cG (gz G) j = cG (Gk G y 0) j from fun j => rfl)
  clear h hv hy hc hok
  obtain ⟨n, hn⟩ : ∃ n, G.length = n := ⟨_, rfl⟩
  rw [hn] at OK h3 h24 C1 C3 ⊢
  replace STEP := Lib.hid (STEP.out n hn)
  replace DONE := Lib.hid (DONE.out n hn)
  replace HC := Lib.hid (HC.out n hn)
  clear hn
  go_enter Tryz.func32, Tryz.ntmps32
  go_wp2_with fail
  refine C1.mono ?_
  rintro e w1 ⟨rfl, hb1⟩
  go_wp2_with fail
  refine (C2 _).mono ?_
  rintro e w2 ⟨rfl, rfl⟩
  go_wp2_with fail
  refine (C3 _ hb1).mono ?_
  rintro e w2 ⟨r, rfl, own2, hb2⟩
  have b2 := keep_below hb1 hb2
  obtain ⟨g, cap', hr⟩ : ∃ g cap', r = .slice (some ⟨g, 0, none⟩) n cap' := by
    rcases own2.2 with ⟨-, h⟩ | ⟨g, cap', cur, h, -⟩
    · omega
    · exact ⟨g, cap', h⟩
  subst hr
  have hgw : w.heap.size ≤ g := Nat.le_trans hb1.size (own2.lt g rfl).1
  obtain ⟨cur0, bx0, hcur0⟩ := own_box own2
  clear own2 hb2 hb1 C1 C2 C3
  have hne : b ≠ g := by omega
  go_wp2_with fail
  go_loopw [20] (fun i wr => ∃ k : Nat, k ≤ n ∧ i = .int .i64 k ∧ (∃ cur, BoxS 83 wr g (.agg cur) ∧ ∀ j, j < n * 5 → cur[j]? = some (cG (Gk G y k) j)) ∧ Below w.heap.size w wr) (fun i _ => n - (intOf i).toNat)
  case atStart => exact ⟨0, Nat.zero_le _, rfl, ⟨cur0, bx0, hcur0⟩, b2⟩
  case round =>
    clear bx0 hcur0 b2 w2 cur0
    obtain ⟨k, hk, rfl, ⟨cur, bx, hcur⟩, hbel⟩ := hrel
    by_cases hlt : k < n
    · have j1 : (k : Int) < (n : Int) := by omega
      obtain ⟨p0, p1, p2, p3⟩ := HC.out k hlt
      replace p0 := keep_cell hbel p0
      replace p1 := keep_cell hbel p1
      replace p2 := keep_cell hbel p2
      replace p3 := keep_cell hbel p3
      obtain ⟨q0, q1, q2, q3⟩ := OK.out k hlt
      have D1 := fun w => wider_any (gz G k).a (gz G k).b y 1 q0 q1 hy' w
      have D2 := fun w => wider_any (gz G k).c (gz G k).d y 0 q2 q3 hy' w
      have ST := Lib.hid (STEP.out k hlt cur hcur)
      have hcs : k * 5 + 3 < cur.size := (Array.getElem?_eq_some_iff.1 (hcur (k * 5 + 3) (by omega))).1
      generalize wLo (gz G k).a y 1 = A at D1 ST
      generalize wHi (gz G k).b y = B at D1 ST
      generalize wLo (gz G k).c y 0 = C at D2 ST
      generalize wHi (gz G k).d y = D at D2 ST
      generalize (gz G k).a = x0 at p0 D1
      generalize (gz G k).b = x1 at p1 D1
      generalize (gz G k).c = x2 at p2 D2
      generalize (gz G k).d = x3 at p3 D2
      clear q0 q1 q2 q3 hcur
      have hpl := lt_of_cell p0
      go_wp2_with fail
      refine (D1 _).mono ?_
      rintro e w3 ⟨rfl, hb3⟩
      replace p2 := keep_cell hb3 p2
      replace p3 := keep_cell hb3 p3
      have bx3 := bx.keep hb3
      have bel3 := keep_below hbel hb3
      clear D1 p0 p1 hb3 bx hbel
      have c0 := bx3.cell (o := k * 5) (Array.getElem?_eq_getElem (by omega))
      have c1 := bx3.cell (o := k * 5 + 1) (Array.getElem?_eq_getElem (by omega))
      have f0 := bx3.frozen (k * 5)
      have f1 := bx3.frozen (k * 5 + 1)
      have bx4 := (bx3.set (k * 5) (.int .i64 A)).set (k * 5 + 1) (.int .i64 B)
      have bel4 := (bel3.setCell (p := ⟨g, k * 5, none⟩) hgw (.int .i64 A)).setCell (p := ⟨g, k * 5 + 1, none⟩) hgw (.int .i64 B)
      have p24 := set_cell (q := ⟨g, k * 5 + 1, none⟩) (v := .int .i64 B) (by simp) (set_cell (q := ⟨g, k * 5, none⟩) (v := .int .i64 A) (by simp) p2)
      have p34 := set_cell (q := ⟨g, k * 5 + 1, none⟩) (v := .int .i64 B) (by simp) (set_cell (q := ⟨g, k * 5, none⟩) (v := .int .i64 A) (by simp) p3)
      go_wp2_with fail
      clear p24 p34 p2 p3 c0 c1 f0 f1
      generalize (w3.setCell ⟨g, k * 5, none⟩ (.int .i64 A)).setCell ⟨g, k * 5 + 1, none⟩ (.int .i64 B) = X4 at bx4 bel4 ⊢
      refine (D2 _).mono ?_
      rintro e w5 ⟨rfl, hb5⟩
      have bx5 := bx4.keep hb5
      have bel5 := keep_below bel4 hb5
      clear D2 hb5 bx4 bel4 bx3 bel3 X4 w3
      have c2 := bx5.cell (o := k * 5 + 2) (Array.getElem?_eq_getElem (by simp; omega))
      have c3 := bx5.cell (o := k * 5 + 3) (Array.getElem?_eq_getElem (by simp; omega))
      have f2 := bx5.frozen (k * 5 + 2)
      have f3 := bx5.frozen (k * 5 + 3)
      have bx6 := (bx5.set (k * 5 + 2) (.int .i64 C)).set (k * 5 + 3) (.int .i64 D)
      have bel6 := (bel5.setCell (p := ⟨g, k * 5 + 2, none⟩) hgw (.int .i64 C)).setCell (p := ⟨g, k * 5 + 3, none⟩) hgw (.int .i64 D)
      go_wp2_with fail
      exact ⟨⟨k + 1, by omega, by simp, ⟨_, bx6, ST.out⟩, bel6⟩, by simp [intOf]; omega⟩
    · obtain rfl : k = n := by omega
      go_wp2
      go_ret2
      exact ⟨_, rfl, DONE.out _ _ _ _ bx hcur, hbel⟩

end Go.Proofs.YtcfapbccegijnaaGreat

/- Walks: the reference's Widen. -/
namespace Go.Proofs.YtcfapbccegijnaaGreat
open Go Go.RowKit Go.Proofs Go.Abs

theorem rowG_succ (F : Nat → G5) (k : Nat) : rowG F (k + 1) = rowG F k ++ [.int .i64 (F k).a, .int .i64 (F k).b, .int .i64 (F k).c, .int .i64 (F k).d, .int .i64 (F k).e] := by
  unfold rowG
  rw [show (k + 1) * 5 = k * 5 + 1 + 1 + 1 + 1 + 1 by omega, List.range_succ, List.range_succ, List.range_succ, List.range_succ, List.range_succ]
  simp only [List.map_append, List.map_cons, List.map_nil, List.append_assoc, List.cons_append, List.nil_append]
  rw [show k * 5 + 1 + 1 = k * 5 + 2 by omega, show k * 5 + 2 + 1 = k * 5 + 3 by omega, show k * 5 + 3 + 1 = k * 5 + 4 by omega, cG_0, cG_1, cG_2, cG_3, cG_4]

theorem own_cast {w : World} {base n : Nat} {v : Value} {xs : List Value} {a b c d e a' b' c' d' e' : Int} (h : w.ownsRow base 83 5 v n (xs ++ [.int .i64 a, .int .i64 b, .int .i64 c, .int .i64 d, .int .i64 e])) (h1 : a = a') (h2 : b = b') (h3 : c = c') (h4 : d = d') (h5 : e = e') :
    w.ownsRow base 83 5 v n (xs ++ [.int .i64 a', .int .i64 b', .int .i64 c', .int .i64 d', .int .i64 e']) := by
  subst h1 h2 h3 h4 h5
  exact h

theorem own_slg {w : World} {base n : Nat} {v : Value} {F : Nat → G5} {G : List G5} (h : w.ownsRow base 83 5 v n (rowG F n)) (hn : G.length = n) (h0 : 0 < n) (hl : n ≤ 1000000) (hF : ∀ i, i < n → F i = gz G i) : SlG w v G := by
  obtain ⟨g, cap, rfl⟩ : ∃ g cap, v = .slice (some ⟨g, 0, none⟩) n cap := by
    rcases h.2 with ⟨-, h⟩ | ⟨g, cap', cur, h, -⟩
    · omega
    · exact ⟨g, cap', h⟩
  obtain ⟨cur, bx, hcur⟩ := own_box h
  exact slg_box bx hn hl (fun j hj => (hcur j hj).trans (congrArg some (cG_congr (hF _ (by omega)))))

end Go.Proofs.YtcfapbccegijnaaGreat

/- Walks: SameGauges of equal lists. -/
namespace Go.Proofs.YtcfapbccegijnaaGreat
open Go Go.RowKit Go.Proofs Go.Abs

theorem SlG.shape {w : World} {v : Value} {G : List G5} (h : SlG w v G) : ∃ a cap, v = .slice a G.length cap := by
  obtain ⟨a, cap, rfl, _⟩ := h
  exact ⟨a, cap, rfl⟩

theorem SlG.at {w : World} {a : Option Addr} {cap : Nat} {G : List G5} (h : SlG w (.slice a G.length cap) G) {k : Nat} (hk : k < G.length) :
    ∃ b off, a = some ⟨b, off, none⟩ ∧ w.cell? ⟨b, off + k * 5, none⟩ = some (.int .i64 (gz G k).a) ∧ w.cell? ⟨b, off + k * 5 + 1, none⟩ = some (.int .i64 (gz G k).b) ∧ w.cell? ⟨b, off + k * 5 + 2, none⟩ = some (.int .i64 (gz G k).c) ∧
    w.cell? ⟨b, off + k * 5 + 3, none⟩ = some (.int .i64 (gz G k).d) ∧ w.cell? ⟨b, off + k * 5 + 4, none⟩ = some (.int .i64 (gz G k).e) := by
  obtain ⟨a', cap', e, -, hc⟩ := h
  simp only [Value.slice.injEq] at e
  obtain ⟨rfl, -, rfl⟩ := e
  exact hc k hk

theorem run_gg_neq (a b c d e : Int) (w : World) : (binOp .neq 83 (gg a b c d e) (gg a b c d e)).run Tryz.prog w = .ok (.bool false) w := by
  go_simp

set_option maxRecDepth 100000 in
set_option maxHeartbeats 2000000 in
theorem sameGauges_any {G : List G5} {v1 v2 : Value} (w : World) (h1 : SlG w v1 G) (h2 : SlG w v2 G) (hl : G.length ≤ 1000) :
    Calls Tryz.prog 33 #[v1, v2] w fun e w' => e = .returned (.bool true) ∧ Below w.heap.size w w' := by
  obtain ⟨a1, c1, rfl⟩ := h1.shape
  obtain ⟨a2, c2, rfl⟩ := h2.shape
  have H1 := Lib.hid h1
  have H2 := Lib.hid h2
  clear h1 h2
  go_enter Tryz.func33, Tryz.ntmps33
  go_wp2_with fail
  go_loopw [5] (fun i wr => ∃ k : Nat, k ≤ G.length ∧ i = .int .i64 k ∧ Below w.heap.size w wr) (fun i _ => G.length - (intOf i).toNat)
  case atStart => exact ⟨0, Nat.zero_le _, rfl, Below.refl _ _⟩
  case round =>
    obtain ⟨k, hk, rfl, hbel⟩ := hrel
    by_cases hlt : k < G.length
    · have j1 : (k : Int) < (G.length : Int) := by omega
      obtain ⟨b1, o1, rfl, x0, x1, x2, x3, x4⟩ := (H1.out.keep hbel).at hlt
      obtain ⟨b2, o2, rfl, y0, y1, y2, y3, y4⟩ := (H2.out.keep hbel).at hlt
      have hq := run_gg_neq
      generalize (gz G k).a = a at x0 y0
      generalize (gz G k).b = b at x1 y1
      generalize (gz G k).c = c at x2 y2
      generalize (gz G k).d = d at x3 y3
      generalize (gz G k).e = e at x4 y4
      go_wp2_with fail
      have G0 := grow_cell x0
      have G1 := grow_cell x1
      have G2 := grow_cell x2
      have G3 := grow_cell x3
      have G4 := grow_cell x4
      have G5 := grow_cell y0
      have G6 := grow_cell y1
      have G7 := grow_cell y2
      have G8 := grow_cell y3
      have G9 := grow_cell y4
      refine wp_region_grow (by kernel_rfl) (by kernel_rfl) ?_
      repeat (go_big_quiet_step (fail))
      refine wpQuiet_nil ?_
      rintro w4 ⟨z, hz⟩
      have hb : Below wr.heap.size wr w4 := by rw [hz]; exact z.b
      clear hz z G0 G1 G2 G3 G4 G5 G6 G7 G8 G9 x0 x1 x2 x3 x4 y0 y1 y2 y3 y4 hq
      have bel4 := keep_below hbel hb
      clear hb
      go_wp2
      exact ⟨⟨k + 1, by omega, by simp, bel4⟩, by simp [intOf]; omega⟩
    · obtain rfl : k = G.length := by omega
      go_wp2
      go_ret
      exact ⟨rfl, hbel⟩

end Go.Proofs.YtcfapbccegijnaaGreat
