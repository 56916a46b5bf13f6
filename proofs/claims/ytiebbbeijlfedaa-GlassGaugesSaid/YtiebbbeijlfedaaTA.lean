/- The abstract machine, part TA. -/
import Derived.Test.YtiebbbeijlfedaaT3
import Derived.ArgAppend
/- Walks: the reference's measures and Gauges. -/
namespace Go.Proofs.Ytiebbbeijlfedaa
open Go Go.RowKit Go.Proofs Go.Abs

set_option maxRecDepth 100000 in
set_option maxHeartbeats 1000000 in
theorem at88_any (b off len cap : Nat) (xs ys : Nat → Int) (hlen : len ≤ 1000000) (hpos : 0 < len) (i : Int) (w : World)
    (hc : ∀ k, k < len → w.cell? ⟨b, off + k * 2, none⟩ = some (.int .i64 (xs k)) ∧ w.cell? ⟨b, off + k * 2 + 1, none⟩ = some (.int .i64 (ys k))) :
    Calls Try.prog 88 #[.slice (some ⟨b, off, none⟩) len cap, .int .i64 i] w fun e w' => e = .returned (pt (xs (atN len i)) (ys (atN len i))) ∧ Below w.heap.size w w' := by
  have T0 := at_tmod (n := len) (i := i) hpos
  have L0 := atN_lt (n := len) (i := i) hpos
  obtain ⟨q, hq⟩ : ∃ q, atN len i = q := ⟨_, rfl⟩
  rw [hq] at T0 L0 ⊢
  have h3 := Int.lt_tmod_of_pos i (show (0 : Int) < len by omega)
  have h4 := Int.tmod_lt_of_pos i (show (0 : Int) < len by omega)
  obtain ⟨r, hr⟩ : ∃ r, i.tmod len = r := ⟨_, rfl⟩
  rw [hr] at T0 h3 h4
  have T1 : (r + len) % (len : Int) = q := by rw [← T0, Int.tmod_eq_emod_of_nonneg (by omega)]
  have j1 : (q : Int) < (len : Int) := by omega
  have a0 := keep_cell2 ((Below.refl w.heap.size w).alloc (Nat.le_refl _) (ptObj 0 0)) (hc q L0).1
  have a1 := keep_cell2 ((Below.refl w.heap.size w).alloc (Nat.le_refl _) (ptObj 0 0)) (hc q L0).2
  have hl0 : ¬ len = 0 := by omega
  clear hq hc
  go_enter Try.func88, Try.ntmps88
  go_wp2
  refine bodyPost_ret (v := pt (xs q) (ys q)) ?_ rfl ⟨rfl, (Below.refl _ _).alloc (Nat.le_refl _) _⟩
  have n1 := pt_new w (xs q) (ys q)
  simp [results, Try.results88, go_sem, n1.1, n1.2]

theorem at88_from {b off len cap : Nat} {xs ys : Nat → Int} (hlen : len ≤ 1000000) {w0 : World}
    (hc : Hid (∀ k, k < len → w0.cell? ⟨b, off + k * 2, none⟩ = some (.int .i64 (xs k)) ∧ w0.cell? ⟨b, off + k * 2 + 1, none⟩ = some (.int .i64 (ys k))))
    (i : Int) (q : Nat) (x y : Int) (hq : Hid (0 < len ∧ atN len i = q ∧ xs q = x ∧ ys q = y)) (w : World) (hb : Below w0.heap.size w0 w) :
    Calls Try.prog 88 #[.slice (some ⟨b, off, none⟩) len cap, .int .i64 i] w fun e w' => e = .returned (pt x y) ∧ Below w.heap.size w w' := by
  obtain ⟨h0, rfl, rfl, rfl⟩ := hq.out
  exact at88_any b off len cap xs ys hlen h0 i w (fun k hk => ⟨keep_cell2 hb (hc.out k hk).1, keep_cell2 hb (hc.out k hk).2⟩)

theorem atN_two {len k : Nat} : atN len ((k : Int) + 2) = (k + 2) % len := by
  unfold atN
  have : ((k : Int) + 2) % (len : Int) = ((k + 2) % len : Nat) := by rw [Int.natCast_emod]; congr 1
  rw [this, Int.toNat_natCast]

theorem mod_back {k len : Nat} (h : k < len) (_h3 : 3 ≤ len) : ((k + 1) % len + len - 1) % len = k := by
  rcases Nat.lt_or_ge (k + 1) len with h1 | h1
  · rw [Nat.mod_eq_of_lt h1, show k + 1 + len - 1 = k + len by omega, Nat.add_mod_right, Nat.mod_eq_of_lt h]
  · have : k + 1 = len := by omega
    rw [this, Nat.mod_self, show 0 + len - 1 = k by omega, Nat.mod_eq_of_lt h]

theorem mod_forth {k len : Nat} (h : k < len) (_h3 : 3 ≤ len) : ((k + 1) % len + 1) % len = (k + 2) % len := by
  rcases Nat.lt_or_ge (k + 1) len with h1 | h1
  · rw [Nat.mod_eq_of_lt h1]
  · have : k + 1 = len := by omega
    rw [this, Nat.mod_self, show k + 2 = 1 + len by omega, Nat.add_mod_right]

theorem m3_eq {L : List (Int × Int)} {x : Nat} (h : x < L.length) (h3 : 3 ≤ L.length) : m3 L x =
    if 0 < cross (px L x) (py L x) (px L ((x + 1) % L.length)) (py L ((x + 1) % L.length)) (px L ((x + 2) % L.length)) (py L ((x + 2) % L.length)) then 1 else -1 := by
  unfold m3 bendS
  rw [mod_back h h3, mod_forth h h3]

set_option maxRecDepth 100000 in
set_option maxHeartbeats 2000000 in
theorem bend89_any (b off cap : Nat) (L : List (Int × Int)) (h3 : 3 ≤ L.length) (h24 : L.length ≤ 24) (hs : ∀ k, Small (px L k) ∧ Small (py L k)) (w : World)
    (hp : PtsAt w b off L) (x : Nat) (hx : x < L.length) :
    Calls Try.prog 89 #[.slice (some ⟨b, off, none⟩) L.length cap, .int .i64 ((x : Int) + 1)] w fun e w' => e = .returned (.int .i64 (m3 L x)) ∧ Below w.heap.size w w' := by
  have M := m3_eq hx h3
  have HC := Lib.hid (show ∀ k, k < L.length → _ from hp)
  have A0 := at88_from (cap := cap) (by omega) HC ((x : Int)) x (px L x) (py L x) (Lib.hid ⟨by omega, atN_nat hx, rfl, rfl⟩)
  have A1 := at88_from (cap := cap) (by omega) HC ((x : Int) + 1) ((x + 1) % L.length) _ _ (Lib.hid ⟨by omega, atN_succ hx, rfl, rfl⟩)
  have A2 := at88_from (cap := cap) (by omega) HC ((x : Int) + 2) ((x + 2) % L.length) _ _ (Lib.hid ⟨by omega, atN_two, rfl, rfl⟩)
  have C := fun w => refCross_any (px L x) (py L x) (px L ((x + 1) % L.length)) (py L ((x + 1) % L.length)) (px L ((x + 2) % L.length)) (py L ((x + 2) % L.length)) w (hs _).1 (hs _).2 (hs _).1 (hs _).2 (hs _).1 (hs _).2
  generalize cross (px L x) (py L x) (px L ((x + 1) % L.length)) (py L ((x + 1) % L.length)) (px L ((x + 2) % L.length)) (py L ((x + 2) % L.length)) = c at C M
  generalize px L x = x0, py L x = y0 at A0 C
  generalize px L ((x + 1) % L.length) = x1, py L ((x + 1) % L.length) = y1 at A1 C
  generalize px L ((x + 2) % L.length) = x2, py L ((x + 2) % L.length) = y2 at A2 C
  generalize L.length = n at *
  have U1 : IntKind.i64.wrap ((x : Int) + 1 - 1) = x := by rw [wi64 _ (by omega)]; omega
  have U2 : IntKind.i64.wrap ((x : Int) + 1 + 1) = (x : Int) + 2 := by rw [wi64 _ (by omega)]; omega
  have U3 : IntKind.i64.wrap (x : Int) = x := wi64 _ (by omega)
  have U4 : IntKind.i64.wrap ((x : Int) + 2) = (x : Int) + 2 := wi64 _ (by omega)
  have bb := Below.refl w.heap.size w
  have HM := Lib.hid M
  clear hp HC hs M
  go_enter Try.func89, Try.ntmps89
  go_wp2_with fail
  refine (A0 _ bb).mono ?_
  rintro e w1 ⟨rfl, hb⟩
  replace bb := keep_below bb hb
  clear hb
  go_wp2_with fail
  refine (A1 _ bb).mono ?_
  rintro e w2 ⟨rfl, hb⟩
  replace bb := keep_below bb hb
  clear hb
  go_wp2_with fail
  refine (A2 _ bb).mono ?_
  rintro e w3 ⟨rfl, hb⟩
  replace bb := keep_below bb hb
  clear hb
  go_wp2_with fail
  refine (C _).mono ?_
  rintro e w4 ⟨rfl, hb⟩
  replace bb := keep_below bb hb
  clear hb C A0 A1 A2
  by_cases hc : 0 < c
  · have hm : m3 L x = 1 := by rw [HM.out, if_pos hc]
    go_wp2
    go_ret
    exact ⟨by rw [hm]; rfl, bb⟩
  · have hm : m3 L x = -1 := by rw [HM.out, if_neg hc]
    go_wp2
    go_ret
    exact ⟨by rw [hm]; rfl, bb⟩

theorem BoxS.load82 {w : World} {b : Nat} {x y z : Int} (h : BoxS 82 w b (ms x y z)) : (loadVar 82 ⟨b, 0, none⟩).run Try.prog w = .ok (ms x y z) w :=
  run_loadVar_mid (P := Try.prog) w b 0 82 [.int .i64 x, .int .i64 y, .int .i64 z] _ (fun j v hv => by rw [Nat.zero_add]; exact h.cell (by simpa [← List.getElem?_toArray] using hv)) Try.underlying82 rfl (by kernel_rfl)

theorem BoxS.frozen {t : TypeId} {W : World} {B : Nat} {v : Value} (h : BoxS t W B v) (o : Nat) : W.frozen? ⟨B, o, none⟩ = false := by
  obtain ⟨c, e, hb⟩ := h
  unfold World.frozen?
  simp [hb]

theorem BoxS.set {t : TypeId} {W : World} {B : Nat} {c : Array Value} (h : BoxS t W B (.agg c)) (k : Nat) (v : Value) : BoxS t (W.setCell ⟨B, k, none⟩ v) B (.agg (c.setIfInBounds k v)) := by
  obtain ⟨c', e, hb⟩ := h
  cases e
  exact ⟨_, rfl, setCell_heap _ hb⟩

theorem BoxS.keep {t : TypeId} {w w' : World} {b : Nat} {v : Value} (h : BoxS t w b v) (hb : Below w.heap.size w w') : BoxS t w' b v := by
  obtain ⟨c, e, h⟩ := h
  exact ⟨c, e, (hb.block b (Array.getElem?_eq_some_iff.1 h).1).trans h⟩

set_option maxRecDepth 100000 in
set_option maxHeartbeats 4000000 in
theorem measure48_any (b off cap : Nat) (L : List (Int × Int)) (h3 : 3 ≤ L.length) (h24 : L.length ≤ 24) (hs : ∀ k, Small (px L k) ∧ Small (py L k)) (w : World)
    (hp : PtsAt w b off L) (x : Nat) (hx : x < L.length) :
    Calls Try.prog 48 #[.slice (some ⟨b, off, none⟩) L.length cap, .agg #[.int .i64 0, .bool false], .int .i64 x] w fun e w' => e = .returned (ms (m1 L x) (m2 L x) (m3 L x)) ∧ Below w.heap.size w w' := by
  have HC := Lib.hid (show ∀ k, k < L.length → _ from hp)
  have A0 := at88_from (cap := cap) (by omega) HC ((x : Int)) x (px L x) (py L x) (Lib.hid ⟨by omega, atN_nat hx, rfl, rfl⟩)
  have A1 := at88_from (cap := cap) (by omega) HC ((x : Int) + 1) ((x + 1) % L.length) _ _ (Lib.hid ⟨by omega, atN_succ hx, rfl, rfl⟩)
  have A2 := at88_from (cap := cap) (by omega) HC ((x : Int) + 2) ((x + 2) % L.length) _ _ (Lib.hid ⟨by omega, atN_two, rfl, rfl⟩)
  have D1 := fun w => dist_any (px L x) (py L x) (px L ((x + 1) % L.length)) (py L ((x + 1) % L.length)) w (hs _).1 (hs _).2 (hs _).1 (hs _).2
  have D2 := fun w => dist_any (px L x) (py L x) (px L ((x + 2) % L.length)) (py L ((x + 2) % L.length)) w (hs _).1 (hs _).2 (hs _).1 (hs _).2
  have BB := Lib.hid (fun (w' : World) (hb : Below w.heap.size w w') => bend89_any b off cap L h3 h24 hs w' (hp.keep hb) x hx)
  rw [show square (px L x) (py L x) (px L ((x + 1) % L.length)) (py L ((x + 1) % L.length)) = m1 L x from rfl] at D1
  rw [show square (px L x) (py L x) (px L ((x + 2) % L.length)) (py L ((x + 2) % L.length)) = m2 L x from rfl] at D2
  generalize m1 L x = a1 at *
  generalize m2 L x = a2 at *
  generalize m3 L x = a3 at *
  generalize px L x = x0, py L x = y0 at A0 D1 D2
  generalize px L ((x + 1) % L.length) = x1, py L ((x + 1) % L.length) = y1 at A1 D1
  generalize px L ((x + 2) % L.length) = x2, py L ((x + 2) % L.length) = y2 at A2 D2
  generalize L.length = n at *
  have U0 : IntKind.i64.wrap (x : Int) = x := wi64 _ (by omega)
  have U1 : IntKind.i64.wrap ((x : Int) + 1) = (x : Int) + 1 := wi64 _ (by omega)
  have U2 : IntKind.i64.wrap ((x : Int) + 2) = (x : Int) + 2 := wi64 _ (by omega)
  have bb : Below w.heap.size w ((w.alloc (.cells #[.int .i64 0, .bool false] 85)).alloc (.cells #[.int .i64 0, .int .i64 0, .int .i64 0] 82)) := ((Below.refl _ _).alloc (Nat.le_refl _) _).alloc (by simp) _
  have bx : BoxS 82 ((w.alloc (.cells #[.int .i64 0, .bool false] 85)).alloc (.cells #[.int .i64 0, .int .i64 0, .int .i64 0] 82)) (w.heap.size + 1) (ms 0 0 0) := by
    have := BoxS.new 82 (w.alloc (.cells #[.int .i64 0, .bool false] 85)) #[.int .i64 0, .int .i64 0, .int .i64 0]
    rwa [World.size_alloc] at this
  clear hp HC hs
  go_enter Try.func48, Try.ntmps48
  go_wp2_with fail
  refine (A0 _ bb).mono ?_
  rintro e w1 ⟨rfl, hb⟩
  replace bx := bx.keep hb
  replace bb := keep_below bb hb
  clear hb
  go_wp2_with fail
  refine (A1 _ bb).mono ?_
  rintro e w1 ⟨rfl, hb⟩
  replace bx := bx.keep hb
  replace bb := keep_below bb hb
  clear hb
  go_wp2_with fail
  refine (D1 _).mono ?_
  rintro e w1 ⟨rfl, hb⟩
  replace bx := bx.keep hb
  replace bb := keep_below bb hb
  clear hb
  go_wp2_with fail
  refine (A0 _ bb).mono ?_
  rintro e w1 ⟨rfl, hb⟩
  replace bx := bx.keep hb
  replace bb := keep_below bb hb
  clear hb
  go_wp2_with fail
  refine (A2 _ bb).mono ?_
  rintro e w1 ⟨rfl, hb⟩
  replace bx := bx.keep hb
  replace bb := keep_below bb hb
  clear hb
  go_wp2_with fail
  refine (D2 _).mono ?_
  rintro e w1 ⟨rfl, hb⟩
  replace bx := bx.keep hb
  replace bb := keep_below bb hb
  clear hb
  go_wp2_with fail
  refine (BB.out _ bb).mono ?_
  rintro e w1 ⟨rfl, hb⟩
  replace bx := bx.keep hb
  replace bb := keep_below bb hb
  clear hb
  have c0 := bx.cell (o := 0) rfl
  have c1 := bx.cell (o := 1) rfl
  have c2 := bx.cell (o := 2) rfl
  have g0 := bx.frozen 0
  have g1 := bx.frozen 1
  have g2 := bx.frozen 2
  clear A0 A1 A2 D1 D2 BB
  go_wp2_with fail
  have s3 := ((bx.set 0 (.int .i64 a1)).set 1 (.int .i64 a2)).set 2 (.int .i64 a3)
  refine bodyPost_ret (v := ms a1 a2 a3) (results_cell rfl _ rfl (BoxS.load82 s3)) rfl ⟨rfl, ?_⟩
  exact ((bb.setCell (by simp) _).setCell (by simp) _).setCell (by simp) _

theorem five_at (w : World) (p : Nat) (hp : p = w.heap.size) (a b c d e : Int) : ∀ j u, [Value.int .i64 a, .int .i64 b, .int .i64 c, .int .i64 d, .int .i64 e][j]? = some u → (w.alloc (.cells #[.int .i64 a, .int .i64 b, .int .i64 c, .int .i64 d, .int .i64 e] 67)).cell? ((⟨p, 0, none⟩ : Addr).add j) = some u := by
  subst hp
  exact five_new w a b c d e

theorem gauL_len (L : List (Int × Int)) (pre : List Nat) : (gauL L pre).length = pre.length * 5 := by
  induction pre with
  | nil => rfl
  | cons x l ih => simp [gauL, gau] at ih ⊢; omega

set_option maxRecDepth 100000 in
set_option maxHeartbeats 4000000 in
theorem refGauges_good (b off cap : Nat) (L : List (Int × Int)) (hv : vOut L = true) (w : World) (hp : PtsAt w b off L) :
    Calls Try.prog 16 #[.slice (some ⟨b, off, none⟩) L.length cap] w fun e w' => ∃ v, e = .returned (.tuple #[v, .int .i64 0]) ∧ w'.ownsRow w.heap.size 67 5 v L.length (gauL L (List.range L.length)) ∧ Below w.heap.size w w' := by
  obtain ⟨i0, hi, hz0, hz1, hz2⟩ := info_parts info67
  obtain ⟨h3, h24, hvp⟩ := vOut_n hv
  have hsm := vPts_small hvp
  have C1 : Calls Try.prog 47 #[.slice (some ⟨b, off, none⟩) L.length cap] w fun e w' => e = .returned (.bool (vOut L)) ∧ Below w.heap.size w w' := by
    rw [vOut_rOut]
    exact refOut_any b off cap L (by omega) w hp
  rw [hv] at C1
  have MM := Lib.hid (fun (x : Nat) (hx : x < L.length) (w' : World) (hb : Below w.heap.size w w') => measure48_any b off cap L h3 h24 hsm w' (hp.keep hb) x hx)
  have GS := Lib.hid (fun k => (show gauL L (List.range (k + 1)) = gauL L (List.range k) ++ [.int .i64 (m1 L k), .int .i64 (m1 L k), .int .i64 (m2 L k), .int .i64 (m2 L k), .int .i64 (m3 L k)] by rw [List.range_succ]; exact gauL_snoc L _ k))
  have GN : gauL L (List.range 0) = [] := rfl
  clear hp hsm hvp hv
  generalize m1 L = f1 at *
  generalize m2 L = f2 at *
  generalize m3 L = f3 at *
  generalize gauL L = gl at *
  generalize L.length = n at *
  go_enter Try.func16, Try.ntmps16
  go_wp2_with fail
  refine C1.mono ?_
  rintro e w1 ⟨rfl, hb1⟩
  go_wp2_with fail
  go_loopw [4, 5] (fun u i wr => ∃ k : Nat, k ≤ n ∧ i = .int .i64 k ∧ wr.ownsRow w.heap.size 67 5 u k (gl (List.range k)) ∧ Below w.heap.size w wr) (fun _ i _ => n - (intOf i).toNat)
  case atStart => exact ⟨0, Nat.zero_le _, rfl, by rw [GN]; exact World.ownsRow_nil _ _ _ _, hb1⟩
  case round =>
    clear hb1 w1
    obtain ⟨k, hk, rfl, hown, hbel⟩ := hrel
    by_cases hlt : k < n
    · have j1 : (k : Int) < (n : Int) := by omega
      have M := MM.out k hlt wr hbel
      have G := GS.out k
      have HG := Lib.hid G
      clear G MM GS
      generalize f1 k = a1 at *
      generalize f2 k = a2 at *
      generalize f3 k = a3 at *
      go_wp2_with fail
      refine M.mono ?_
      rintro e w2 ⟨rfl, hb2⟩
      have own2 := own_keep hown hb2
      have b2 := keep_below hbel hb2
      clear M hown hbel hb2 GN
      have zz := b2.size
      generalize gl (List.range k) = xs at own2 HG
      go_wp2_with (at_builtin; go_loud (refine wpList_append_own _ rfl _ _ 22 rfl w.heap.size 67 i0 (gg 0 0 0 0 0) 5 40 Try.underlying22 hi hz0 hz1 hz2 rfl (by decide) _ _ _ rfl ((own2.alloc _).alloc _) _ 1 1 [.int .i64 a1, .int .i64 a1, .int .i64 a2, .int .i64 a2, .int .i64 a3] rfl rfl (five_at _ _ (by simp) _ _ _ _ _) (five_cells _ _ _ _ _) (by unfold maxLen; omega) (by omega) (by simp; omega) ?_; intro v1 w4 hown4 hgrow4 hnil4))
      have b4 := ((b2.alloc b2.size (.cells #[.int .i64 a1, .int .i64 a2, .int .i64 a3] 82)).alloc (by simp; omega) (.cells #[.int .i64 a1, .int .i64 a1, .int .i64 a2, .int .i64 a2, .int .i64 a3] 67)).grown hgrow4 (by simp; omega) (fun j hj => (own2.lt j hj).1)
      refine ⟨⟨k + 1, by omega, by simp, ?_, b4⟩, by simp [intOf]; omega⟩
      rw [HG.out]
      exact hown4
    · obtain rfl : k = n := by omega
      go_wp2
      go_ret2
      exact ⟨_, rfl, hown, hbel⟩

end Go.Proofs.Ytiebbbeijlfedaa

/- Walks: Clone of gauges, wider. -/
namespace Go.Proofs.Ytiebbbeijlfedaa
open Go Go.RowKit Go.Proofs Go.Abs

/-- The cell j of a row of gauges. -/
def cG (G : Nat → G5) (j : Nat) : Value := if j % 5 = 0 then .int .i64 (G (j / 5)).a else if j % 5 = 1 then .int .i64 (G (j / 5)).b else if j % 5 = 2 then .int .i64 (G (j / 5)).c else if j % 5 = 3 then .int .i64 (G (j / 5)).d else .int .i64 (G (j / 5)).e
def rowG (G : Nat → G5) (n : Nat) : List Value := (List.range (n * 5)).map (cG G)

theorem rowG_len (G : Nat → G5) (n : Nat) : (rowG G n).length = n * 5 := by simp [rowG]
theorem rowG_get (G : Nat → G5) {n j : Nat} (h : j < n * 5) : (rowG G n)[j]? = some (cG G j) := by
  unfold rowG
  rw [List.getElem?_map, List.getElem?_range h]
  rfl

theorem cG_one (G : Nat → G5) (j : Nat) : (cG G j).oneCell' = true := by
  unfold cG
  repeat' split
  all_goals rfl

theorem rowG_one (G : Nat → G5) (n : Nat) : ∀ u ∈ rowG G n, u.oneCell' = true := by
  intro u hu
  unfold rowG at hu
  obtain ⟨j, -, rfl⟩ := List.mem_map.1 hu
  exact cG_one G j

theorem cG_0 (G : Nat → G5) (k : Nat) : cG G (k * 5) = .int .i64 (G k).a := by
  unfold cG; rw [if_pos (by omega), show k * 5 / 5 = k by omega]
theorem cG_1 (G : Nat → G5) (k : Nat) : cG G (k * 5 + 1) = .int .i64 (G k).b := by
  unfold cG; rw [if_neg (by omega), if_pos (by omega), show (k * 5 + 1) / 5 = k by omega]
theorem cG_2 (G : Nat → G5) (k : Nat) : cG G (k * 5 + 2) = .int .i64 (G k).c := by
  unfold cG; rw [if_neg (by omega), if_neg (by omega), if_pos (by omega), show (k * 5 + 2) / 5 = k by omega]
theorem cG_3 (G : Nat → G5) (k : Nat) : cG G (k * 5 + 3) = .int .i64 (G k).d := by
  unfold cG; rw [if_neg (by omega), if_neg (by omega), if_neg (by omega), if_pos (by omega), show (k * 5 + 3) / 5 = k by omega]
theorem cG_4 (G : Nat → G5) (k : Nat) : cG G (k * 5 + 4) = .int .i64 (G k).e := by
  unfold cG; rw [if_neg (by omega), if_neg (by omega), if_neg (by omega), if_neg (by omega), show (k * 5 + 4) / 5 = k by omega]

theorem SlG.cell {w : World} {v : Value} {G : List G5} (h : SlG w v G) (hn : 0 < G.length) : ∃ b off cap, v = .slice (some ⟨b, off, none⟩) G.length cap ∧ ∀ j, j < G.length * 5 → w.cell? ⟨b, off + j, none⟩ = some (cG (gz G) j) := by
  obtain ⟨a, cap, rfl, hl, hc⟩ := h
  obtain ⟨b, off, rfl, -⟩ := hc 0 hn
  refine ⟨b, off, cap, rfl, fun j hj => ?_⟩
  obtain ⟨b', off', e, h0, h1, h2, h3, h4⟩ := hc (j / 5) (by omega)
  cases e
  rcases (show j = j / 5 * 5 ∨ j = j / 5 * 5 + 1 ∨ j = j / 5 * 5 + 2 ∨ j = j / 5 * 5 + 3 ∨ j = j / 5 * 5 + 4 by omega) with e | e | e | e | e
  all_goals rw [e]
  · rw [cG_0]; exact h0
  · rw [cG_1]; exact h1
  · rw [cG_2]; exact h2
  · rw [cG_3]; exact h3
  · rw [cG_4]; exact h4

theorem run_nil_eqlG (a : Addr) (n c : Nat) (w : World) : (binOp .eql 22 (.slice (some a) n c) (.slice none 0 0)).run Try.prog w = .ok (.bool false) w := by
  kernel_rfl

set_option maxRecDepth 100000 in
set_option maxHeartbeats 2000000 in
theorem cloneG_any (b off n cap : Nat) (G : Nat → G5) (h0 : 0 < n) (h1 : n ≤ 1000000) (w : World) (hc : ∀ j, j < n * 5 → w.cell? ⟨b, off + j, none⟩ = some (cG G j)) :
    Calls Try.prog 49 #[.slice (some ⟨b, off, none⟩) n cap] w fun e w' => ∃ v, e = .returned v ∧ w'.ownsRow w.heap.size 67 5 v n (rowG G n) ∧ Below w.heap.size w w' := by
  obtain ⟨i0, hi, hz0, hz1, hz2⟩ := info_parts info67
  have NE := run_nil_eqlG ⟨b, off, none⟩ n cap
  have hx : ∀ j u, (rowG G n)[j]? = some u → (w.alloc (Obj.cells #[] 67)).cell? ((⟨b, off, none⟩ : Addr).add j) = some u := by
    intro j u hj
    have hjl : j < n * 5 := by
      have := (List.getElem?_eq_some_iff.1 hj).1
      rwa [rowG_len] at this
    rw [rowG_get G hjl] at hj
    cases hj
    rw [Addr.add_lit]
    exact keep_cell ((Below.refl _ _).alloc (Nat.le_refl _) _) (hc j hjl)
  clear hc
  go_enter Try.func49, Try.ntmps49
  go_wp2_with (at_builtin; refine wpList_append_grows _ rfl _ _ 22 rfl 67 i0 (gg 0 0 0 0 0) 5 40 Try.underlying22 hi hz0 hz1 hz2 rfl (by decide) _ 0 0 [] rfl (by simp) rfl (by simp) ⟨b, off, none⟩ n cap (rowG G n) rfl (rowG_len _ _) hx (rowG_one G n) (by omega) (by unfold maxLen; omega) (by omega) ?_; intro v' w' hown hgr)
  go_ret
  have hz : (w.alloc (Obj.cells #[] 67)).heap.size = w.heap.size + 1 := by simp
  refine ⟨v', rfl, ?_, ((Below.refl _ w).alloc (Nat.le_refl _) (Obj.cells #[] 67)).grown hgr (by omega) (fun k e => by cases e)⟩
  have := own_base hown (B' := w.heap.size) (by omega)
  simpa using this

theorem ret_spn {a b c d : Int} (h1 : a = c) (h2 : b = d) : Ending.returned (spn a b) = .returned (spn c d) := by rw [h1, h2]
theorem sp_two (w : World) (a b c d : Int) : Sp ((w.alloc (.cells #[.int .i64 a, .int .i64 b] 42)).alloc (.cells #[.int .i64 c, .int .i64 d] 42)) (w.heap.size + 1) c d := by
  have := Sp.new (w.alloc (spnObj a b)) c d
  rwa [World.size_alloc] at this
theorem sp_below (w : World) (a b c d : Int) : Below w.heap.size w ((w.alloc (.cells #[.int .i64 a, .int .i64 b] 42)).alloc (.cells #[.int .i64 c, .int .i64 d] 42)) := ((Below.refl _ _).alloc (Nat.le_refl _) _).alloc (by simp) _

def wLo (lo by_ least : Int) : Int := max (lo - by_) least
def wHi (hi by_ : Int) : Int := min (hi + by_) 33554432

set_option maxRecDepth 100000 in
set_option maxHeartbeats 2000000 in
theorem wider_any (lo hi y least : Int) (h1 : 0 ≤ lo ∧ lo ≤ 33554432) (h2 : 0 ≤ hi ∧ hi ≤ 33554432) (h3 : 0 ≤ y ∧ y ≤ 33554432) (w : World) :
    Calls Try.prog 50 #[spn lo hi, .int .i64 y, .int .i64 least] w fun e w' => e = .returned (spn (wLo lo y least) (wHi hi y)) ∧ Below w.heap.size w w' := by
  have U1 : IntKind.i64.wrap (lo - y) = lo - y := wi64 _ (by omega)
  have U2 : IntKind.i64.wrap (hi + y) = hi + y := wi64 _ (by omega)
  have s0 : Sp (w.alloc (spnObj lo hi)) w.heap.size lo hi := Sp.new w lo hi
  have s1 := s0.alloc (.cells #[.int .i64 0, .int .i64 0] 42)
  have r1 : Sp ((w.alloc (spnObj lo hi)).alloc (.cells #[.int .i64 0, .int .i64 0] 42)) (w.heap.size + 1) 0 0 := by
    have := Sp.new (w.alloc (spnObj lo hi)) 0 0
    rwa [World.size_alloc] at this
  have d0 := s1.c0
  have d1 := s1.c1
  have c0 := r1.c0
  have c1 := r1.c1
  have f0 := r1.f 0
  have f1 := r1.f 1
  have bb : Below w.heap.size w ((w.alloc (spnObj lo hi)).alloc (.cells #[.int .i64 0, .int .i64 0] 42)) := ((Below.refl _ _).alloc (Nat.le_refl _) _).alloc (by simp) _
  clear s0
  go_enter Try.func50, Try.ntmps50
  go_wp2_with fail
  all_goals refine bodyPost_ret (results_cell (p := ⟨w.heap.size + 1, 0, none⟩) rfl _ rfl (Sp.load (sp_two w lo hi _ _))) rfl ⟨ret_spn ?_ ?_, sp_below w lo hi _ _⟩
  all_goals first
    | (unfold wLo; omega)
    | (unfold wHi; omega)

end Go.Proofs.Ytiebbbeijlfedaa
