/- The abstract machine, part XE. -/
import Derived.Test.YtlocdadkhdcedaaX14
import Derived.Test.YtlocdadkhdcedaaV1
import Derived.Test.YtlocdadkhdcedaaXA
/- Lists without one point; slices with room. -/
namespace Go.Proofs.Ytlocdadkhdcedaa
open Go Go.RowKit Go.Proofs Go.Abs Go.Plain Go.WideShapes Go.ChangeShapes Go.Deep

theorem freeB_congr {xs ys xs' ys' : Nat → Int} {dx dy : Int} {n : Nat} (h : ∀ j, j < n → xs j = xs' j ∧ ys j = ys' j) : freeB xs ys dx dy n = freeB xs' ys' dx dy n := by
  rw [Bool.eq_iff_iff, freeB_iff, freeB_iff]
  constructor
  · intro h1 j hj
    rw [← (h j hj).1, ← (h j hj).2]
    exact h1 j hj
  · intro h1 j hj
    rw [(h j hj).1, (h j hj).2]
    exact h1 j hj

theorem freeAt_congr {xs ys xs' ys' : Nat → Int} {n i : Nat} (h : ∀ j, j < n → xs j = xs' j ∧ ys j = ys' j) (hi : i < n) : freeAt xs ys n i = freeAt xs' ys' n i := by
  have e1 : dX xs ys i = dX xs' ys' i := by unfold dX; rw [(h i hi).1, (h i hi).2]
  have e2 : dY xs ys i = dY xs' ys' i := by unfold dY; rw [(h i hi).1, (h i hi).2]
  unfold freeAt
  rw [e1, e2, freeB_congr h, freeB_congr h]

theorem freeTo_congr {xs ys xs' ys' : Nat → Int} {n : Nat} (h : ∀ j, j < n → xs j = xs' j ∧ ys j = ys' j) : ∀ k, k ≤ n → freeTo xs ys n k = freeTo xs' ys' n k
  | 0, _ => rfl
  | k + 1, hk => by
    unfold freeTo
    rw [freeTo_congr h k (by omega), freeAt_congr h (by omega)]

theorem freeD_congr {xs ys xs' ys' : Nat → Int} {n : Nat} (h : ∀ j, j < n → xs j = xs' j ∧ ys j = ys' j) : freeD xs ys n = freeD xs' ys' n := by
  unfold freeD
  rw [freeTo_congr h n (Nat.le_refl _)]

def sk (i j : Nat) : Nat := if j < i then j else j + 1

theorem px_erase {A : List (Int × Int)} {i j : Nat} : px (A.eraseIdx i) j = px A (sk i j) ∧ py (A.eraseIdx i) j = py A (sk i j) := by
  unfold px py sk
  rw [List.getD_eq_getElem?_getD, List.getElem?_eraseIdx]
  split <;> simp [List.getD_eq_getElem?_getD]

theorem allN_iff {xs ys : Nat → Int} {n : Nat} : allN xs ys n = true ↔ ∀ k, k < n → validN (xs k) (ys k) = true := by
  unfold allN
  rw [List.all_eq_true]
  exact ⟨fun h k hk => h k (List.mem_range.2 hk), fun h k hk => h k (List.mem_range.1 hk)⟩

theorem okN_iff {xs ys : Nat → Int} {n : Nat} : okN xs ys n = true ↔ n ≤ 24 ∧ ∀ k, k < n → validN (xs k) (ys k) = true := by
  unfold okN
  rw [Bool.and_eq_true, decide_eq_true_eq, allN_iff]

/-- Without one point there is a direction. -/
theorem less_ok {A : List (Int × Int)} {i : Nat} (hi : i < A.length) (hA : okN (px A) (py A) A.length = true) (h : freeD (fun j => px A (sk i j)) (fun j => py A (sk i j)) (A.length - 1) ≠ none)
    {base : Nat} {W : World} {dv bv : Value} {E : Int} (hE : ExitS (px (A.eraseIdx i)) (py (A.eraseIdx i)) (A.eraseIdx i).length base W dv bv E) : E = 0 := by
  have hlen : (A.eraseIdx i).length = A.length - 1 := by rw [List.length_eraseIdx, if_pos hi]
  obtain ⟨h24, hv⟩ := okN_iff.1 hA
  have hok : okN (px (A.eraseIdx i)) (py (A.eraseIdx i)) (A.eraseIdx i).length = true := okN_iff.2 ⟨by omega, fun k hk => by
    rw [px_erase.1, px_erase.2]
    exact hv _ (by unfold sk; split <;> omega)⟩
  rcases hE with ⟨_, o, _, _⟩ | ⟨rfl, _⟩ | ⟨_, _, o, _⟩
  · rw [hok] at o; cases o
  · rfl
  · exfalso
    rw [hlen] at o
    rw [freeD_congr (xs' := fun j => px A (sk i j)) (ys' := fun j => py A (sk i j)) (fun j _ => px_erase)] at o
    exact h o

theorem slv_own {W : World} {base : Nat} {v : Value} {L : List (Int × Int)} (h : W.ownsRow base 23 2 v L.length (ptCells L)) (hl : L.length ≤ 9223372036854775807) : SlV W v L := by
  have h2 := h.2
  rcases h2 with ⟨rfl, h0⟩ | ⟨g, cap, cur, rfl, _⟩
  · obtain rfl : L = [] := List.eq_nil_of_length_eq_zero h0
    exact ⟨none, 0, rfl, by simp, .inr ⟨rfl, rfl, rfl⟩⟩
  · refine ⟨_, cap, rfl, hl, .inl ⟨g, 0, rfl, fun k hk => ?_⟩⟩
    obtain ⟨h1, h2⟩ := ptCells_get L k hk
    have c1 := World.ownsRow.cells (g := g) h rfl _ _ h1
    have c2 := World.ownsRow.cells (g := g) h rfl _ _ h2
    rw [Addr.add_lit] at c1 c2
    exact ⟨c1, by rw [Nat.add_assoc]; exact c2⟩

theorem ptCells_append (L M : List (Int × Int)) : ptCells (L ++ M) = ptCells L ++ ptCells M := by
  induction L with
  | nil => rfl
  | cons p ps ih => simp [ptCells, ih]

theorem ptCells_len (L : List (Int × Int)) : (ptCells L).length = L.length * 2 := by
  induction L with
  | nil => rfl
  | cons p ps ih => simp [ptCells, ih]; omega

theorem ptCells_one (L : List (Int × Int)) : ∀ u ∈ ptCells L, u.oneCell' = true := by
  induction L with
  | nil => intro u hu; cases hu
  | cons p ps ih =>
    intro u hu
    simp only [ptCells, List.mem_cons] at hu
    rcases hu with rfl | rfl | hu
    · rfl
    · rfl
    · exact ih u hu

/-- The cells of a list of points that lies at an address. -/
theorem pts_cells {W : World} {b off : Nat} {L : List (Int × Int)} (h : PtsAt W b off L) : ∀ j u, (ptCells L)[j]? = some u → W.cell? ((⟨b, off, none⟩ : Addr).add j) = some u := by
  intro j u hu
  rw [Addr.add_lit]
  have hj : j < L.length * 2 := by
    rw [← ptCells_len]
    exact (List.getElem?_eq_some_iff.1 hu).1
  obtain ⟨h1, h2⟩ := ptCells_get L (j / 2) (by omega)
  obtain ⟨c1, c2⟩ := h (j / 2) (by omega)
  rcases Nat.mod_two_eq_zero_or_one j with hm | hm
  · have e : j = j / 2 * 2 := by omega
    rw [← e] at h1 c1
    rw [h1] at hu
    cases hu
    exact c1
  · have e : j = j / 2 * 2 + 1 := by omega
    rw [← e] at h2
    rw [h2] at hu
    cases hu
    rw [show off + j / 2 * 2 + 1 = off + j by omega] at c2
    exact c2

theorem pts_take {W : World} {b off : Nat} {L : List (Int × Int)} (h : PtsAt W b off L) (i : Nat) : PtsAt W b off (L.take i) := fun k hk => by
  rw [List.length_take] at hk
  have e : (L.take i).getD k (0, 0) = L.getD k (0, 0) := by
    rw [List.getD_eq_getElem?_getD, List.getD_eq_getElem?_getD, List.getElem?_take, if_pos (by omega)]
  have := h k (by omega)
  unfold px py at *
  rw [e]
  exact this

theorem pts_drop {W : World} {b off : Nat} {L : List (Int × Int)} (h : PtsAt W b off L) (i : Nat) : PtsAt W b (off + i * 2) (L.drop i) := fun k hk => by
  rw [List.length_drop] at hk
  have e : (L.drop i).getD k (0, 0) = L.getD (i + k) (0, 0) := by
    rw [List.getD_eq_getElem?_getD, List.getD_eq_getElem?_getD, List.getElem?_drop]
  have := h (i + k) (by omega)
  unfold px py at *
  rw [e]
  rw [show off + i * 2 + k * 2 = off + (i + k) * 2 by omega]
  exact this

theorem cut_one (L : List (Int × Int)) (i : Nat) : L.take i ++ L.drop (i + 1) = L.eraseIdx i := (List.eraseIdx_eq_take_drop_succ L i).symm

set_option maxRecDepth 100000 in
theorem slvc_of {H : Type} {enc : TypeId × Value → H} {W : World} {base : Nat} {sp : Nat → Bool} {held : Bool} {v : Value} {d : DataW H} {p : List MemPlace} (hok : Value.okWide Try.prog W .any base 32 v)
    (h : DataW.Trod enc Try.prog W 0 sp held 32 v d p) : ∃ L, SlV W v L ∧ ∀ a n c, v = .slice a n c → n ≤ c := by
  obtain ⟨L, hL⟩ := slv_of hok h
  refine ⟨L, hL, ?_⟩
  obtain ⟨a, len, cap, rfl⟩ := okWide_slice Try.underlying32 hok
  obtain ⟨m, hm⟩ := h
  rcases open_slice_pairs Try.underlying32 Try.underlying23 (by kernel_rfl) rfl rfl (by kernel_rfl) (by kernel_rfl) hm with ⟨hcs, -⟩ | ⟨a', len', cap', m', n', V0, V1, D0, D1, P0, P1, hcs, -, hl, hcap, hmm, -, hall⟩
  · have e : Value.slice a len cap = .slice none 0 0 := by simpa [Value.cells] using hcs
    intro a2 n2 c2 e2
    rw [e] at e2
    cases e2
    exact Nat.le_refl _
  · have e : Value.slice a len cap = .slice (some a') len' cap' := by simpa [Value.cells] using hcs
    intro a2 n2 c2 e2
    rw [e] at e2
    cases e2
    exact hl

end Go.Proofs.Ytlocdadkhdcedaa

/- The law PlaneDirections: its parts. -/
namespace Go.Proofs.Ytlocdadkhdcedaa
open Go Go.RowKit Go.Proofs Go.Abs Go.Plain

def indI (k : Int) : Int := if k < 0 then -(k + 1) else k

theorem index_any (k : Int) (n : Nat) (h1 : -9223372036854775808 ≤ k) (h2 : k ≤ 9223372036854775807) (hn : 0 < n) (hn2 : n ≤ 1000000) :
    ∃ i : Nat, i < n ∧ ∀ w, Calls Try.prog 64 #[.int .i64 k, .int .i64 (n : Nat)] w fun e w' => e = .returned (.int .i64 (i : Nat)) ∧ w' = w := by
  have hnn : 0 ≤ indI k := by unfold indI; split <;> omega
  have hm : (indI k).tmod n = ((indI k % n).toNat : Nat) := by
    rw [Int.tmod_eq_emod_of_nonneg hnn, Int.toNat_of_nonneg (Int.emod_nonneg _ (by omega))]
  refine ⟨(indI k % n).toNat, ?_, fun w => ?_⟩
  · have := Int.emod_lt_of_pos (indI k) (show (0 : Int) < n by omega)
    omega
  · obtain ⟨i, hi⟩ : ∃ i : Nat, (indI k % n).toNat = i := ⟨_, rfl⟩
    rw [hi] at hm ⊢
    clear hi
    have n0 : ¬ (n : Int) = 0 := by omega
    by_cases hk : k < 0
    · have e : indI k = -(k + 1) := by unfold indI; rw [if_pos hk]
      rw [e] at hm
      have U1 : wrap64 (k + 1) = k + 1 := w64 _ (by omega)
      have U2 : wrap64 (-(k + 1)) = -(k + 1) := w64 _ (by omega)
      have HM := Lib.hid hm
      clear e hm hnn
      go_enter Try.func64, Try.ntmps64
      go_wp2
      go_ret
      refine ⟨ret_int ?_, rfl⟩
      rw [← HM.out, Int.neg_tmod]
    · have e : indI k = k := by unfold indI; rw [if_neg hk]
      rw [e] at hm
      clear e hnn
      go_enter Try.func64, Try.ntmps64
      go_wp2
      go_ret
      exact ⟨rfl, rfl⟩

set_option maxRecDepth 100000 in
set_option maxHeartbeats 4000000 in
theorem frees_zero (dx dy : Int) (a : Option Addr) (cap : Nat) (w : World) (hne : (dx == 0 && dy == 0) = false) :
    Calls Try.prog 71 #[pt dx dy, .slice a 0 cap] w fun e w' => e = .returned (.bool true) ∧ Below w.heap.size w w' := by
  have E := fun w => run_pt_neq dx dy 0 0 w
  rw [hne] at E
  clear hne
  go_enter Try.func71, Try.ntmps71
  go_wp2_with fail
  have p0 := Pb.new w dx dy
  have b0 : Below w.heap.size w (w.alloc (ptObj dx dy)) := (Below.refl _ _).alloc (Nat.le_refl _) _
  go_loopw [5] (fun i wr => i = .int .i64 0 ∧ Below w.heap.size w wr ∧ Pb wr w.heap.size dx dy) (fun i _ => 0 - (intOf i).toNat)
  case atStart => exact ⟨rfl, b0, p0⟩
  case round =>
    clear b0 p0
    obtain ⟨rfl, hbel, hp⟩ := hrel
    have r0 := hp.c0
    have r1 := hp.c1
    go_wp2
    go_ret
    exact ⟨rfl, hbel⟩

theorem frees_sl {w : World} {v : Value} {L : List (Int × Int)} (h : SlV w v L) (dx dy : Int) (hdx : Small dx) (hdy : Small dy) (hs : ∀ k, k < L.length → Small (px L k) ∧ Small (py L k)) (hf : freeOf dx dy (px L) (py L) L.length = true) (hne : (dx == 0 && dy == 0) = false) :
    Calls Try.prog 71 #[pt dx dy, v] w fun e w' => e = .returned (.bool true) ∧ Below w.heap.size w w' := by
  have hr : freesR dx dy (px L) (py L) L.length = true := by unfold freesR; rw [hf, hne]; rfl
  obtain ⟨a, cap, rfl, hl, h | ⟨rfl, rfl, rfl⟩⟩ := h
  · obtain ⟨b, off, rfl, hp⟩ := h
    have := frees_any dx dy (px L) (py L) b off L.length cap w hl hdx hdy hs hp
    rwa [hr] at this
  · exact frees_zero _ _ _ _ _ hne

/-- The direction is small. -/
theorem freeD_small {xs ys : Nat → Int} {n : Nat} (hs : ∀ k, k < n → Small (xs k) ∧ Small (ys k)) (hz : NonZ xs ys n) {d : Int × Int} (h : freeD xs ys n = some d) : Small d.1 ∧ Small d.2 := by
  unfold freeD at h
  split at h
  · cases h
    unfold Small
    omega
  · obtain ⟨i, hi, h2⟩ := freeTo_at h
    have db := dir_bound (xs := xs) (ys := ys) (B := 8192) i (hz i hi) (hs i hi).1 (hs i hi).2
    unfold freeAt at h2
    unfold Small
    split at h2
    · cases h2; exact db
    · split at h2
      · cases h2
        simp only
        omega
      · cases h2

end Go.Proofs.Ytlocdadkhdcedaa

namespace Go.Proofs.Ytlocdadkhdcedaa
open Go Go.RowKit Go.Proofs
theorem bits7 (gr : Int) : 0 ≤ bits BinOp.and IntKind.i64 gr 7 ∧ bits BinOp.and IntKind.i64 gr 7 ≤ 7 := by
  have h : (BitVec.ofInt 64 gr &&& BitVec.ofInt 64 7).toNat ≤ 7 := by
    rw [BitVec.toNat_and]
    exact Nat.and_le_right
  have e : bits BinOp.and IntKind.i64 gr 7 = IntKind.i64.wrap ((BitVec.ofInt 64 gr &&& BitVec.ofInt 64 7).toNat : Nat) := rfl
  rw [e, wi64 _ (by omega)]
  omega
end Go.Proofs.Ytlocdadkhdcedaa

/- The law PlaneDirections. -/
namespace Go.Proofs.Ytlocdadkhdcedaa
open Go Go.RowKit Go.Proofs Go.Abs Go.Plain

theorem own_erase {W : World} {base n i : Nat} {v : Value} {P : List (Int × Int)} (hn : P.length = n) (hi : i < n) (h : W.ownsRow base 23 2 v (0 + i + (n - (i + 1))) ([] ++ ptCells (P.take i) ++ ptCells (P.drop (i + 1)))) :
    W.ownsRow base 23 2 v (P.eraseIdx i).length (ptCells (P.eraseIdx i)) := by
  have e1 : (P.eraseIdx i).length = 0 + i + (n - (i + 1)) := by rw [List.length_eraseIdx, if_pos (by omega)]; omega
  rw [e1, ← cut_one, ptCells_append]
  simpa using h

theorem own_erase_last {W : World} {base i : Nat} {v : Value} {P : List (Int × Int)} (hn : P.length = i + 1) (h : W.ownsRow base 23 2 v (0 + i + 0) ([] ++ ptCells (P.take i) ++ [])) :
    W.ownsRow base 23 2 v (P.eraseIdx i).length (ptCells (P.eraseIdx i)) := by
  refine own_erase (n := i + 1) hn (by omega) ?_
  rw [List.drop_eq_nil_of_le (by omega), Nat.sub_self]
  exact h

theorem px_sel {xs ys : Nat → Int} {f : Nat → Nat} {s j : Nat} (hj : j < s) : px (selL xs ys f s) j = xs (f j) ∧ py (selL xs ys f s) j = ys (f j) := by
  unfold px py selL
  simp [List.getD_eq_getElem?_getD, hj]

theorem named_ok {xs ys : Nat → Int} {f : Nat → Nat} {n s : Nat} (ho : okN xs ys n = true) (hL : LeastB xs ys n s f) : okN (px (selL xs ys f s)) (py (selL xs ys f s)) (selL xs ys f s).length = true := by
  obtain ⟨h24, hv⟩ := okN_iff.1 ho
  refine okN_iff.2 ⟨?_, fun k hk => ?_⟩
  · rw [selL_len]
    have := hL.cho.size
    omega
  · rw [selL_len] at hk
    rw [(px_sel hk).1, (px_sel hk).2]
    exact hv _ (hL.cho.lt k hk)

theorem cho_sk {n s i : Nat} {f : Nat → Nat} (h : Cho n s f) (hi : i < s) : Cho n (s - 1) fun j => f (sk i j) := by
  constructor
  · intro j hj
    have : sk i j < sk i (j + 1) := by unfold sk; split <;> split <;> omega
    exact h.mono this (by unfold sk; split <;> omega)
  · intro j hj
    exact h.lt _ (by unfold sk; split <;> omega)

theorem named_less {xs ys : Nat → Int} {f : Nat → Nat} {n s i : Nat} (hz : NonZ xs ys n) (hL : LeastB xs ys n s f) (hi : i < s) :
    freeD (fun j => px (selL xs ys f s) (sk i j)) (fun j => py (selL xs ys f s) (sk i j)) ((selL xs ys f s).length - 1) ≠ none := by
  rw [selL_len]
  rw [freeD_congr (xs' := fun j => xs (f (sk i j))) (ys' := fun j => ys (f (sk i j))) (fun j hj => px_sel (by unfold sk; split <;> omega))]
  intro h
  have hc := cho_sk hL.cho hi
  exact hL.less (s - 1) (fun j => f (sk i j)) (by omega) hc ((freeD_comp hz hc.lt).1 h)

theorem named_none {xs ys : Nat → Int} {f : Nat → Nat} {n s : Nat} (_hz : NonZ xs ys n) (hL : LeastB xs ys n s f) (dx dy : Int) : freesR dx dy (fun j => xs (f j)) (fun j => ys (f j)) s = false := by
  have hb := blk_comp.2 hL.blk
  unfold freesR
  cases h : freeOf dx dy (fun j => xs (f j)) (fun j => ys (f j)) s with
  | false => rfl
  | true =>
    have h2 := (freeB_iff (xs := fun j => xs (f j)) (ys := fun j => ys (f j))).1 h
    obtain ⟨e1, e2⟩ := blk_none hb (dx := dx) (dy := dy) (fun i hi => h2 i (List.mem_range.1 hi))
    rw [e1, e2]
    rfl

theorem own_cap {W : World} {base e size g n cap : Nat} {xs : List Value} (h : W.ownsRow base e size (.slice (some ⟨g, 0, none⟩) n cap) n xs) : n ≤ cap := by
  rcases h.2 with ⟨h0, _⟩ | ⟨g2, cap2, cur, h0, _, _, hc, _⟩
  · cases h0
  · cases h0
    exact hc

set_option maxRecDepth 100000 in
set_option maxHeartbeats 16000000 in
theorem directionsLaw_any (v1 : Value) (P : List (Int × Int)) (gr k : Int) (w : World) (h1 : SlV w v1 P) (hcap : ∀ a n c, v1 = .slice a n c → n ≤ c) (_wg : (-9223372036854775808 ≤ gr ∧ gr ≤ 9223372036854775807)) (wk : -9223372036854775808 ≤ k ∧ k ≤ 9223372036854775807) :
    Calls Try.prog 16 #[v1, .int .i64 gr, .int .i64 k] w fun e w' => e = .returned (.bool true) ∧ Below w.heap.size w w' := by
  have HS := Lib.hid h1
  have S1 := fun w' (hb : Below w.heap.size w w') => exit_sl (h1.keep hb)
  obtain ⟨a1, cap1, rfl, hl1, hmem⟩ := h1
  have hc1 := hcap _ _ _ rfl
  obtain ⟨n, hn⟩ : ∃ n, P.length = n := ⟨_, rfl⟩
  have HN := Lib.hid hn
  rw [hn] at S1 hl1 hc1 ⊢
  have HMEM := Lib.hid hmem
  clear hn hcap hmem
  go_enter Try.func16, Try.ntmps16
  go_wp2_with fail
  refine (awake_any _).mono ?_
  rintro e w1 ⟨rfl, b1⟩
  go_wp2_with fail
  refine (S1 w1 b1).mono ?_
  rintro e w2 ⟨dv, bv, E, rfl, X1, hb2⟩
  have b2 := keep_below b1 hb2
  clear S1
  rcases X1 with ⟨rfl, o1, rfl, rfl⟩ | ⟨rfl, o1, rfl, ⟨dx, dy⟩, f1, rfl⟩ | ⟨rfl, o1, f1, rfl, s, f, hL, hown⟩
  · have b3 := b2.alloc b2.size (ptObj 0 0)
    go_wp2
    go_ret
    exact ⟨rfl, b3⟩
  · simp only
    by_cases g16 : (n : Int) > 16
    · have b3 := b2.alloc b2.size (ptObj dx dy)
      go_wp2
      go_ret
      exact ⟨rfl, b3⟩
    · have q3 := Pb.new w2 dx dy
      have b3 := b2.alloc b2.size (ptObj dx dy)
      have c0 := q3.c0
      have c1 := q3.c1
      have hz := okN_nz o1
      have hsm : ∀ j, j < n → Small (px P j) ∧ Small (py P j) := fun j hj => validN_small ((okN_iff.1 o1).2 j hj)
      obtain ⟨sd1, sd2⟩ := freeD_small hsm hz f1
      have hfr := freeD_free f1
      have hd0 := freeD_ne hz f1
      have hne : (dx == 0 && dy == 0) = false := by
        rw [Bool.and_eq_false_iff, beq_eq_false_iff_ne, beq_eq_false_iff_ne]
        rcases Classical.em (dx = 0) with e1 | e1
        · rcases Classical.em (dy = 0) with e2 | e2
          · exact absurd (by rw [e1, e2]) hd0
          · exact .inr e2
        · exact .inl e1
      have FR := frees_sl (HS.out.keep b3) dx dy sd1 sd2 (by rw [HN.out]; exact hsm) (by rw [HN.out]; exact hfr) hne
      rw [HN.out] at FR
      have HZ := Lib.hid hz
      have HSM := Lib.hid hsm
      have HFR := Lib.hid hfr
      have HNE := Lib.hid hne
      have HF1 := Lib.hid f1
      have HO := Lib.hid o1
      clear hz hsm hfr hd0 hne f1 o1 sd1 sd2
      go_wp2_with fail
      refine FR.mono ?_
      rintro e w4 ⟨rfl, hb4⟩
      have b4 := keep_below b3 hb4
      have q4 := q3.keep hb4
      clear c0 c1 FR hb4 b3 q3 hb2 b1 b2
      obtain ⟨B, hB⟩ : ∃ B, w2.heap.size = B := ⟨_, rfl⟩
      rw [hB] at q4 ⊢
      clear hB
      have c0 := q4.c0
      have c1 := q4.c1
      by_cases hn0 : n = 0
      · subst hn0
        have e2 := HF1.out
        unfold freeD at e2
        rw [if_pos rfl] at e2
        cases e2
        have E := fun w => run_pt_eql 1 0 1 0 w
        go_wp2
        go_ret
        exact ⟨rfl, b4⟩
      · obtain ⟨i, hi, IX⟩ := index_any k n wk.1 wk.2 (by omega) (by omega)
        have i0 : ((n : Int) == 0) = false := by simp; omega
        clear hn0
        go_wp2_with fail
        refine (IX _).mono ?_
        rintro e w5 ⟨rfl, rfl⟩
        clear c0 c1 IX
        rcases HMEM.out with ⟨b, off, rfl, hp⟩ | ⟨_, _, hnil⟩
        · have j1 : (i : Int) ≤ (cap1 : Int) := by omega
          have j0 : (0 : Int) ≤ (i : Int) := by omega
          have hp5 := Lib.hid (hp.keep b4)
          obtain ⟨i0', hi0, hz0, hz1, hz2⟩ := info_parts info23
          clear hp
          have htl := Lib.hid (show (ptCells (P.take i)).length = i * 2 by rw [ptCells_len, List.length_take, HN.out]; omega)
          have hdl := Lib.hid (show (ptCells (P.drop (i + 1))).length = (n - (i + 1)) * 2 by rw [ptCells_len, List.length_drop, HN.out])
          have tok1 : True := trivial
          have HLESS : Hid (freeD (fun j => px P (sk i j)) (fun j => py P (sk i j)) (P.length - 1) ≠ none) := Lib.hid (by
            rw [HN.out]
            refine freeD_of_free (nonZ_comp (f := sk i) HZ.out (fun j hj => by unfold sk; split <;> omega)) (dx := dx) (dy := dy) (fun h => ?_) (fun j hj => ?_)
            · have := HNE.out
              rw [h.1, h.2] at this
              cases this
            · exact (freeB_iff.1 HFR.out) (sk i j) (by unfold sk; split <;> omega))
          by_cases hlast : i + 1 < n
          · have j2 : (i : Int) + 1 < (n : Int) := by omega
            have j3 : ¬ i + 1 = cap1 := by omega
            go_wp2_with (first
              | (at_builtin; have _t := tok1; refine wpList_append_own _ rfl _ _ 32 rfl w5.heap.size 23 i0' (pt 0 0) 2 16 Try.underlying32 hi0 hz0 hz1 hz2 rfl (by decide) _ _ _ rfl (World.ownsRow_nil w5 w5.heap.size 23 2) ⟨b, off, none⟩ i _ (ptCells (P.take i)) rfl htl.out (pts_cells (pts_take hp5.out i)) (ptCells_one _) (by unfold maxLen; omega) (by omega) (Nat.le_refl _) ?_; intro v6 w6 hown6 hg6 _; clear tok1
                 have tok2 : True := trivial
                 have hb6 : Below w5.heap.size w5 w6 := (Below.refl _ w5).grown hg6 (Nat.le_refl _) (fun k e => ((World.ownsRow_nil w5 w5.heap.size 23 2).lt k e).1)
                 have hp6 := Lib.hid (hp5.out.keep hb6))
              | (at_builtin; have _t := tok2; refine wpList_append_own _ rfl _ _ 32 rfl w5.heap.size 23 i0' (pt 0 0) 2 16 Try.underlying32 hi0 hz0 hz1 hz2 rfl (by decide) _ _ _ rfl hown6 _ (n - (i + 1)) _ (ptCells (P.drop (i + 1))) rfl hdl.out (pts_cells (pts_drop hp6.out (i + 1))) (ptCells_one _) (by unfold maxLen; omega) (by omega) hb6.size ?_; intro v7 w7 hown7 hg7 _; clear tok2
                 have hb7 := Lib.hid (hb6.grown hg7 hb6.size (fun k e => (hown6.lt k e).1))
                 have hown8 : Hid (w7.ownsRow w5.heap.size 23 2 v7 (P.eraseIdx i).length (ptCells (P.eraseIdx i))) := Lib.hid (own_erase HN.out hi hown7)))
            refine (exit_sl (slv_own hown8.out (by rw [List.length_eraseIdx]; split <;> (have := HN.out; omega)))).mono ?_
            rintro e w8 ⟨dv', bv', E', rfl, X8, hb8⟩
            obtain ⟨x', y', rfl⟩ := exitS_pt X8
            have hE : E' = 0 := less_ok (by rw [HN.out]; exact hi) (by rw [HN.out]; exact HO.out) HLESS.out X8
            subst hE
            have b7 := b4.trans (hb7.out.mono b4.size)
            have b8 := keep_below b7 hb8
            have b9 := b8.alloc b8.size (ptObj x' y')
            clear X8 hown7 hg7 hown6 hg6
            go_wp2
            go_ret
            exact ⟨rfl, b9⟩
          · have hnil : ptCells (P.drop (i + 1)) = [] := by rw [List.drop_eq_nil_of_le (by have := HN.out; omega)]; rfl
            have HNIL := Lib.hid hnil
            clear hnil
            have j4 : i + 1 = n := by omega
            obtain rfl : n = i + 1 := j4.symm
            by_cases hcp : i + 1 = cap1
            · subst hcp
              go_wp2_with (first
                | (at_builtin; have _t := tok1; refine wpList_append_own _ rfl _ _ 32 rfl w5.heap.size 23 i0' (pt 0 0) 2 16 Try.underlying32 hi0 hz0 hz1 hz2 rfl (by decide) _ _ _ rfl (World.ownsRow_nil w5 w5.heap.size 23 2) ⟨b, off, none⟩ i _ (ptCells (P.take i)) rfl htl.out (pts_cells (pts_take hp5.out i)) (ptCells_one _) (by unfold maxLen; omega) (by omega) (Nat.le_refl _) ?_; intro v6 w6 hown6 hg6 _; clear tok1
                   have tok2 : True := trivial
                   have hb6 : Below w5.heap.size w5 w6 := (Below.refl _ w5).grown hg6 (Nat.le_refl _) (fun k e => ((World.ownsRow_nil w5 w5.heap.size 23 2).lt k e).1)
                   have hp6 := Lib.hid (hp5.out.keep hb6))
                | (at_builtin; have _t := tok2; refine wpList_append_own _ rfl _ _ 32 rfl w5.heap.size 23 i0' (pt 0 0) 2 16 Try.underlying32 hi0 hz0 hz1 hz2 rfl (by decide) _ _ _ rfl hown6 _ 0 _ [] rfl rfl (fun j u hj => by cases hj) (fun u hu => by cases hu) (by unfold maxLen; omega) (by omega) hb6.size ?_; intro v7 w7 hown7 hg7 _; clear tok2
                   have hb7 := Lib.hid (hb6.grown hg7 hb6.size (fun k e => (hown6.lt k e).1))
                   have hown8 : Hid (w7.ownsRow w5.heap.size 23 2 v7 (P.eraseIdx i).length (ptCells (P.eraseIdx i))) := Lib.hid (own_erase_last HN.out hown7)))
              refine (exit_sl (slv_own hown8.out (by rw [List.length_eraseIdx]; split <;> (have := HN.out; omega)))).mono ?_
              rintro e w8 ⟨dv', bv', E', rfl, X8, hb8⟩
              obtain ⟨x', y', rfl⟩ := exitS_pt X8
              have hE : E' = 0 := less_ok (by rw [HN.out]; exact hi) (by rw [HN.out]; exact HO.out) HLESS.out X8
              subst hE
              have b7 := b4.trans (hb7.out.mono b4.size)
              have b8 := keep_below b7 hb8
              have b9 := b8.alloc b8.size (ptObj x' y')
              clear X8 hown7 hg7 hown6 hg6
              go_wp2
              go_ret
              exact ⟨rfl, b9⟩
            · have j3 : ¬ i + 1 = cap1 := hcp
              go_wp2_with (first
                | (at_builtin; have _t := tok1; refine wpList_append_own _ rfl _ _ 32 rfl w5.heap.size 23 i0' (pt 0 0) 2 16 Try.underlying32 hi0 hz0 hz1 hz2 rfl (by decide) _ _ _ rfl (World.ownsRow_nil w5 w5.heap.size 23 2) ⟨b, off, none⟩ i _ (ptCells (P.take i)) rfl htl.out (pts_cells (pts_take hp5.out i)) (ptCells_one _) (by unfold maxLen; omega) (by omega) (Nat.le_refl _) ?_; intro v6 w6 hown6 hg6 _; clear tok1
                   have tok2 : True := trivial
                   have hb6 : Below w5.heap.size w5 w6 := (Below.refl _ w5).grown hg6 (Nat.le_refl _) (fun k e => ((World.ownsRow_nil w5 w5.heap.size 23 2).lt k e).1)
                   have hp6 := Lib.hid (hp5.out.keep hb6))
                | (at_builtin; have _t := tok2; refine wpList_append_own _ rfl _ _ 32 rfl w5.heap.size 23 i0' (pt 0 0) 2 16 Try.underlying32 hi0 hz0 hz1 hz2 rfl (by decide) _ _ _ rfl hown6 _ 0 _ [] rfl rfl (fun j u hj => by cases hj) (fun u hu => by cases hu) (by unfold maxLen; omega) (by omega) hb6.size ?_; intro v7 w7 hown7 hg7 _; clear tok2
                   have hb7 := Lib.hid (hb6.grown hg7 hb6.size (fun k e => (hown6.lt k e).1))
                   have hown8 : Hid (w7.ownsRow w5.heap.size 23 2 v7 (P.eraseIdx i).length (ptCells (P.eraseIdx i))) := Lib.hid (own_erase_last HN.out hown7)))
              refine (exit_sl (slv_own hown8.out (by rw [List.length_eraseIdx]; split <;> (have := HN.out; omega)))).mono ?_
              rintro e w8 ⟨dv', bv', E', rfl, X8, hb8⟩
              obtain ⟨x', y', rfl⟩ := exitS_pt X8
              have hE : E' = 0 := less_ok (by rw [HN.out]; exact hi) (by rw [HN.out]; exact HO.out) HLESS.out X8
              subst hE
              have b7 := b4.trans (hb7.out.mono b4.size)
              have b8 := keep_below b7 hb8
              have b9 := b8.alloc b8.size (ptObj x' y')
              clear X8 hown7 hg7 hown6 hg6
              go_wp2
              go_ret
              exact ⟨rfl, b9⟩
        · exfalso
          have := HN.out
          rw [hnil] at this
          simp at this
          omega
  · by_cases g16 : (n : Int) > 16
    · have b3 := b2.alloc b2.size (ptObj 0 0)
      go_wp2
      go_ret
      exact ⟨rfl, b3⟩
    · have hz := okN_nz o1
      have hsm : ∀ j, j < n → Small (px P j) ∧ Small (py P j) := fun j hj => validN_small ((okN_iff.1 o1).2 j hj)
      have hsz := hL.size ((freeD_none hz).1 f1)
      have hs0 : 0 < s := by omega
      obtain ⟨g, cp, rfl⟩ := own_slice hown hs0
      have hnum := numL_own hown
      have glt := (hown.lt g rfl).2
      have HZ := Lib.hid hz
      have HSM := Lib.hid hsm
      have HL := Lib.hid hL
      have HO := Lib.hid o1
      have hn0 : 0 < n := by have := hL.cho.size; omega
      have l3 : ¬ (s : Int) < 3 := by omega
      have l4 : ¬ (s : Int) > 4 := by omega
      have b3 := b2.alloc b2.size (ptObj 0 0)
      have HR := Lib.hid (fun j hj => pt_old w2 (ptObj 0 0) (hnum j hj))
      have q3 := Pb.new w2 0 0
      have c0 := q3.c0
      have c1 := q3.c1
      have E := fun w => run_pt_neq 0 0 0 0 w
      clear hz hsm hL o1 f1 hown hnum hsz
      rcases HMEM.out with ⟨b, off, rfl, hp⟩ | ⟨_, _, hnil⟩
      case inr =>
        exfalso
        have := HN.out
        rw [hnil] at this
        simp at this
        omega
      case inl =>
        have hp3 := Lib.hid (hp.keep b3)
        obtain ⟨i0', hi0, hz0, hz1, hz2⟩ := info_parts info23
        clear hp
        go_wp2_with fail
        obtain ⟨w3, hw3⟩ : ∃ w3, w2.alloc (ptObj 0 0) = w3 := ⟨_, rfl⟩
        rw [hw3] at b3 HR hp3 c0 c1 q3
        change Code.wp _ _ _ _ (w2.alloc (ptObj 0 0))
        rw [hw3]
        clear hw3 c0 c1 E b1 b2 hb2
        go_loopw [16, 17] (fun t i wr => ∃ (k : Nat) (v : Value), k ≤ s ∧ i = .int .i64 k ∧ t = v ∧ wr.ownsRow w3.heap.size 23 2 v k (ptCells (selL (px P) (py P) f k)) ∧ Below w3.heap.size w3 wr) (fun _ i _ => s - (intOf i).toNat)
        case atStart => exact ⟨0, _, Nat.zero_le _, rfl, rfl, World.ownsRow_nil _ _ _ _, Below.refl _ _⟩
        case round =>
          obtain ⟨i, v, hk, rfl, rfl, hown, hbel⟩ := hrel
          by_cases hlt : i < s
          · have j1 : (i : Int) < (s : Int) := by omega
            have fk := HL.out.cho.lt i hlt
            have e0 := keep_cell hbel (HR.out i hlt)
            have p0 := keep_cell hbel (hp3.out (f i) (by rw [HN.out]; exact fk)).1
            have p1 := keep_cell hbel (hp3.out (f i) (by rw [HN.out]; exact fk)).2
            have j2 : (f i : Int) < (n : Int) := by omega
            have j3 : (0 : Int) ≤ (f i : Int) := by omega
            have hsuc := Lib.hid (selL_succ (px P) (py P) f i)
            have hptc := Lib.hid (ptCells_snoc (selL (px P) (py P) f i) (px P (f i)) (py P (f i)))
            obtain ⟨x, hx⟩ : ∃ x, px P (f i) = x := ⟨_, rfl⟩
            obtain ⟨y, hy⟩ : ∃ y, py P (f i) = y := ⟨_, rfl⟩
            rw [hx] at p0 hsuc hptc
            rw [hy] at p1 hsuc hptc
            clear hx hy
            rcases Nat.eq_zero_or_pos i with h0 | h0
            · subst h0
              obtain ⟨q, hq⟩ : ∃ q, f 0 = q := ⟨_, rfl⟩
              rw [hq] at e0 p0 p1 j2 j3
              clear hq
              have k1 : q < n := by omega
              have k2 : ¬ n ≤ q := by omega
              have D1 : decide ((q : Int) < 0) = false := by simp
              have D2 : decide ((n : Int) ≤ (q : Int)) = false := by simpa using k1
              have D3 : decide (n ≤ q) = false := by simpa using k1
              go_wp2_with fail
              go_quiet (fail)
              go_wp2_with (at_builtin; refine wpList_append_own _ rfl _ _ 32 rfl w3.heap.size 23 i0' (pt 0 0) 2 16 Try.underlying32 hi0 hz0 hz1 hz2 rfl (by decide) _ _ _ rfl (hown.alloc _) _ 1 1 [.int .i64 x, .int .i64 y] rfl rfl (two_new _ _ _) (two_cells _ _) (by unfold maxLen; omega) (by omega) (by have := hbel.size; simp; omega) ?_; intro v1 w4 hown1 hgrow _)
              refine ⟨⟨0 + 1, v1, by omega, by simp, rfl, ?_, ((below_dn hbel nq).alloc (by have := hbel.size; simpa using this) _).grown hgrow (by have := hbel.size; simp; omega) (fun j e => (hown.lt j e).1)⟩, by simp [intOf]; omega⟩
              rw [hsuc.out, hptc.out]
              exact hown1
            · have m1 : (f (i - 1) : Int) < (f i : Int) := by have := HL.out.cho.mono (show i - 1 < i by omega) hlt; omega
              have e1 := keep_cell hbel (HR.out (i - 1) (by omega))
              have j5 : (0 : Int) < (i : Int) := by omega
              have j6 : ((i - 1 : Nat) : Int) < (s : Int) := by omega
              have ee : (i : Int) - 1 = ((i - 1 : Nat) : Int) := by omega
              have U1 : IntKind.i64.wrap ((i : Int) - 1) = ((i - 1 : Nat) : Int) := by rw [wi64 _ (by omega)]; exact ee
              obtain ⟨q, hq⟩ : ∃ q, f i = q := ⟨_, rfl⟩
              obtain ⟨r, hr⟩ : ∃ r, f (i - 1) = r := ⟨_, rfl⟩
              obtain ⟨pi, hpi⟩ : ∃ pi, i - 1 = pi := ⟨_, rfl⟩
              rw [hq] at e0 p0 p1 j2 j3 m1
              rw [hr] at e1 m1
              rw [hpi] at e1 j6 U1 ee
              clear hq hr hpi
              have k1 : q < n := by omega
              have k2 : ¬ n ≤ q := by omega
              have k3 : ¬ q ≤ r := by omega
              have k4 : 0 < i := h0
              have D1 : decide ((q : Int) < 0) = false := by simp
              have D2 : decide ((n : Int) ≤ (q : Int)) = false := by simpa using k1
              have D3 : decide (n ≤ q) = false := by simpa using k1
              have D4 : decide ((0 : Int) < (i : Int)) = true := by simpa using h0
              have D5 : decide (0 < i) = true := by simpa using h0
              have D6 : decide ((q : Int) ≤ (r : Int)) = false := by simp; omega
              have D7 : decide (q ≤ r) = false := by simp; omega
              go_wp2_with fail
              go_quiet (fail)
              go_wp2_with (at_builtin; refine wpList_append_own _ rfl _ _ 32 rfl w3.heap.size 23 i0' (pt 0 0) 2 16 Try.underlying32 hi0 hz0 hz1 hz2 rfl (by decide) _ _ _ rfl (hown.alloc _) _ 1 1 [.int .i64 x, .int .i64 y] rfl rfl (two_new _ _ _) (two_cells _ _) (by unfold maxLen; omega) (by omega) (by have := hbel.size; simp; omega) ?_; intro v1 w4 hown1 hgrow _)
              refine ⟨⟨i + 1, v1, by omega, by simp, rfl, ?_, ((below_dn hbel nq).alloc (by have := hbel.size; simpa using this) _).grown hgrow (by have := hbel.size; simp; omega) (fun j e => (hown.lt j e).1)⟩, by simp [intOf]; omega⟩
              rw [hsuc.out, hptc.out]
              exact hown1
          · obtain rfl : s = i := by omega
            obtain ⟨w4, rfl⟩ : ∃ w4, w4 = wr := ⟨_, rfl⟩
            obtain ⟨g', cap', rfl⟩ := own_slice hown hs0
            have hcells := Lib.hid (selL_own hown)
            have hslv : Hid (SlV w4 (.slice (some ⟨g', 0, none⟩) s cap') (selL (px P) (py P) f s)) := Lib.hid (by
              have := slv_own (L := selL (px P) (py P) f s) (by rw [selL_len]; exact hown) (by rw [selL_len]; omega)
              exact this)
            have hgl := (hown.lt g' rfl).2
            have hc2 := own_cap hown
            have FRF : ∀ (x y : Int) (W : World), Small x → Small y → Below w4.heap.size w4 W → Calls Try.prog 71 #[pt x y, .slice (some ⟨g', 0, none⟩) s cap'] W fun e w' => e = .returned (.bool false) ∧ Below W.heap.size W w' := fun x y W hx hy hW => by
              have := frees_any x y (fun j => px P (f j)) (fun j => py P (f j)) g' 0 s cap' W (by omega) hx hy (fun j hj => HSM.out (f j) (HL.out.cho.lt j hj)) (fun j hj => ⟨keep_cell hW (hcells.out j hj).1, keep_cell hW (hcells.out j hj).2⟩)
              rwa [named_none HZ.out HL.out] at this
            have HFRF := Lib.hid FRF
            obtain ⟨q7, hq7⟩ : ∃ q7, bits BinOp.and IntKind.i64 gr 7 = q7 := ⟨_, rfl⟩
            have hb7 := bits7 gr
            rw [hq7] at hb7
            obtain ⟨hb70, hb77⟩ := hb7
            clear hown FRF
            go_wp2_with fail
            clear hq7
            go_loopw [19] (fun t wa => ∃ x : Int, -(1 + q7) ≤ x ∧ x ≤ 2 + q7 ∧ t = .int .i64 x ∧ Below w4.heap.size w4 wa) (fun t _ => (2 + q7 - intOf t).toNat)
            case atStart => exact ⟨-(1 + q7), Int.le_refl _, by omega, rfl, Below.refl _ _⟩
            case round =>
              obtain ⟨x, hx1, hx2, rfl, hba⟩ := hrel
              by_cases hxm : x ≤ 1 + q7
              · go_wp2_with fail
                go_loopw [20] (fun t wa => ∃ y : Int, -(1 + q7) ≤ y ∧ y ≤ 2 + q7 ∧ t = .int .i64 y ∧ Below w4.heap.size w4 wa) (fun t _ => (2 + q7 - intOf t).toNat)
                case atStart => exact ⟨-(1 + q7), Int.le_refl _, by omega, rfl, hba⟩
                case round =>
                  obtain ⟨y, hy1, hy2, rfl, hbb⟩ := hrel
                  by_cases hym : y ≤ 1 + q7
                  · go_wp2_with fail
                    refine (HFRF.out x y _ (by unfold Small; omega) (by unfold Small; omega) hbb).mono ?_
                    rintro e w5 ⟨rfl, hb5⟩
                    have hbc := keep_below hbb hb5
                    clear hb5
                    go_wp2
                    exact ⟨⟨y + 1, by omega, by omega, by simp, hbc⟩, by simp [intOf]; omega⟩
                  · go_wp2
                    exact ⟨⟨x + 1, by omega, by omega, by simp, hbb⟩, by simp [intOf]; omega⟩
              · go_wp2_with fail
                go_loopw [21] (fun t wa => ∃ i : Nat, i ≤ s ∧ t = .int .i64 (i : Nat) ∧ Below w4.heap.size w4 wa) (fun t _ => s - (intOf t).toNat)
                case atStart => exact ⟨0, Nat.zero_le _, rfl, hba⟩
                case round =>
                  obtain ⟨i, hi, rfl, hbe⟩ := hrel
                  clear hba
                  by_cases his : i < s
                  · obtain ⟨N, hNN⟩ : ∃ N, selL (px P) (py P) f s = N := ⟨_, rfl⟩
                    have HNL : Hid (N.length = s) := Lib.hid (by rw [← hNN, selL_len])
                    have HOK : Hid (okN (px N) (py N) N.length = true) := Lib.hid (by rw [← hNN]; exact named_ok HO.out HL.out)
                    have HLESS : Hid (freeD (fun j => px N (sk i j)) (fun j => py N (sk i j)) (N.length - 1) ≠ none) := Lib.hid (by rw [← hNN]; exact named_less HZ.out HL.out his)
                    have hp4 : PtsAt w4 g' 0 N := fun k hk => by
                      rw [HNL.out] at hk
                      rw [← hNN, (px_sel hk).1, (px_sel hk).2]
                      exact hcells.out k hk
                    have hp5 := Lib.hid (hp4.keep hbe)
                    have htl := Lib.hid (show (ptCells (N.take i)).length = i * 2 by rw [ptCells_len, List.length_take, HNL.out]; omega)
                    have hdl := Lib.hid (show (ptCells (N.drop (i + 1))).length = (s - (i + 1)) * 2 by rw [ptCells_len, List.length_drop, HNL.out])
                    have j0 : (0 : Int) ≤ (i : Int) := by omega
                    have j1 : (i : Int) ≤ (cap' : Int) := by omega
                    have jj : (i : Int) < (s : Int) := by omega
                    have HDR : Hid (∀ W, PtsAt W g' 0 N → ∀ j u, (ptCells (N.drop (i + 1)))[j]? = some u → W.cell? ((⟨g', (i + 1) * 2, none⟩ : Addr).add j) = some u) := Lib.hid (fun W h => by
                      have := pts_cells (pts_drop h (i + 1))
                      rwa [Nat.zero_add] at this)
                    have tok1 : True := trivial
                    clear hNN hp4
                    have j2 : (i : Int) + 1 ≤ (s : Int) := by omega
                    by_cases hcp : i + 1 = cap'
                    · have HNIL : Hid (ptCells (N.drop (i + 1)) = []) := Lib.hid (by rw [List.drop_eq_nil_of_le (by have := HNL.out; omega)]; rfl)
                      subst hcp
                      go_wp2_with (first
                        | (at_builtin; have _t := tok1; refine wpList_append_own _ rfl _ _ 32 rfl wr.heap.size 23 i0' (pt 0 0) 2 16 Try.underlying32 hi0 hz0 hz1 hz2 rfl (by decide) _ _ _ rfl (World.ownsRow_nil wr wr.heap.size 23 2) ⟨g', 0, none⟩ i _ (ptCells (N.take i)) rfl htl.out (pts_cells (pts_take hp5.out i)) (ptCells_one _) (by unfold maxLen; omega) (by omega) (Nat.le_refl _) ?_; intro v6 w6 hown6 hg6 _; clear tok1
                           have tok2 : True := trivial
                           have hb6 : Below wr.heap.size wr w6 := (Below.refl _ wr).grown hg6 (Nat.le_refl _) (fun k e => ((World.ownsRow_nil wr wr.heap.size 23 2).lt k e).1)
                           have hp6 := Lib.hid (hp5.out.keep hb6))
                        | (at_builtin; have _t := tok2; refine wpList_append_own _ rfl _ _ 32 rfl wr.heap.size 23 i0' (pt 0 0) 2 16 Try.underlying32 hi0 hz0 hz1 hz2 rfl (by decide) _ _ _ rfl hown6 _ 0 _ [] rfl rfl (fun j u hj => by cases hj) (fun u hu => by cases hu) (by unfold maxLen; omega) (by omega) hb6.size ?_; intro v7 w7 hown7 hg7 _; clear tok2
                           have hb7 := Lib.hid (hb6.grown hg7 hb6.size (fun k e => (hown6.lt k e).1))
                           have hown8 : Hid (w7.ownsRow wr.heap.size 23 2 v7 (N.eraseIdx i).length (ptCells (N.eraseIdx i))) := Lib.hid (own_erase_last (by rw [HNL.out]; omega) hown7)))
                      refine (exit_sl (slv_own hown8.out (by rw [List.length_eraseIdx]; split <;> (have := HNL.out; omega)))).mono ?_
                      rintro e w8 ⟨dv', bv', E', rfl, X8, hb8⟩
                      obtain ⟨x', y', rfl⟩ := exitS_pt X8
                      have hE : E' = 0 := less_ok (by rw [HNL.out]; exact his) HOK.out HLESS.out X8
                      subst hE
                      have b8 := keep_below hb7.out hb8
                      have b9 := b8.alloc b8.size (ptObj x' y')
                      have b10 := hbe.trans (b9.mono hbe.size)
                      clear X8 hown7 hg7 hown6 hg6
                      go_wp2
                      exact ⟨⟨i + 1, by omega, by simp, b10⟩, by simp [intOf]; omega⟩
                    · have j3 : ¬ i + 1 = cap' := hcp
                      go_wp2_with (first
                        | (at_builtin; have _t := tok1; refine wpList_append_own _ rfl _ _ 32 rfl wr.heap.size 23 i0' (pt 0 0) 2 16 Try.underlying32 hi0 hz0 hz1 hz2 rfl (by decide) _ _ _ rfl (World.ownsRow_nil wr wr.heap.size 23 2) ⟨g', 0, none⟩ i _ (ptCells (N.take i)) rfl htl.out (pts_cells (pts_take hp5.out i)) (ptCells_one _) (by unfold maxLen; omega) (by omega) (Nat.le_refl _) ?_; intro v6 w6 hown6 hg6 _; clear tok1
                           have tok2 : True := trivial
                           have hb6 : Below wr.heap.size wr w6 := (Below.refl _ wr).grown hg6 (Nat.le_refl _) (fun k e => ((World.ownsRow_nil wr wr.heap.size 23 2).lt k e).1)
                           have hp6 := Lib.hid (hp5.out.keep hb6))
                        | (at_builtin; have _t := tok2; refine wpList_append_own _ rfl _ _ 32 rfl wr.heap.size 23 i0' (pt 0 0) 2 16 Try.underlying32 hi0 hz0 hz1 hz2 rfl (by decide) _ _ _ rfl hown6 _ (s - (i + 1)) _ (ptCells (N.drop (i + 1))) rfl hdl.out (HDR.out _ hp6.out) (ptCells_one _) (by unfold maxLen; omega) (by omega) hb6.size ?_; intro v7 w7 hown7 hg7 _; clear tok2
                           have hb7 := Lib.hid (hb6.grown hg7 hb6.size (fun k e => (hown6.lt k e).1))
                           have hown8 : Hid (w7.ownsRow wr.heap.size 23 2 v7 (N.eraseIdx i).length (ptCells (N.eraseIdx i))) := Lib.hid (own_erase HNL.out his hown7)))
                      refine (exit_sl (slv_own hown8.out (by rw [List.length_eraseIdx]; split <;> (have := HNL.out; omega)))).mono ?_
                      rintro e w8 ⟨dv', bv', E', rfl, X8, hb8⟩
                      obtain ⟨x', y', rfl⟩ := exitS_pt X8
                      have hE : E' = 0 := less_ok (by rw [HNL.out]; exact his) HOK.out HLESS.out X8
                      subst hE
                      have b8 := keep_below hb7.out hb8
                      have b9 := b8.alloc b8.size (ptObj x' y')
                      have b10 := hbe.trans (b9.mono hbe.size)
                      clear X8 hown7 hg7 hown6 hg6
                      go_wp2
                      exact ⟨⟨i + 1, by omega, by simp, b10⟩, by simp [intOf]; omega⟩
                  · obtain rfl : s = i := by omega
                    go_wp2
                    go_ret
                    exact ⟨rfl, b3.trans ((hbel.trans (hbe.mono hbel.size)).mono b3.size)⟩

end Go.Proofs.Ytlocdadkhdcedaa

/- The bounds of a number of 64 bits. -/
namespace Go.Proofs.Ytlocdadkhdcedaa
open Go Go.RowKit Go.Proofs

theorem wf64 {a : Int} (h : (Lit.int .i64 a).wf = true) : -9223372036854775808 ≤ a ∧ a ≤ 9223372036854775807 := by
  have e1 : IntKind.i64.min = -9223372036854775808 := by decide
  have e2 : IntKind.i64.max = 9223372036854775807 := by decide
  simp [Lit.wf, e1, e2] at h
  omega

end Go.Proofs.Ytlocdadkhdcedaa
