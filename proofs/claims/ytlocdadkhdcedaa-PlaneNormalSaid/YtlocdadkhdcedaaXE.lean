/- The abstract machine, part XE. -/
import Derived.Test.YtlocdadkhdcedaaX14
import Derived.Test.YtlocdadkhdcedaaV1
/- Lists without one point; slices with room. -/
namespace Go.Proofs.Ytlocdadkhdcedaa
open Go Go.RowKit Go.Proofs Go.Abs Go.Plain Go.WideShapes Go.ChangeShapes Go.Deep

theorem freeB_congr {xs ys xs' ys' : Nat → Int} {dx dy : Int} {n : Nat} (h : ∀ j, j < n → xs j = xs' j ∧ ys j = ys' j) : freeB xs ys dx dy n = freeB xs' ys' dx dy n := by
  rw [Bool.eq_iff_iff, freeB_iff, freeB_iff]
  constructor
  · intro h1 j hj
    rw [← (h j hj).1, ← (h j hj).2]
    exact h1 j hj
  · intro h1 j hj
    rw [(h j hj).1, (h j hj).2]
    exact h1 j hj

theorem freeAt_congr {xs ys xs' ys' : Nat → Int} {n i : Nat} (h : ∀ j, j < n → xs j = xs' j ∧ ys j = ys' j) (hi : i < n) : freeAt xs ys n i = freeAt xs' ys' n i := by
  have e1 : dX xs ys i = dX xs' ys' i := by unfold dX; rw [(h i hi).1, (h i hi).2]
  have e2 : dY xs ys i = dY xs' ys' i := by unfold dY; rw [(h i hi).1, (h i hi).2]
  unfold freeAt
  rw [e1, e2, freeB_congr h, freeB_congr h]

theorem freeTo_congr {xs ys xs' ys' : Nat → Int} {n : Nat} (h : ∀ j, j < n → xs j = xs' j ∧ ys j = ys' j) : ∀ k, k ≤ n → freeTo xs ys n k = freeTo xs' ys' n k
  | 0, _ => rfl
  | k + 1, hk => by
    unfold freeTo
    rw [freeTo_congr h k (by omega), freeAt_congr h (by omega)]

theorem freeD_congr {xs ys xs' ys' : Nat → Int} {n : Nat} (h : ∀ j, j < n → xs j = xs' j ∧ ys j = ys' j) : freeD xs ys n = freeD xs' ys' n := by
  unfold freeD
  rw [freeTo_congr h n (Nat.le_refl _)]

def sk (i j : Nat) : Nat := if j < i then j else j + 1

theorem px_erase {A : List (Int × Int)} {i j : Nat} : px (A.eraseIdx i) j = px A (sk i j) ∧ py (A.eraseIdx i) j = py A (sk i j) := by
  unfold px py sk
  rw [List.getD_eq_getElem?_getD, List.getElem?_eraseIdx]
  split <;> simp [List.getD_eq_getElem?_getD]

theorem allN_iff {xs ys : Nat → Int} {n : Nat} : allN xs ys n = true ↔ ∀ k, k < n → validN (xs k) (ys k) = true := by
  unfold allN
  rw [List.all_eq_true]
  exact ⟨fun h k hk => h k (List.mem_range.2 hk), fun h k hk => h k (List.mem_range.1 hk)⟩

theorem okN_iff {xs ys : Nat → Int} {n : Nat} : okN xs ys n = true ↔ n ≤ 24 ∧ ∀ k, k < n → validN (xs k) (ys k) = true := by
  unfold okN
  rw [Bool.and_eq_true, decide_eq_true_eq, allN_iff]

/-- Without one point there is a direction. -/
theorem less_ok {A : List (Int × Int)} {i : Nat} (hi : i < A.length) (hA : okN (px A) (py A) A.length = true) (h : freeD (fun j => px A (sk i j)) (fun j => py A (sk i j)) (A.length - 1) ≠ none)
    {base : Nat} {W : World} {dv bv : Value} {E : Int} (hE : ExitS (px (A.eraseIdx i)) (py (A.eraseIdx i)) (A.eraseIdx i).length base W dv bv E) : E = 0 := by
  have hlen : (A.eraseIdx i).length = A.length - 1 := by rw [List.length_eraseIdx, if_pos hi]
  obtain ⟨h24, hv⟩ := okN_iff.1 hA
  have hok : okN (px (A.eraseIdx i)) (py (A.eraseIdx i)) (A.eraseIdx i).length = true := okN_iff.2 ⟨by omega, fun k hk => by
    rw [px_erase.1, px_erase.2]
    exact hv _ (by unfold sk; split <;> omega)⟩
  rcases hE with ⟨_, o, _, _⟩ | ⟨rfl, _⟩ | ⟨_, _, o, _⟩
  · rw [hok] at o; cases o
  · rfl
  · exfalso
    rw [hlen] at o
    rw [freeD_congr (xs' := fun j => px A (sk i j)) (ys' := fun j => py A (sk i j)) (fun j _ => px_erase)] at o
    exact h o

theorem slv_own {W : World} {base : Nat} {v : Value} {L : List (Int × Int)} (h : W.ownsRow base 23 2 v L.length (ptCells L)) (hl : L.length ≤ 9223372036854775807) : SlV W v L := by
  have h2 := h.2
  rcases h2 with ⟨rfl, h0⟩ | ⟨g, cap, cur, rfl, _⟩
  · obtain rfl : L = [] := List.eq_nil_of_length_eq_zero h0
    exact ⟨none, 0, rfl, by simp, .inr ⟨rfl, rfl, rfl⟩⟩
  · refine ⟨_, cap, rfl, hl, .inl ⟨g, 0, rfl, fun k hk => ?_⟩⟩
    obtain ⟨h1, h2⟩ := ptCells_get L k hk
    have c1 := World.ownsRow.cells (g := g) h rfl _ _ h1
    have c2 := World.ownsRow.cells (g := g) h rfl _ _ h2
    rw [Addr.add_lit] at c1 c2
    exact ⟨c1, by rw [Nat.add_assoc]; exact c2⟩

theorem ptCells_append (L M : List (Int × Int)) : ptCells (L ++ M) = ptCells L ++ ptCells M := by
  induction L with
  | nil => rfl
  | cons p ps ih => simp [ptCells, ih]

theorem ptCells_len (L : List (Int × Int)) : (ptCells L).length = L.length * 2 := by
  induction L with
  | nil => rfl
  | cons p ps ih => simp [ptCells, ih]; omega

theorem ptCells_one (L : List (Int × Int)) : ∀ u ∈ ptCells L, u.oneCell' = true := by
  induction L with
  | nil => intro u hu; cases hu
  | cons p ps ih =>
    intro u hu
    simp only [ptCells, List.mem_cons] at hu
    rcases hu with rfl | rfl | hu
    · rfl
    · rfl
    · exact ih u hu

/-- The cells of a list of points that lies at an address. -/
theorem pts_cells {W : World} {b off : Nat} {L : List (Int × Int)} (h : PtsAt W b off L) : ∀ j u, (ptCells L)[j]? = some u → W.cell? ((⟨b, off, none⟩ : Addr).add j) = some u := by
  intro j u hu
  rw [Addr.add_lit]
  have hj : j < L.length * 2 := by
    rw [← ptCells_len]
    exact (List.getElem?_eq_some_iff.1 hu).1
  obtain ⟨h1, h2⟩ := ptCells_get L (j / 2) (by omega)
  obtain ⟨c1, c2⟩ := h (j / 2) (by omega)
  rcases Nat.mod_two_eq_zero_or_one j with hm | hm
  · have e : j = j / 2 * 2 := by omega
    rw [← e] at h1 c1
    rw [h1] at hu
    cases hu
    exact c1
  · have e : j = j / 2 * 2 + 1 := by omega
    rw [← e] at h2
    rw [h2] at hu
    cases hu
    rw [show off + j / 2 * 2 + 1 = off + j by omega] at c2
    exact c2

theorem pts_take {W : World} {b off : Nat} {L : List (Int × Int)} (h : PtsAt W b off L) (i : Nat) : PtsAt W b off (L.take i) := fun k hk => by
  rw [List.length_take] at hk
  have e : (L.take i).getD k (0, 0) = L.getD k (0, 0) := by
    rw [List.getD_eq_getElem?_getD, List.getD_eq_getElem?_getD, List.getElem?_take, if_pos (by omega)]
  have := h k (by omega)
  unfold px py at *
  rw [e]
  exact this

theorem pts_drop {W : World} {b off : Nat} {L : List (Int × Int)} (h : PtsAt W b off L) (i : Nat) : PtsAt W b (off + i * 2) (L.drop i) := fun k hk => by
  rw [List.length_drop] at hk
  have e : (L.drop i).getD k (0, 0) = L.getD (i + k) (0, 0) := by
    rw [List.getD_eq_getElem?_getD, List.getD_eq_getElem?_getD, List.getElem?_drop]
  have := h (i + k) (by omega)
  unfold px py at *
  rw [e]
  rw [show off + i * 2 + k * 2 = off + (i + k) * 2 by omega]
  exact this

theorem cut_one (L : List (Int × Int)) (i : Nat) : L.take i ++ L.drop (i + 1) = L.eraseIdx i := (List.eraseIdx_eq_take_drop_succ L i).symm

set_option maxRecDepth 100000 in
theorem slvc_of {H : Type} {enc : TypeId × Value → H} {W : World} {base : Nat} {sp : Nat → Bool} {held : Bool} {v : Value} {d : DataW H} {p : List MemPlace} (hok : Value.okWide Try.prog W .any base 32 v)
    (h : DataW.Trod enc Try.prog W 0 sp held 32 v d p) : ∃ L, SlV W v L ∧ ∀ a n c, v = .slice a n c → n ≤ c := by
  obtain ⟨L, hL⟩ := slv_of hok h
  refine ⟨L, hL, ?_⟩
  obtain ⟨a, len, cap, rfl⟩ := okWide_slice Try.underlying32 hok
  obtain ⟨m, hm⟩ := h
  rcases open_slice_pairs Try.underlying32 Try.underlying23 (by kernel_rfl) rfl rfl (by kernel_rfl) (by kernel_rfl) hm with ⟨hcs, -⟩ | ⟨a', len', cap', m', n', V0, V1, D0, D1, P0, P1, hcs, -, hl, hcap, hmm, -, hall⟩
  · have e : Value.slice a len cap = .slice none 0 0 := by simpa [Value.cells] using hcs
    intro a2 n2 c2 e2
    rw [e] at e2
    cases e2
    exact Nat.le_refl _
  · have e : Value.slice a len cap = .slice (some a') len' cap' := by simpa [Value.cells] using hcs
    intro a2 n2 c2 e2
    rw [e] at e2
    cases e2
    exact hl

end Go.Proofs.Ytlocdadkhdcedaa

/- The law PlaneDirections: its parts. -/
namespace Go.Proofs.Ytlocdadkhdcedaa
open Go Go.RowKit Go.Proofs Go.Abs Go.Plain

def indI (k : Int) : Int := if k < 0 then -(k + 1) else k

theorem index_any (k : Int) (n : Nat) (h1 : -9223372036854775808 ≤ k) (h2 : k ≤ 9223372036854775807) (hn : 0 < n) (hn2 : n ≤ 1000000) :
    ∃ i : Nat, i < n ∧ ∀ w, Calls Try.prog 64 #[.int .i64 k, .int .i64 (n : Nat)] w fun e w' => e = .returned (.int .i64 (i : Nat)) ∧ w' = w := by
  have hnn : 0 ≤ indI k := by unfold indI; split <;> omega
  have hm : (indI k).tmod n = ((indI k % n).toNat : Nat) := by
    rw [Int.tmod_eq_emod_of_nonneg hnn, Int.toNat_of_nonneg (Int.emod_nonneg _ (by omega))]
  refine ⟨(indI k % n).toNat, ?_, fun w => ?_⟩
  · have := Int.emod_lt_of_pos (indI k) (show (0 : Int) < n by omega)
    omega
  · obtain ⟨i, hi⟩ : ∃ i : Nat, (indI k % n).toNat = i := ⟨_, rfl⟩
    rw [hi] at hm ⊢
    clear hi
    have n0 : ¬ (n : Int) = 0 := by omega
    by_cases hk : k < 0
    · have e : indI k = -(k + 1) := by unfold indI; rw [if_pos hk]
      rw [e] at hm
      have U1 : wrap64 (k + 1) = k + 1 := w64 _ (by omega)
      have U2 : wrap64 (-(k + 1)) = -(k + 1) := w64 _ (by omega)
      have HM := Lib.hid hm
      clear e hm hnn
      go_enter Try.func64, Try.ntmps64
      go_wp2
      go_ret
      refine ⟨ret_int ?_, rfl⟩
      rw [← HM.out, Int.neg_tmod]
    · have e : indI k = k := by unfold indI; rw [if_neg hk]
      rw [e] at hm
      clear e hnn
      go_enter Try.func64, Try.ntmps64
      go_wp2
      go_ret
      exact ⟨rfl, rfl⟩

set_option maxRecDepth 100000 in
set_option maxHeartbeats 4000000 in
theorem frees_zero (dx dy : Int) (a : Option Addr) (cap : Nat) (w : World) (hne : (dx == 0 && dy == 0) = false) :
    Calls Try.prog 71 #[pt dx dy, .slice a 0 cap] w fun e w' => e = .returned (.bool true) ∧ Below w.heap.size w w' := by
  have E := fun w => run_pt_neq dx dy 0 0 w
  rw [hne] at E
  clear hne
  go_enter Try.func71, Try.ntmps71
  go_wp2_with fail
  have p0 := Pb.new w dx dy
  have b0 : Below w.heap.size w (w.alloc (ptObj dx dy)) := (Below.refl _ _).alloc (Nat.le_refl _) _
  go_loopw [5] (fun i wr => i = .int .i64 0 ∧ Below w.heap.size w wr ∧ Pb wr w.heap.size dx dy) (fun i _ => 0 - (intOf i).toNat)
  case atStart => exact ⟨rfl, b0, p0⟩
  case round =>
    clear b0 p0
    obtain ⟨rfl, hbel, hp⟩ := hrel
    have r0 := hp.c0
    have r1 := hp.c1
    go_wp2
    go_ret
    exact ⟨rfl, hbel⟩

theorem frees_sl {w : World} {v : Value} {L : List (Int × Int)} (h : SlV w v L) (dx dy : Int) (hdx : Small dx) (hdy : Small dy) (hs : ∀ k, k < L.length → Small (px L k) ∧ Small (py L k)) (hf : freeOf dx dy (px L) (py L) L.length = true) (hne : (dx == 0 && dy == 0) = false) :
    Calls Try.prog 71 #[pt dx dy, v] w fun e w' => e = .returned (.bool true) ∧ Below w.heap.size w w' := by
  have hr : freesR dx dy (px L) (py L) L.length = true := by unfold freesR; rw [hf, hne]; rfl
  obtain ⟨a, cap, rfl, hl, h | ⟨rfl, rfl, rfl⟩⟩ := h
  · obtain ⟨b, off, rfl, hp⟩ := h
    have := frees_any dx dy (px L) (py L) b off L.length cap w hl hdx hdy hs hp
    rwa [hr] at this
  · exact frees_zero _ _ _ _ _ hne

/-- The direction is small. -/
theorem freeD_small {xs ys : Nat → Int} {n : Nat} (hs : ∀ k, k < n → Small (xs k) ∧ Small (ys k)) (hz : NonZ xs ys n) {d : Int × Int} (h : freeD xs ys n = some d) : Small d.1 ∧ Small d.2 := by
  unfold freeD at h
  split at h
  · cases h
    unfold Small
    omega
  · obtain ⟨i, hi, h2⟩ := freeTo_at h
    have db := dir_bound (xs := xs) (ys := ys) (B := 8192) i (hz i hi) (hs i hi).1 (hs i hi).2
    unfold freeAt at h2
    unfold Small
    split at h2
    · cases h2; exact db
    · split at h2
      · cases h2
        simp only
        omega
      · cases h2

end Go.Proofs.Ytlocdadkhdcedaa
