/- The abstract machine, part GrO5. -/
import Derived.Test.YtcgmmfcphfkdhaaGreatGrO4
import Derived.Test.YtcgmmfcphfkdhaaGreatGrVX
import Derived.Maps.AppendAt
/- Walks: slices of numbers, gauges, marks and sights are cloned. -/
namespace Go.Proofs.YtcgmmfcphfkdhaaGreat
open Go Go.RowKit Go.Proofs Go.Torn Go.Abs

theorem fm_len {α : Type} (f : α → List Value) (k : Nat) (hk : ∀ x, (f x).length = k) : ∀ L : List α, (L.flatMap f).length = L.length * k
  | [] => by simp
  | x :: l => by rw [List.flatMap_cons, List.length_append, hk, fm_len f k hk l, List.length_cons, Nat.succ_mul]; omega
theorem fm_get {α : Type} (f : α → List Value) (k : Nat) (hk : ∀ x, (f x).length = k) : ∀ (L : List α) (i j : Nat) (x : α), L[i]? = some x → j < k → (L.flatMap f)[i * k + j]? = (f x)[j]?
  | [], i, _, _, h, _ => by simp at h
  | y :: L, 0, j, x, h, hj => by
    simp only [List.getElem?_cons_zero, Option.some.injEq] at h
    subst h
    rw [List.flatMap_cons, Nat.zero_mul, Nat.zero_add, List.getElem?_append_left (by rw [hk]; exact hj)]
  | y :: L, i + 1, j, x, h, hj => by
    rw [List.getElem?_cons_succ] at h
    rw [List.flatMap_cons, List.getElem?_append_right (by rw [hk, Nat.succ_mul]; omega), hk, Nat.succ_mul, show i * k + k + j - k = i * k + j by omega]
    exact fm_get f k hk L i j x h hj
theorem fm_inv {α : Type} (f : α → List Value) (k : Nat) (hk : ∀ x, (f x).length = k) (h0 : 0 < k) (L : List α) (j : Nat) (u : Value) (h : (L.flatMap f)[j]? = some u) : ∃ x, L[j / k]? = some x ∧ (f x)[j % k]? = some u := by
  have hj := (List.getElem?_eq_some_iff.1 h).1
  rw [fm_len f k hk] at hj
  have hd : j / k < L.length := (Nat.div_lt_iff_lt_mul h0).2 hj
  refine ⟨L[j / k], List.getElem?_eq_getElem hd, ?_⟩
  rw [← fm_get f k hk L (j / k) (j % k) _ (List.getElem?_eq_getElem hd) (Nat.mod_lt _ h0), Nat.mul_comm, Nat.div_add_mod]
  exact h
theorem fm_one {α : Type} (f : α → List Value) (hf : ∀ x, ∀ u ∈ f x, u.oneCell' = true) (L : List α) : ∀ u ∈ L.flatMap f, u.oneCell' = true := fun u hu => by
  obtain ⟨x, -, h⟩ := List.mem_flatMap.1 hu
  exact hf x u h

def cI (n : Int) : List Value := [.int .i64 n]
def cG (g : G5) : List Value := [.int .i64 g.a, .int .i64 g.b, .int .i64 g.c, .int .i64 g.d, .int .i64 g.e]
def cM (g : M3) : List Value := [.int .i64 g.x, .int .i64 g.y, .int .i64 g.z]
def cS (s : S8) : List Value := [.int .i64 s.a, .int .i64 s.b, .int .i64 s.c, .int .i64 s.d, .int .i64 s.e, .int .i64 s.f, .int .i64 s.g, .int .i64 s.h]
def Lst (B : Nat) (w : World) (P : World → Prop) : Prop := ∀ W', Chg w W' (fun k => k < B) → P W'
theorem Lst.now {B : Nat} {w : World} {P : World → Prop} (h : Lst B w P) : P w := h w (Chg.refl _ _)
theorem Lst.chg {B : Nat} {w W : World} {P : World → Prop} (h : Lst B w P) (c : Chg w W (fun k => k < B)) : Lst B W P := fun W' k => h W' (c.trans k (fun _ _ e => e))
theorem Lst.keep {B : Nat} {w W : World} {P : World → Prop} (h : Lst B w P) (hb : Below w.heap.size w W) : Lst B W P := h.chg (Chg.of_below _ hb)
theorem Lst.mono {B B' : Nat} {w : World} {P : World → Prop} (h : Lst B w P) (hb : B' ≤ B) : Lst B' w P := fun W' c => h W' ⟨c.os, c.tape, c.output, c.size, fun k hk hn => c.block k hk (fun e => hn (Nat.lt_of_lt_of_le e hb))⟩
theorem Lst.and {B : Nat} {w : World} {P Q : World → Prop} (h : Lst B w P) (k : Lst B w Q) : Lst B w (fun W => P W ∧ Q W) := fun W' c => ⟨h W' c, k W' c⟩
theorem Lst.imp {B : Nat} {w : World} {P Q : World → Prop} (h : Lst B w P) (k : ∀ W, P W → Q W) : Lst B w Q := fun W' c => k W' (h W' c)
theorem add_off (b off j : Nat) : (⟨b, off, none⟩ : Addr).add j = ⟨b, off + j, none⟩ := by unfold Addr.add; split <;> simp_all


theorem info3c : (Tryz.prog.info? 3).map (fun i => (i.zero, i.size, i.bytes)) = some (some (.int .i64 0), 1, 8) := by kernel_rfl
set_option maxRecDepth 100000 in
theorem nil32 (a : Option Addr) (n c : Nat) (w : World) (h : a = none) : (binOp .eql 32 (.slice a n c) (.slice none 0 0)).run Tryz.prog w = .ok (.bool true) w := by subst h; kernel_rfl
set_option maxRecDepth 100000 in
theorem non32 (ad : Addr) (n c : Nat) (w : World) : (binOp .eql 32 (.slice (some ad) n c) (.slice none 0 0)).run Tryz.prog w = .ok (.bool false) w := by kernel_rfl

set_option maxRecDepth 100000 in
set_option maxHeartbeats 2000000 in
theorem clone160 (v : Value) (L : List Int) (hl : L.length ≤ 100000) (w : World) (h : SlI w v L) :
    Calls Tryz.prog 160 #[v] w fun e w' => ∃ u, e = .returned u ∧ Lst w.heap.size w' (fun W => SlI W u L) ∧ Below w.heap.size w w' := by
  obtain ⟨i0, hi, hz0, hz1, hz2⟩ := info_parts info3c
  obtain ⟨a, cap, rfl, hll, hc⟩ := h
  cases a with
  | none =>
    have h0 : L.length = 0 := by
      rcases Nat.eq_zero_or_pos L.length with e | e
      · exact e
      · obtain ⟨b, off, hh, -⟩ := hc 0 e
        cases hh
    have NE := fun w => nil32 none 0 cap w rfl
    have fin : Hid (Lst w.heap.size w (fun W => SlI W (.slice none 0 0) L)) := Lib.hid fun W _ => ⟨none, 0, by rw [h0], hll, fun k hk => by omega⟩
    rw [h0]
    clear hc hl h0 hll
    go_enter Tryz.func160, Tryz.ntmps160
    go_wp2
    go_ret
    exact ⟨_, rfl, fin.out, Below.refl _ _⟩
  | some ad =>
    have NE := fun w => non32 ad L.length cap w
    have hal : Below w.heap.size w (w.alloc (Obj.cells #[] 3)) := (Below.refl _ w).alloc (Nat.le_refl _) _
    have HN := Lib.hid (show ∀ j u, (L.flatMap cI)[j]? = some u → (w.alloc (Obj.cells #[] 3)).cell? (ad.add j) = some u from by
      intro j u hu
      obtain ⟨x, hx, hu2⟩ := fm_inv cI 1 (fun _ => rfl) (by decide) L j u hu
      have hk := (List.getElem?_eq_some_iff.1 hx).1
      have hd : iz L (j / 1) = x := by unfold iz; rw [List.getD_eq_getElem?_getD, hx]; rfl
      have hcc := hc (j / 1) hk
      rw [hd] at hcc
      obtain ⟨b, off, hh, c0⟩ := hcc
      simp only [Option.some.injEq] at hh
      subst hh
      have hlt := Nat.mod_lt j (show 0 < 1 by decide)
      have hsum := Nat.div_add_mod j 1
      rw [add_off, show off + j = off + j / 1 * 1 + j % 1 by omega]
      generalize j % 1 = r at hu2 hlt ⊢
      match r, hlt, hu2 with
      | 0, _, hu2 => obtain rfl : _ = u := by simpa [cI] using hu2
                     simpa using keep_cell hal c0
      )
    have HO := Lib.hid (fm_one cI (fun x u hu => by
      unfold cI at hu
      simp only [List.mem_cons, List.not_mem_nil, or_false] at hu
      rcases hu with rfl <;> rfl) L)
    have HL := Lib.hid (fm_len cI 1 (fun _ => rfl) L)
    have hown : (w.alloc (Obj.cells #[] 3)).ownsRow w.heap.size 3 1 (.slice (some ⟨w.heap.size, 0, none⟩) 0 0) 0 [] := by
      have := World.ownsRow_lit (e := 3) (size := 1) w #[] 0 (Nat.le_refl w.heap.size) (by unfold maxLen; omega) (by simp)
      simpa using this
    have HF : Hid (∀ (W : World) (u : Value), W.ownsRow w.heap.size 3 1 u L.length (L.flatMap cI) → SlI W u L) := Lib.hid (fun W u ho => by
      rcases ho.2 with ⟨rfl, h0⟩ | ⟨g, cp, cur, rfl, -⟩
      · exact ⟨none, 0, by rw [h0], hll, fun k hk => by omega⟩
      · refine ⟨_, cp, rfl, hll, fun k hk => ⟨g, 0, rfl, ?_⟩⟩
        have hd : iz L k = L[k] := by unfold iz; rw [List.getD_eq_getElem?_getD, List.getElem?_eq_getElem hk]; rfl
        have hcell : ∀ i, i < 1 → W.cell? ⟨g, 0 + k * 1 + i, none⟩ = (cI L[k])[i]? := fun i hi => by
          rw [Nat.zero_add, World.ownsRow.cellAt ho (k * 1 + i) (by omega), fm_get cI 1 (fun _ => rfl) L k i _ (List.getElem?_eq_getElem hk) hi]
        rw [hd]
        have := hcell 0 (by decide); simpa [cI] using this)
    clear hc
    obtain ⟨n, hn⟩ : ∃ n, L.length = n := ⟨_, rfl⟩
    rw [hn] at NE HL hl HF ⊢
    clear hn hll
    go_enter Tryz.func160, Tryz.ntmps160
    go_wp2_with (at_builtin; refine wpList_append_own _ rfl _ _ 32 rfl w.heap.size 3 i0 (.int .i64 0) 1 8 Tryz.underlying32 hi hz0 hz1 hz2 (by kernel_rfl) (by decide) _ _ _ rfl hown ad n cap (L.flatMap cI) rfl (by rw [HL.out]) HN.out HO.out (by unfold maxLen; omega) (by omega) hal.size ?_; intro v6 w6 hown6 hg6 _)
    go_ret
    have hown7 : w6.ownsRow w.heap.size 3 1 v6 n (L.flatMap cI) := by simpa using hown6
    refine ⟨v6, rfl, fun W c => HF.out _ _ (c.own hown7 (fun k hk e => by have := hown7.lt k hk; omega)), hal.grown hg6 hal.size (fun j e => (hown.lt j e).1)⟩


theorem info102c : (Tryz.prog.info? 102).map (fun i => (i.zero, i.size, i.bytes)) = some (some (.agg #[.int .i64 0, .int .i64 0, .int .i64 0, .int .i64 0, .int .i64 0]), 5, 40) := by kernel_rfl
set_option maxRecDepth 100000 in
theorem nil103 (a : Option Addr) (n c : Nat) (w : World) (h : a = none) : (binOp .eql 103 (.slice a n c) (.slice none 0 0)).run Tryz.prog w = .ok (.bool true) w := by subst h; kernel_rfl
set_option maxRecDepth 100000 in
theorem non103 (ad : Addr) (n c : Nat) (w : World) : (binOp .eql 103 (.slice (some ad) n c) (.slice none 0 0)).run Tryz.prog w = .ok (.bool false) w := by kernel_rfl

set_option maxRecDepth 100000 in
set_option maxHeartbeats 2000000 in
theorem clone225 (v : Value) (L : List G5) (hl : L.length ≤ 100000) (w : World) (h : SlG w v L) :
    Calls Tryz.prog 225 #[v] w fun e w' => ∃ u, e = .returned u ∧ Lst w.heap.size w' (fun W => SlG W u L) ∧ Below w.heap.size w w' := by
  obtain ⟨i0, hi, hz0, hz1, hz2⟩ := info_parts info102c
  obtain ⟨a, cap, rfl, hll, hc⟩ := h
  cases a with
  | none =>
    have h0 : L.length = 0 := by
      rcases Nat.eq_zero_or_pos L.length with e | e
      · exact e
      · obtain ⟨b, off, hh, -⟩ := hc 0 e
        cases hh
    have NE := fun w => nil103 none 0 cap w rfl
    have fin : Hid (Lst w.heap.size w (fun W => SlG W (.slice none 0 0) L)) := Lib.hid fun W _ => ⟨none, 0, by rw [h0], hll, fun k hk => by omega⟩
    rw [h0]
    clear hc hl h0 hll
    go_enter Tryz.func225, Tryz.ntmps225
    go_wp2
    go_ret
    exact ⟨_, rfl, fin.out, Below.refl _ _⟩
  | some ad =>
    have NE := fun w => non103 ad L.length cap w
    have hal : Below w.heap.size w (w.alloc (Obj.cells #[] 102)) := (Below.refl _ w).alloc (Nat.le_refl _) _
    have HN := Lib.hid (show ∀ j u, (L.flatMap cG)[j]? = some u → (w.alloc (Obj.cells #[] 102)).cell? (ad.add j) = some u from by
      intro j u hu
      obtain ⟨x, hx, hu2⟩ := fm_inv cG 5 (fun _ => rfl) (by decide) L j u hu
      have hk := (List.getElem?_eq_some_iff.1 hx).1
      have hd : gz L (j / 5) = x := by unfold gz; rw [List.getD_eq_getElem?_getD, hx]; rfl
      have hcc := hc (j / 5) hk
      rw [hd] at hcc
      obtain ⟨b, off, hh, c0, c1, c2, c3, c4⟩ := hcc
      simp only [Option.some.injEq] at hh
      subst hh
      have hlt := Nat.mod_lt j (show 0 < 5 by decide)
      have hsum := Nat.div_add_mod j 5
      rw [add_off, show off + j = off + j / 5 * 5 + j % 5 by omega]
      generalize j % 5 = r at hu2 hlt ⊢
      match r, hlt, hu2 with
      | 0, _, hu2 => obtain rfl : _ = u := by simpa [cG] using hu2
                     simpa using keep_cell hal c0
      | 1, _, hu2 => obtain rfl : _ = u := by simpa [cG] using hu2
                     simpa using keep_cell hal c1
      | 2, _, hu2 => obtain rfl : _ = u := by simpa [cG] using hu2
                     simpa using keep_cell hal c2
      | 3, _, hu2 => obtain rfl : _ = u := by simpa [cG] using hu2
                     simpa using keep_cell hal c3
      | 4, _, hu2 => obtain rfl : _ = u := by simpa [cG] using hu2
                     simpa using keep_cell hal c4
      )
    have HO := Lib.hid (fm_one cG (fun x u hu => by
      unfold cG at hu
      simp only [List.mem_cons, List.not_mem_nil, or_false] at hu
      rcases hu with rfl | rfl | rfl | rfl | rfl <;> rfl) L)
    have HL := Lib.hid (fm_len cG 5 (fun _ => rfl) L)
    have hown : (w.alloc (Obj.cells #[] 102)).ownsRow w.heap.size 102 5 (.slice (some ⟨w.heap.size, 0, none⟩) 0 0) 0 [] := by
      have := World.ownsRow_lit (e := 102) (size := 5) w #[] 0 (Nat.le_refl w.heap.size) (by unfold maxLen; omega) (by simp)
      simpa using this
    have HF : Hid (∀ (W : World) (u : Value), W.ownsRow w.heap.size 102 5 u L.length (L.flatMap cG) → SlG W u L) := Lib.hid (fun W u ho => by
      rcases ho.2 with ⟨rfl, h0⟩ | ⟨g, cp, cur, rfl, -⟩
      · exact ⟨none, 0, by rw [h0], hll, fun k hk => by omega⟩
      · refine ⟨_, cp, rfl, hll, fun k hk => ⟨g, 0, rfl, ?_⟩⟩
        have hd : gz L k = L[k] := by unfold gz; rw [List.getD_eq_getElem?_getD, List.getElem?_eq_getElem hk]; rfl
        have hcell : ∀ i, i < 5 → W.cell? ⟨g, 0 + k * 5 + i, none⟩ = (cG L[k])[i]? := fun i hi => by
          rw [Nat.zero_add, World.ownsRow.cellAt ho (k * 5 + i) (by omega), fm_get cG 5 (fun _ => rfl) L k i _ (List.getElem?_eq_getElem hk) hi]
        rw [hd]
        exact ⟨hcell 0 (by decide), hcell 1 (by decide), hcell 2 (by decide), hcell 3 (by decide), hcell 4 (by decide)⟩)
    clear hc
    obtain ⟨n, hn⟩ : ∃ n, L.length = n := ⟨_, rfl⟩
    rw [hn] at NE HL hl HF ⊢
    clear hn hll
    go_enter Tryz.func225, Tryz.ntmps225
    go_wp2_with (at_builtin; refine wpList_append_own _ rfl _ _ 103 rfl w.heap.size 102 i0 (.agg #[.int .i64 0, .int .i64 0, .int .i64 0, .int .i64 0, .int .i64 0]) 5 40 Tryz.underlying103 hi hz0 hz1 hz2 (by kernel_rfl) (by decide) _ _ _ rfl hown ad n cap (L.flatMap cG) rfl (by rw [HL.out]) HN.out HO.out (by unfold maxLen; omega) (by omega) hal.size ?_; intro v6 w6 hown6 hg6 _)
    go_ret
    have hown7 : w6.ownsRow w.heap.size 102 5 v6 n (L.flatMap cG) := by simpa using hown6
    refine ⟨v6, rfl, fun W c => HF.out _ _ (c.own hown7 (fun k hk e => by have := hown7.lt k hk; omega)), hal.grown hg6 hal.size (fun j e => (hown.lt j e).1)⟩


theorem info198c : (Tryz.prog.info? 198).map (fun i => (i.zero, i.size, i.bytes)) = some (some (.agg #[.int .i64 0, .int .i64 0, .int .i64 0]), 3, 24) := by kernel_rfl
set_option maxRecDepth 100000 in
theorem nil104 (a : Option Addr) (n c : Nat) (w : World) (h : a = none) : (binOp .eql 104 (.slice a n c) (.slice none 0 0)).run Tryz.prog w = .ok (.bool true) w := by subst h; kernel_rfl
set_option maxRecDepth 100000 in
theorem non104 (ad : Addr) (n c : Nat) (w : World) : (binOp .eql 104 (.slice (some ad) n c) (.slice none 0 0)).run Tryz.prog w = .ok (.bool false) w := by kernel_rfl

set_option maxRecDepth 100000 in
set_option maxHeartbeats 2000000 in
theorem clone226 (v : Value) (L : List M3) (hl : L.length ≤ 100000) (w : World) (h : SlM w v L) :
    Calls Tryz.prog 226 #[v] w fun e w' => ∃ u, e = .returned u ∧ Lst w.heap.size w' (fun W => SlM W u L) ∧ Below w.heap.size w w' := by
  obtain ⟨i0, hi, hz0, hz1, hz2⟩ := info_parts info198c
  obtain ⟨a, cap, rfl, hll, hc⟩ := h
  cases a with
  | none =>
    have h0 : L.length = 0 := by
      rcases Nat.eq_zero_or_pos L.length with e | e
      · exact e
      · obtain ⟨b, off, hh, -⟩ := hc 0 e
        cases hh
    have NE := fun w => nil104 none 0 cap w rfl
    have fin : Hid (Lst w.heap.size w (fun W => SlM W (.slice none 0 0) L)) := Lib.hid fun W _ => ⟨none, 0, by rw [h0], hll, fun k hk => by omega⟩
    rw [h0]
    clear hc hl h0 hll
    go_enter Tryz.func226, Tryz.ntmps226
    go_wp2
    go_ret
    exact ⟨_, rfl, fin.out, Below.refl _ _⟩
  | some ad =>
    have NE := fun w => non104 ad L.length cap w
    have hal : Below w.heap.size w (w.alloc (Obj.cells #[] 198)) := (Below.refl _ w).alloc (Nat.le_refl _) _
    have HN := Lib.hid (show ∀ j u, (L.flatMap cM)[j]? = some u → (w.alloc (Obj.cells #[] 198)).cell? (ad.add j) = some u from by
      intro j u hu
      obtain ⟨x, hx, hu2⟩ := fm_inv cM 3 (fun _ => rfl) (by decide) L j u hu
      have hk := (List.getElem?_eq_some_iff.1 hx).1
      have hd : mq L (j / 3) = x := by unfold mq; rw [List.getD_eq_getElem?_getD, hx]; rfl
      have hcc := hc (j / 3) hk
      rw [hd] at hcc
      obtain ⟨b, off, hh, c0, c1, c2⟩ := hcc
      simp only [Option.some.injEq] at hh
      subst hh
      have hlt := Nat.mod_lt j (show 0 < 3 by decide)
      have hsum := Nat.div_add_mod j 3
      rw [add_off, show off + j = off + j / 3 * 3 + j % 3 by omega]
      generalize j % 3 = r at hu2 hlt ⊢
      match r, hlt, hu2 with
      | 0, _, hu2 => obtain rfl : _ = u := by simpa [cM] using hu2
                     simpa using keep_cell hal c0
      | 1, _, hu2 => obtain rfl : _ = u := by simpa [cM] using hu2
                     simpa using keep_cell hal c1
      | 2, _, hu2 => obtain rfl : _ = u := by simpa [cM] using hu2
                     simpa using keep_cell hal c2
      )
    have HO := Lib.hid (fm_one cM (fun x u hu => by
      unfold cM at hu
      simp only [List.mem_cons, List.not_mem_nil, or_false] at hu
      rcases hu with rfl | rfl | rfl <;> rfl) L)
    have HL := Lib.hid (fm_len cM 3 (fun _ => rfl) L)
    have hown : (w.alloc (Obj.cells #[] 198)).ownsRow w.heap.size 198 3 (.slice (some ⟨w.heap.size, 0, none⟩) 0 0) 0 [] := by
      have := World.ownsRow_lit (e := 198) (size := 3) w #[] 0 (Nat.le_refl w.heap.size) (by unfold maxLen; omega) (by simp)
      simpa using this
    have HF : Hid (∀ (W : World) (u : Value), W.ownsRow w.heap.size 198 3 u L.length (L.flatMap cM) → SlM W u L) := Lib.hid (fun W u ho => by
      rcases ho.2 with ⟨rfl, h0⟩ | ⟨g, cp, cur, rfl, -⟩
      · exact ⟨none, 0, by rw [h0], hll, fun k hk => by omega⟩
      · refine ⟨_, cp, rfl, hll, fun k hk => ⟨g, 0, rfl, ?_⟩⟩
        have hd : mq L k = L[k] := by unfold mq; rw [List.getD_eq_getElem?_getD, List.getElem?_eq_getElem hk]; rfl
        have hcell : ∀ i, i < 3 → W.cell? ⟨g, 0 + k * 3 + i, none⟩ = (cM L[k])[i]? := fun i hi => by
          rw [Nat.zero_add, World.ownsRow.cellAt ho (k * 3 + i) (by omega), fm_get cM 3 (fun _ => rfl) L k i _ (List.getElem?_eq_getElem hk) hi]
        rw [hd]
        exact ⟨hcell 0 (by decide), hcell 1 (by decide), hcell 2 (by decide)⟩)
    clear hc
    obtain ⟨n, hn⟩ : ∃ n, L.length = n := ⟨_, rfl⟩
    rw [hn] at NE HL hl HF ⊢
    clear hn hll
    go_enter Tryz.func226, Tryz.ntmps226
    go_wp2_with (at_builtin; refine wpList_append_own _ rfl _ _ 104 rfl w.heap.size 198 i0 (.agg #[.int .i64 0, .int .i64 0, .int .i64 0]) 3 24 Tryz.underlying104 hi hz0 hz1 hz2 (by kernel_rfl) (by decide) _ _ _ rfl hown ad n cap (L.flatMap cM) rfl (by rw [HL.out]) HN.out HO.out (by unfold maxLen; omega) (by omega) hal.size ?_; intro v6 w6 hown6 hg6 _)
    go_ret
    have hown7 : w6.ownsRow w.heap.size 198 3 v6 n (L.flatMap cM) := by simpa using hown6
    refine ⟨v6, rfl, fun W c => HF.out _ _ (c.own hown7 (fun k hk e => by have := hown7.lt k hk; omega)), hal.grown hg6 hal.size (fun j e => (hown.lt j e).1)⟩


theorem info194c : (Tryz.prog.info? 194).map (fun i => (i.zero, i.size, i.bytes)) = some (some (.agg #[.int .i64 0, .int .i64 0, .int .i64 0, .int .i64 0, .int .i64 0, .int .i64 0, .int .i64 0, .int .i64 0]), 8, 64) := by kernel_rfl
set_option maxRecDepth 100000 in
theorem nil36 (a : Option Addr) (n c : Nat) (w : World) (h : a = none) : (binOp .eql 36 (.slice a n c) (.slice none 0 0)).run Tryz.prog w = .ok (.bool true) w := by subst h; kernel_rfl
set_option maxRecDepth 100000 in
theorem non36 (ad : Addr) (n c : Nat) (w : World) : (binOp .eql 36 (.slice (some ad) n c) (.slice none 0 0)).run Tryz.prog w = .ok (.bool false) w := by kernel_rfl

set_option maxRecDepth 100000 in
set_option maxHeartbeats 2000000 in
theorem clone227 (v : Value) (L : List S8) (hl : L.length ≤ 100000) (w : World) (h : SlS w v L) :
    Calls Tryz.prog 227 #[v] w fun e w' => ∃ u, e = .returned u ∧ Lst w.heap.size w' (fun W => SlS W u L) ∧ Below w.heap.size w w' := by
  obtain ⟨i0, hi, hz0, hz1, hz2⟩ := info_parts info194c
  obtain ⟨a, cap, rfl, hll, hc⟩ := h
  cases a with
  | none =>
    have h0 : L.length = 0 := by
      rcases Nat.eq_zero_or_pos L.length with e | e
      · exact e
      · obtain ⟨b, off, hh, -⟩ := hc 0 e
        cases hh
    have NE := fun w => nil36 none 0 cap w rfl
    have fin : Hid (Lst w.heap.size w (fun W => SlS W (.slice none 0 0) L)) := Lib.hid fun W _ => ⟨none, 0, by rw [h0], hll, fun k hk => by omega⟩
    rw [h0]
    clear hc hl h0 hll
    go_enter Tryz.func227, Tryz.ntmps227
    go_wp2
    go_ret
    exact ⟨_, rfl, fin.out, Below.refl _ _⟩
  | some ad =>
    have NE := fun w => non36 ad L.length cap w
    have hal : Below w.heap.size w (w.alloc (Obj.cells #[] 194)) := (Below.refl _ w).alloc (Nat.le_refl _) _
    have HN := Lib.hid (show ∀ j u, (L.flatMap cS)[j]? = some u → (w.alloc (Obj.cells #[] 194)).cell? (ad.add j) = some u from by
      intro j u hu
      obtain ⟨x, hx, hu2⟩ := fm_inv cS 8 (fun _ => rfl) (by decide) L j u hu
      have hk := (List.getElem?_eq_some_iff.1 hx).1
      have hd : sz L (j / 8) = x := by unfold sz; rw [List.getD_eq_getElem?_getD, hx]; rfl
      have hcc := hc (j / 8) hk
      rw [hd] at hcc
      obtain ⟨b, off, hh, c0, c1, c2, c3, c4, c5, c6, c7⟩ := hcc
      simp only [Option.some.injEq] at hh
      subst hh
      have hlt := Nat.mod_lt j (show 0 < 8 by decide)
      have hsum := Nat.div_add_mod j 8
      rw [add_off, show off + j = off + j / 8 * 8 + j % 8 by omega]
      generalize j % 8 = r at hu2 hlt ⊢
      match r, hlt, hu2 with
      | 0, _, hu2 => obtain rfl : _ = u := by simpa [cS] using hu2
                     simpa using keep_cell hal c0
      | 1, _, hu2 => obtain rfl : _ = u := by simpa [cS] using hu2
                     simpa using keep_cell hal c1
      | 2, _, hu2 => obtain rfl : _ = u := by simpa [cS] using hu2
                     simpa using keep_cell hal c2
      | 3, _, hu2 => obtain rfl : _ = u := by simpa [cS] using hu2
                     simpa using keep_cell hal c3
      | 4, _, hu2 => obtain rfl : _ = u := by simpa [cS] using hu2
                     simpa using keep_cell hal c4
      | 5, _, hu2 => obtain rfl : _ = u := by simpa [cS] using hu2
                     simpa using keep_cell hal c5
      | 6, _, hu2 => obtain rfl : _ = u := by simpa [cS] using hu2
                     simpa using keep_cell hal c6
      | 7, _, hu2 => obtain rfl : _ = u := by simpa [cS] using hu2
                     simpa using keep_cell hal c7
      )
    have HO := Lib.hid (fm_one cS (fun x u hu => by
      unfold cS at hu
      simp only [List.mem_cons, List.not_mem_nil, or_false] at hu
      rcases hu with rfl | rfl | rfl | rfl | rfl | rfl | rfl | rfl <;> rfl) L)
    have HL := Lib.hid (fm_len cS 8 (fun _ => rfl) L)
    have hown : (w.alloc (Obj.cells #[] 194)).ownsRow w.heap.size 194 8 (.slice (some ⟨w.heap.size, 0, none⟩) 0 0) 0 [] := by
      have := World.ownsRow_lit (e := 194) (size := 8) w #[] 0 (Nat.le_refl w.heap.size) (by unfold maxLen; omega) (by simp)
      simpa using this
    have HF : Hid (∀ (W : World) (u : Value), W.ownsRow w.heap.size 194 8 u L.length (L.flatMap cS) → SlS W u L) := Lib.hid (fun W u ho => by
      rcases ho.2 with ⟨rfl, h0⟩ | ⟨g, cp, cur, rfl, -⟩
      · exact ⟨none, 0, by rw [h0], hll, fun k hk => by omega⟩
      · refine ⟨_, cp, rfl, hll, fun k hk => ⟨g, 0, rfl, ?_⟩⟩
        have hd : sz L k = L[k] := by unfold sz; rw [List.getD_eq_getElem?_getD, List.getElem?_eq_getElem hk]; rfl
        have hcell : ∀ i, i < 8 → W.cell? ⟨g, 0 + k * 8 + i, none⟩ = (cS L[k])[i]? := fun i hi => by
          rw [Nat.zero_add, World.ownsRow.cellAt ho (k * 8 + i) (by omega), fm_get cS 8 (fun _ => rfl) L k i _ (List.getElem?_eq_getElem hk) hi]
        rw [hd]
        exact ⟨hcell 0 (by decide), hcell 1 (by decide), hcell 2 (by decide), hcell 3 (by decide), hcell 4 (by decide), hcell 5 (by decide), hcell 6 (by decide), hcell 7 (by decide)⟩)
    clear hc
    obtain ⟨n, hn⟩ : ∃ n, L.length = n := ⟨_, rfl⟩
    rw [hn] at NE HL hl HF ⊢
    clear hn hll
    go_enter Tryz.func227, Tryz.ntmps227
    go_wp2_with (at_builtin; refine wpList_append_own _ rfl _ _ 36 rfl w.heap.size 194 i0 (.agg #[.int .i64 0, .int .i64 0, .int .i64 0, .int .i64 0, .int .i64 0, .int .i64 0, .int .i64 0, .int .i64 0]) 8 64 Tryz.underlying36 hi hz0 hz1 hz2 (by kernel_rfl) (by decide) _ _ _ rfl hown ad n cap (L.flatMap cS) rfl (by rw [HL.out]) HN.out HO.out (by unfold maxLen; omega) (by omega) hal.size ?_; intro v6 w6 hown6 hg6 _)
    go_ret
    have hown7 : w6.ownsRow w.heap.size 194 8 v6 n (L.flatMap cS) := by simpa using hown6
    refine ⟨v6, rfl, fun W c => HF.out _ _ (c.own hown7 (fun k hk e => by have := hown7.lt k hk; omega)), hal.grown hg6 hal.size (fun j e => (hown.lt j e).1)⟩

end Go.Proofs.YtcgmmfcphfkdhaaGreat

/- Walks: a piece is cloned. -/
namespace Go.Proofs.YtcgmmfcphfkdhaaGreat
open Go Go.RowKit Go.Proofs Go.Torn Go.Abs

def CpV (B C : Nat) (g1 : Option Addr) (n1 c1 : Nat) (m1 : Option Addr) (n2 c2 : Nat) (G : List G5) (M : List M3) : Nat → Value → World → Prop
 | 0, v, _ => v = .pointer (some ⟨B, 5, none⟩)
 | 1, v, _ => v = .slice g1 n1 c1
 | 2, v, W => Lst C W (fun W => SlG W v G)
 | 3, v, _ => v = .pointer (some ⟨B, 6, none⟩)
 | 4, v, _ => v = .slice m1 n2 c2
 | 5, v, W => Lst C W (fun W => SlM W v M)
 | _, v, _ => v = .pointer (some ⟨B, 5, none⟩)
theorem CpV.keep {B C : Nat} {g1 : Option Addr} {n1 c1 : Nat} {m1 : Option Addr} {n2 c2 : Nat} {G : List G5} {M : List M3} : ∀ i v W W', CpV B C g1 n1 c1 m1 n2 c2 G M i v W → Below W.heap.size W W' → CpV B C g1 n1 c1 m1 n2 c2 G M i v W'
 | 0, _, _, _, h, _ => h
 | 1, _, _, _, h, _ => h
 | 2, _, _, _, h, hb => Lst.keep h hb
 | 3, _, _, _, h, _ => h
 | 4, _, _, _, h, _ => h
 | 5, _, _, _, h, hb => Lst.keep h hb
 | _ + 6, _, _, _, h, _ => h

theorem any_load {w : World} {b : Nat} {U : Array Value} {t : TypeId} {n : Nat} (h : NB w b U t) (ha : ∀ w, (isAgg t).run Tryz.prog w = .ok true w) (hs : ∀ w, (sizeOf t).run Tryz.prog w = .ok n w) (hn : U.size = n) : (loadVar t ⟨b, 0, none⟩).run Tryz.prog w = .ok (.agg U) w := by
 have := nlcf (W := w) (b := b) (o := 0) U hn (fun j v hv => by rw [Nat.zero_add]; exact h.c hv)
 simp only [loadVar, Sem.run_bind, ha, Result.andThen, loadCells]
 simp [this, Result.andThen, hs]
def W7 (w : World) (b : Nat) (a0 a1 a2 a3 a4 a5 a6 : Value) : World := ((((((w.setCell ⟨b, 0, none⟩ a0).setCell ⟨b, 1, none⟩ a1).setCell ⟨b, 2, none⟩ a2).setCell ⟨b, 3, none⟩ a3).setCell ⟨b, 4, none⟩ a4).setCell ⟨b, 5, none⟩ a5).setCell ⟨b, 6, none⟩ a6
theorem set7 {w : World} {b : Nat} {t : TypeId} {z0 z1 z2 z3 z4 z5 z6 : Value} (h : NB w b #[z0, z1, z2, z3, z4, z5, z6] t) (a0 a1 a2 a3 a4 a5 a6 : Value) : NB (W7 w b a0 a1 a2 a3 a4 a5 a6) b #[a0, a1, a2, a3, a4, a5, a6] t := by
 have h0 : NB _ b #[a0, z1, z2, z3, z4, z5, z6] t := h.set 0 a0
 have h1 : NB _ b #[a0, a1, z2, z3, z4, z5, z6] t := h0.set 1 a1
 have h2 : NB _ b #[a0, a1, a2, z3, z4, z5, z6] t := h1.set 2 a2
 have h3 : NB _ b #[a0, a1, a2, a3, z4, z5, z6] t := h2.set 3 a3
 have h4 : NB _ b #[a0, a1, a2, a3, a4, z5, z6] t := h3.set 4 a4
 have h5 : NB _ b #[a0, a1, a2, a3, a4, a5, z6] t := h4.set 5 a5
 exact h5.set 6 a6
theorem chg7 (w : World) (b : Nat) (a0 a1 a2 a3 a4 a5 a6 : Value) : Chg w (W7 w b a0 a1 a2 a3 a4 a5 a6) (fun k => k = b) := by
 have h0 := Chg.set (W := w) (fun k => k = b) b 0 a0 rfl
 have h1 := h0.trans (Chg.set (fun k => k = b) b 1 a1 rfl) (fun _ _ e => e)
 have h2 := h1.trans (Chg.set (fun k => k = b) b 2 a2 rfl) (fun _ _ e => e)
 have h3 := h2.trans (Chg.set (fun k => k = b) b 3 a3 rfl) (fun _ _ e => e)
 have h4 := h3.trans (Chg.set (fun k => k = b) b 4 a4 rfl) (fun _ _ e => e)
 have h5 := h4.trans (Chg.set (fun k => k = b) b 5 a5 rfl) (fun _ _ e => e)
 exact h5.trans (Chg.set (fun k => k = b) b 6 a6 rfl) (fun _ _ e => e)

set_option maxRecDepth 100000 in
set_option maxHeartbeats 4000000 in
theorem clone162 (p : Pc) (ug um : Value) (w : World) (hug : SlG w ug p.G) (hum : SlM w um p.M) (hlG : p.G.length ≤ 100000) (hlM : p.M.length ≤ 100000) :
  Calls Tryz.prog 162 #[.agg #[.int .i64 p.id, .int .i64 p.c, .int .i64 p.r, .int .i64 p.m, .int .i64 p.s, ug, um]] w fun e w' => ∃ vg vm, e = .returned (.agg #[.int .i64 p.id, .int .i64 p.c, .int .i64 p.r, .int .i64 p.m, .int .i64 p.s, vg, vm]) ∧
   Lst w.heap.size w' (fun W => SlG W vg p.G ∧ SlM W vm p.M) ∧ Below w.heap.size w w' := by
 have hal : Below w.heap.size w ((w.alloc (.cells #[.int .i64 p.id, .int .i64 p.c, .int .i64 p.r, .int .i64 p.m, .int .i64 p.s, ug, um] 106)).alloc (.cells #[.int .i64 0, .int .i64 0, .int .i64 0, .int .i64 0, .int .i64 0, .slice none 0 0, .slice none 0 0] 106)) := ((Below.refl _ _).alloc (Nat.le_refl _) _).alloc (by simp) _
 have hsz : ((w.alloc (.cells #[.int .i64 p.id, .int .i64 p.c, .int .i64 p.r, .int .i64 p.m, .int .i64 p.s, ug, um] 106)).alloc (.cells #[.int .i64 0, .int .i64 0, .int .i64 0, .int .i64 0, .int .i64 0, .slice none 0 0, .slice none 0 0] 106)).heap.size = w.heap.size + 2 := by simp
 have n0 := (NB.new w #[.int .i64 p.id, .int .i64 p.c, .int .i64 p.r, .int .i64 p.m, .int .i64 p.s, ug, um] 106).alloc (.cells #[.int .i64 0, .int .i64 0, .int .i64 0, .int .i64 0, .int .i64 0, .slice none 0 0, .slice none 0 0] 106)
 have n1' := nb1 w (.cells #[.int .i64 p.id, .int .i64 p.c, .int .i64 p.r, .int .i64 p.m, .int .i64 p.s, ug, um] 106) #[.int .i64 0, .int .i64 0, .int .i64 0, .int .i64 0, .int .i64 0, .slice none 0 0, .slice none 0 0] 106
 have HG := Lib.hid (hug.keep hal)
 have HM := Lib.hid (hum.keep hal)
 obtain ⟨g1, c1, rfl, -, -⟩ := hug
 obtain ⟨m1, c2, rfl, -, -⟩ := hum
 go_enter Tryz.func162, Tryz.ntmps162
 go_wp2_with fail
 generalize hW0 : ((w.alloc (.cells #[.int .i64 p.id, .int .i64 p.c, .int .i64 p.r, .int .i64 p.m, .int .i64 p.s, .slice g1 p.G.length c1, .slice m1 p.M.length c2] 106)).alloc (.cells #[.int .i64 0, .int .i64 0, .int .i64 0, .int .i64 0, .int .i64 0, .slice none 0 0, .slice none 0 0] 106)) = W0 at *
 clear hW0
 have HC : Hid (W0.heap.size ≤ W0.heap.size) := Lib.hid (Nat.le_refl _)
 have HS := Lib.hid hsz
 have HA := Lib.hid hal
 have N0 := Lib.hid n0
 have N1 := Lib.hid n1'
 obtain ⟨B, hB⟩ : ∃ B, w.heap.size = B := ⟨_, rfl⟩
 have HB := Lib.hid hB
 rw [hB] at N0 N1 HS HA ⊢
 clear hsz hal n0 n1' hB
 obtain ⟨nG, hnG⟩ : ∃ n, p.G.length = n := ⟨_, rfl⟩
 obtain ⟨nM, hnM⟩ : ∃ n, p.M.length = n := ⟨_, rfl⟩
 have HlG := Lib.hid hlG
 have HlM := Lib.hid hlM
 rw [hnG, hnM] at N0 ⊢
 rw [hnG] at HG
 rw [hnM] at HM
 clear hnG hnM hlG hlM
 refine wp_region_valsT 7 (CpV B W0.heap.size g1 nG c1 m1 nM c2 p.G p.M) (by kernel_rfl) (by kernel_rfl) CpV.keep ?_ ?_
 ·simp only [List.take_succ_cons, List.take_zero]
  intro i o ho a' W hW hfr hdep
  have f1 : a'.tmps[1]?.getD undef = .pointer (some ⟨B, 0, none⟩) := Array.getD_eq_getD_getElem?.symm.trans (hfr 1 rfl)
  clear hfr
  have hi : i < 7 := by have := (List.getElem?_eq_some_iff.1 ho).1; simpa using this
  obtain rfl | rfl | rfl | rfl | rfl | rfl | rfl : i = 0 ∨ i = 1 ∨ i = 2 ∨ i = 3 ∨ i = 4 ∨ i = 5 ∨ i = 6 := by omega
  all_goals simp only [List.getElem?_cons_zero, List.getElem?_cons_succ, Option.some.injEq] at ho
  all_goals subst ho
  ·clear hdep
   refine .inl ⟨_, W, ?_, Below.refl _ _, rfl⟩
   go_simp
  ·have d0 : a'.tmps[3]?.getD undef = .pointer (some ⟨B, 5, none⟩) := Array.getD_eq_getD_getElem?.symm.trans (hdep ⟨0, .data⟩ (by simp) rfl 3 rfl)
   clear hdep
   have c := (N0.out.keep hW).c (k := 5) (v := .slice g1 nG c1) rfl
   refine .inl ⟨_, W, ?_, Below.refl _ _, rfl⟩
   go_simp
  ·have d0 : a'.tmps[4]?.getD undef = .slice g1 nG c1 := Array.getD_eq_getD_getElem?.symm.trans (hdep ⟨1, .data⟩ (by simp) rfl 4 rfl)
   clear hdep
   refine .inr ⟨225, #[.slice g1 nG c1], W, ?_, Below.refl _ _, (clone225 _ p.G HlG.out W (HG.out.keep hW)).mono ?_⟩
   ·go_simp
   ·rintro e W' ⟨u, rfl, hs, hb⟩
    exact ⟨_, rfl, hb, hs.mono (Nat.le_trans HC.out hW.size)⟩
  ·clear hdep
   refine .inl ⟨_, W, ?_, Below.refl _ _, rfl⟩
   go_simp
  ·have d0 : a'.tmps[6]?.getD undef = .pointer (some ⟨B, 6, none⟩) := Array.getD_eq_getD_getElem?.symm.trans (hdep ⟨3, .data⟩ (by simp) rfl 6 rfl)
   clear hdep
   have c := (N0.out.keep hW).c (k := 6) (v := .slice m1 nM c2) rfl
   refine .inl ⟨_, W, ?_, Below.refl _ _, rfl⟩
   go_simp
  ·have d0 : a'.tmps[7]?.getD undef = .slice m1 nM c2 := Array.getD_eq_getD_getElem?.symm.trans (hdep ⟨4, .data⟩ (by simp) rfl 7 rfl)
   clear hdep
   refine .inr ⟨226, #[.slice m1 nM c2], W, ?_, Below.refl _ _, (clone226 _ p.M HlM.out W (HM.out.keep hW)).mono ?_⟩
   ·go_simp
   ·rintro e W' ⟨u, rfl, hs, hb⟩
    exact ⟨_, rfl, hb, hs.mono (Nat.le_trans HC.out hW.size)⟩
  ·clear hdep
   refine .inl ⟨_, W, ?_, Below.refl _ _, rfl⟩
   go_simp
 ·intro W hW
  simp only [List.take_succ_cons, List.take_zero, List.map_cons, List.map_nil, VQ]
  rintro _ rfl _ rfl u0 s0 _ rfl _ rfl u1 s1 _ rfl
  have nW := N0.out.keep hW
  have f5 := nW.f 5
  have f6 := (nW.set 5 u0).f 6
  have c5 := nW.c (k := 5) (v := .slice g1 nG c1) rfl
  have c6 := (nW.set 5 u0).c (k := 6) (v := .slice m1 nM c2) rfl
  have n2 : NB ((W.setCell ⟨B, 5, none⟩ u0).setCell ⟨B, 6, none⟩ u1) B #[.int .i64 p.id, .int .i64 p.c, .int .i64 p.r, .int .i64 p.m, .int .i64 p.s, u0, u1] 106 := (nW.set 5 u0).set 6 u1
  have n3 : NB ((W.setCell ⟨B, 5, none⟩ u0).setCell ⟨B, 6, none⟩ u1) (B + 1) #[.int .i64 0, .int .i64 0, .int .i64 0, .int .i64 0, .int .i64 0, .slice none 0 0, .slice none 0 0] 106 := ((N1.out.keep hW).other u0 (by omega)).other u1 (by omega)
  have ch : Chg W ((W.setCell ⟨B, 5, none⟩ u0).setCell ⟨B, 6, none⟩ u1) (fun k => k < W0.heap.size) := (Chg.set (fun k => k < W0.heap.size) B 5 u0 (by have := HS.out; omega)).trans (Chg.set (fun k => k < W0.heap.size) B 6 u1 (by have := HS.out; omega)) (fun _ _ e => e)
  have hL : Lst W0.heap.size ((W.setCell ⟨B, 5, none⟩ u0).setCell ⟨B, 6, none⟩ u1) (fun W => SlG W u0 p.G ∧ SlM W u1 p.M) := (Lst.chg s0 ch).and (Lst.chg s1 ch)
  have bW : Below B w ((W.setCell ⟨B, 5, none⟩ u0).setCell ⟨B, 6, none⟩ u1) := HA.out.trans ((hW.mono (by have := HS.out; omega)).trans ⟨ch.os, ch.tape, ch.output, ch.size, fun k hk => (heap_set (by omega)).trans (heap_set (by omega))⟩)
  have h5 : SlG W u0 p.G := Lst.now s0
  have h6 : SlM W u1 p.M := Lst.now s1
  obtain ⟨a5, k5, rfl, -, -⟩ := h5
  obtain ⟨a6, k6, rfl, -, -⟩ := h6
  have HL2 := Lib.hid hL
  have HB2 := Lib.hid bW
  have N2 := Lib.hid n2
  have N3 := Lib.hid n3
  clear hW s0 s1 nW ch hL bW HG HM HlG HlM n2 n3
  simp only [List.setIfInBounds_toArray, List.set_cons_zero, List.set_cons_succ, List.length_cons, List.length_nil, Nat.reduceAdd, Nat.reduceSub, ledList, List.replicate, List.cons_append, List.nil_append]
  refine wpAny_ready (rs := [7]) (by kernel_rfl) (by simp) (AllReady.cons rfl (fun K hK => ?_) AllReady.nil)
  simp only [List.getElem_toArray, List.getElem_cons_succ, List.getElem_cons_zero]
  rw [if_pos (show Region.wanted _ _ = true from rfl)]
  have HK := Lib.hid hK
  clear hK
  go_wp2_with fail
  refine HK.out _ _ ?_
  clear HK K
  refine wpAny_ready (rs := [8]) (by kernel_rfl) (by simp) (AllReady.cons rfl (fun K hK => ?_) AllReady.nil)
  simp only [List.getElem_toArray, List.getElem_cons_succ, List.getElem_cons_zero]
  rw [if_pos (show Region.wanted _ _ = true from rfl)]
  have HK := Lib.hid hK
  clear hK
  go_wp2_with fail
  refine HK.out _ _ ?_
  clear HK K
  refine wpAny_ready (rs := [9]) (by kernel_rfl) (by simp) (AllReady.cons rfl (fun K hK => ?_) AllReady.nil)
  simp only [List.getElem_toArray, List.getElem_cons_succ, List.getElem_cons_zero]
  rw [if_pos (show Region.wanted _ _ = true from rfl)]
  have HK := Lib.hid hK
  clear hK
  go_wp2_with fail
  refine HK.out _ _ ?_
  clear HK K
  refine wpAny_done (by kernel_rfl) ?_ _
  simp only [Exit.then]
  have d0 := N2.out.c (k := 0) rfl
  have d1 := N2.out.c (k := 1) rfl
  have d2 := N2.out.c (k := 2) rfl
  have d3 := N2.out.c (k := 3) rfl
  have d4 := N2.out.c (k := 4) rfl
  have d5 := N2.out.c (k := 5) rfl
  have d6 := N2.out.c (k := 6) rfl
  clear N2 f5 f6 c5 c6
  generalize hWF : (W.setCell ⟨B, 5, none⟩ (.slice a5 p.G.length k5)).setCell ⟨B, 6, none⟩ (.slice a6 p.M.length k6) = WF at *
  clear hWF
  have sh := (set7 N3.out (.int .i64 p.id) (.int .i64 p.c) (.int .i64 p.r) (.int .i64 p.m) (.int .i64 p.s) (.slice a5 p.G.length k5) (.slice a6 p.M.length k6))
  have cS : Chg WF (W7 WF (B + 1) (.int .i64 p.id) (.int .i64 p.c) (.int .i64 p.r) (.int .i64 p.m) (.int .i64 p.s) (.slice a5 p.G.length k5) (.slice a6 p.M.length k6)) (fun k => k = B + 1) := chg7 _ _ _ _ _ _ _ _ _
  have fin : Hid (Lst w.heap.size (W7 WF (B + 1) (.int .i64 p.id) (.int .i64 p.c) (.int .i64 p.r) (.int .i64 p.m) (.int .i64 p.s) (.slice a5 p.G.length k5) (.slice a6 p.M.length k6)) (fun W => SlG W (.slice a5 p.G.length k5) p.G ∧ SlM W (.slice a6 p.M.length k6) p.M) ∧ Below w.heap.size w (W7 WF (B + 1) (.int .i64 p.id) (.int .i64 p.c) (.int .i64 p.r) (.int .i64 p.m) (.int .i64 p.s) (.slice a5 p.G.length k5) (.slice a6 p.M.length k6))) := Lib.hid (by
   have hs := HS.out
   have hb := HB.out
   refine ⟨(HL2.out.chg ⟨cS.os, cS.tape, cS.output, cS.size, fun k hk hn => cS.block k hk (fun e => hn (by omega))⟩).mono (by omega), ?_⟩
   rw [hb]
   exact HB2.out.trans (cS.below (Nat.le_trans (by omega) HB2.out.size) (fun k hk e => by omega)))
  have HW7 := Lib.hid (show W7 WF (B + 1) (.int .i64 p.id) (.int .i64 p.c) (.int .i64 p.r) (.int .i64 p.m) (.int .i64 p.s) (.slice a5 p.G.length k5) (.slice a6 p.M.length k6) = _ from rfl)
  have z0 := N3.out.c (k := 0) rfl
  have z1 := N3.out.c (k := 1) rfl
  have z2 := N3.out.c (k := 2) rfl
  have z3 := N3.out.c (k := 3) rfl
  have z4 := N3.out.c (k := 4) rfl
  have z5 := N3.out.c (k := 5) rfl
  have z6 := N3.out.c (k := 6) rfl
  have zf := fun k => N3.out.f k
  have LD := Lib.hid (any_load sh Tryz.isAgg106 Tryz.sizeOf106 rfl)
  clear sh cS HL2 HB2 N3 HC HS HA
  go_at_K
  go_wp2_with fail
  exact bodyPost_ret (nres_cell (fn := Tryz.f162) rfl _ (by rfl) LD.out) rfl ⟨_, _, rfl, fin.out⟩

end Go.Proofs.YtcgmmfcphfkdhaaGreat

/- Walks: pieces are cloned one by one. -/
namespace Go.Proofs.YtcgmmfcphfkdhaaGreat
open Go Go.RowKit Go.Proofs Go.Torn Go.Abs

def Far (base : Nat) (r : Option Nat) (W : World) (P : World → Prop) : Prop := ∃ W1 B0, base ≤ B0 ∧ Lst B0 W1 P ∧ Chg W1 W (fun k => k < B0) ∧ ∀ k, r = some k → k < B0 ∨ W1.heap.size ≤ k

theorem Far.keep {base : Nat} {r : Option Nat} {W W' : World} {P : World → Prop} (h : Far base r W P) (hb : Below W.heap.size W W') : Far base r W' P := by
 obtain ⟨W1, B0, h1, h2, h3, h4⟩ := h
 exact ⟨W1, B0, h1, h2, h3.trans (Chg.of_below (fun k => k < B0) hb) (fun _ _ e => e), h4⟩
theorem Far.step {base : Nat} {r r' : Option Nat} {W W' : World} {P : World → Prop} (h : Far base r W P) (hg : W.grownBy W' r) (hr : r' = r ∨ r' = some W.heap.size) : Far base r' W' P := by
 obtain ⟨W1, B0, h1, h2, h3, h4⟩ := h
 refine ⟨W1, B0, h1, h2, h3.trans (Chg.of_grown (fun k => r = some k) hg (fun k e => e.symm)) (fun i hi e => ?_), fun k e => ?_⟩
 ·rcases h4 i e with g | g
  ·exact g
  ·omega
 ·rcases hr with g | g
  ·exact h4 k (by rw [← g]; exact e)
  ·rw [g] at e
   simp only [Option.some.injEq] at e
   have := h3.size
   omega
theorem Far.last {base : Nat} {r : Option Nat} {W : World} {P : World → Prop} (h : Far base r W P) : Lst base W P := fun W' c => by
 obtain ⟨W1, B0, h1, h2, h3, h4⟩ := h
 exact h2 W' (h3.trans c (fun i _ e => Nat.lt_of_lt_of_le e h1))

structure RowF {α : Type} (W : World) (base : Nat) (e : TypeId) (k : Nat) (cells : α → List Value) (P : α → World → Prop) (v : Value) (L : List α) : Prop where
 own : W.ownsRow base e k v L.length (L.flatMap cells)
 far : ∀ x ∈ L, Far base v.ownBlock W (P x)

theorem own_lt' {base e k : Nat} {W : World} {v : Value} {n : Nat} {xs : List Value} (h : W.ownsRow base e k v n xs) : ∀ j, v.ownBlock = some j → base ≤ j ∧ j < W.heap.size := by
 rcases h.2 with ⟨rfl, -⟩ | ⟨g, cap, cur, rfl, hb, hg, -⟩
 ·intro k e; cases e
 ·intro k e
  have : g = k := by simpa [Value.ownBlock] using e
  subst this
  exact ⟨hb, (Array.getElem?_eq_some_iff.1 hg).1⟩

theorem RowF.nil {α : Type} (W : World) (base : Nat) (e : TypeId) (k : Nat) (cells : α → List Value) (P : α → World → Prop) : RowF W base e k cells P (.slice none 0 0) [] :=
 ⟨World.ownsRow_nil _ _ _ _, fun x hx => by cases hx⟩
theorem RowF.keep {α : Type} {W W' : World} {base : Nat} {e : TypeId} {k : Nat} {cells : α → List Value} {P : α → World → Prop} {v : Value} {L : List α} (h : RowF W base e k cells P v L) (hb : Below W.heap.size W W') : RowF W' base e k cells P v L :=
 ⟨(Chg.of_below (fun _ => False) hb).own h.own (fun _ _ e => e), fun x hx => (h.far x hx).keep hb⟩
theorem RowF.push {α : Type} {W W' : World} {base : Nat} {e : TypeId} {k : Nat} {cells : α → List Value} {P : α → World → Prop} {v v' : Value} {L : List α} (h : RowF W base e k cells P v L) (x : α)
  (ho : W'.ownsRow base e k v' (L.length + 1) (L.flatMap cells ++ cells x)) (hg : W.grownBy W' v.ownBlock) (hv : v'.ownBlock = v.ownBlock ∨ v'.ownBlock = some W.heap.size) (hx : Far base v.ownBlock W (P x)) : RowF W' base e k cells P v' (L ++ [x]) := by
 refine ⟨?_, fun y hy => ?_⟩
 ·rw [List.length_append, List.length_singleton, List.flatMap_append]
  simpa using ho
 ·rcases List.mem_append.1 hy with g | g
  ·exact (h.far y g).step hg hv
  ·simp only [List.mem_singleton] at g
   subst g
   exact hx.step hg hv
theorem far_new {base : Nat} {W W' : World} {r : Option Nat} {P : World → Prop} (hb : base ≤ W.heap.size) (hr : ∀ k, r = some k → k < W.heap.size) (h : Lst W.heap.size W' P) : Far base r W' P :=
 ⟨W', W.heap.size, hb, h, Chg.refl _ _, fun k e => .inl (hr k e)⟩

abbrev PV : Type := Pc × Value × Value
def cPV (x : PV) : List Value := [.int .i64 x.1.id, .int .i64 x.1.c, .int .i64 x.1.r, .int .i64 x.1.m, .int .i64 x.1.s, x.2.1, x.2.2]
def pPV (x : PV) (W : World) : Prop := SlG W x.2.1 x.1.G ∧ SlM W x.2.2 x.1.M

theorem info106 : (Tryz.prog.info? 106).map (fun i => (i.zero, i.size, i.bytes)) = some (some (.agg #[.int .i64 0, .int .i64 0, .int .i64 0, .int .i64 0, .int .i64 0, .slice none 0 0, .slice none 0 0]), 7, 88) := by kernel_rfl

theorem slP_of {W : World} {base : Nat} {v : Value} {L : List PV} (h : RowF W base 106 7 cPV pPV v L) (hl : L.length ≤ 1000000) : Lst base W (fun W => SlP W v (L.map Prod.fst)) := fun W' c => by
 have ho := c.own h.own (fun k hk e => by have := own_lt' h.own k hk; omega)
 rcases ho.2 with ⟨rfl, h0⟩ | ⟨g, cp, cur, rfl, -⟩
 ·exact ⟨none, 0, by rw [List.length_map, h0], by rw [List.length_map]; omega, fun k hk => by rw [List.length_map] at hk; omega⟩
 ·refine ⟨_, cp, by rw [List.length_map], by rw [List.length_map]; omega, fun k hk => ⟨g, 0, rfl, ?_⟩⟩
  rw [List.length_map] at hk
  have hd : pz (L.map Prod.fst) k = L[k].1 := by unfold pz; simp [List.getD, hk]
  have hcell : ∀ i, i < 7 → W'.cell? ⟨g, 0 + k * 7 + i, none⟩ = (cPV L[k])[i]? := fun i hi => by
   rw [Nat.zero_add, World.ownsRow.cellAt ho (k * 7 + i) (by omega), fm_get cPV 7 (fun _ => rfl) L k i _ (List.getElem?_eq_getElem hk) hi]
  rw [hd]
  obtain ⟨h1, h2⟩ := (h.far L[k] (List.getElem_mem hk)).last W' c
  exact ⟨_, _, h1, h2, hcell 0 (by decide), hcell 1 (by decide), hcell 2 (by decide), hcell 3 (by decide), hcell 4 (by decide), hcell 5 (by decide), hcell 6 (by decide)⟩

set_option maxRecDepth 100000 in
set_option maxHeartbeats 4000000 in
theorem each161 (u : Value) (D : List Pc) (w : World) (h : SlP w u D) (hl : D.length ≤ 100000) (hG : ∀ p ∈ D, p.G.length ≤ 100000 ∧ p.M.length ≤ 100000) :
  Calls Tryz.prog 161 #[u, .func (.func 162) #[] #[]] w fun e w' => ∃ v, e = .returned v ∧ Lst w.heap.size w' (fun W => SlP W v D) ∧ Below w.heap.size w w' := by
 obtain ⟨i0, hi, hz0, hz1, hz2⟩ := info_parts info106
 obtain ⟨a, cap, rfl, -, hc⟩ := h
 have HC := Lib.hid hc
 have HG := Lib.hid hG
 obtain ⟨n, hn⟩ : ∃ n, D.length = n := ⟨_, rfl⟩
 have HN := Lib.hid hn
 rw [hn] at HC hl ⊢
 clear hn hc hG
 go_enter Tryz.func161, Tryz.ntmps161
 go_wp2_with fail
 go_loopw [5, 10] (fun v i wr => ∃ q : Nat, q ≤ n ∧ i = .int .i64 q ∧ Hid (∃ L : List PV, L.map Prod.fst = D.take q ∧ RowF wr w.heap.size 106 7 cPV pPV v L) ∧ Hid (Below w.heap.size w wr)) (fun _ i _ => n - (intOf i).toNat)
 case atStart => exact ⟨0, by omega, rfl, Lib.hid ⟨[], by simp, RowF.nil _ _ _ _ _ _⟩, Lib.hid (Below.refl _ _)⟩
 case round =>
  obtain ⟨q, hq, rfl, hrel, hbel⟩ := hrel
  obtain ⟨L, hL, hrow⟩ := hrel.out
  clear hrel
  have hLl : L.length = q := by
   have := congrArg List.length hL
   rw [List.length_map, List.length_take, HN.out] at this
   omega
  have HLl := Lib.hid hLl
  clear hLl
  by_cases hq1 : q < n
  ·have j1 : decide ((q : Int) < (n : Int)) = true := by simp; omega
   obtain ⟨b, off, rfl, vg, vm, hg, hm, c0, c1, c2, c3, c4, c5, c6⟩ := HC.out q hq1
   have hmem : pz D q ∈ D := by
    have : pz D q = D[q]'(by rw [HN.out]; exact hq1) := by unfold pz; simp [List.getD, HN.out, hq1]
    rw [this]; exact List.getElem_mem _
   have htk : D.take (q + 1) = D.take q ++ [pz D q] := by
    rw [List.take_add_one]
    unfold pz
    simp [List.getD, HN.out, hq1]
   obtain ⟨p, hp⟩ : ∃ p, pz D q = p := ⟨_, rfl⟩
   rw [hp] at hg hm c0 c1 c2 c3 c4 hmem htk
   clear hp
   have hb := hbel.out
   have hg' := hg.keep hb
   have hm' := hm.keep hb
   replace c0 := keep_cell hb c0
   replace c1 := keep_cell hb c1
   replace c2 := keep_cell hb c2
   replace c3 := keep_cell hb c3
   replace c4 := keep_cell hb c4
   replace c5 := keep_cell hb c5
   replace c6 := keep_cell hb c6
   have hal : Below wr.heap.size wr (wr.alloc (.cells #[.int .i64 p.id, .int .i64 p.c, .int .i64 p.r, .int .i64 p.m, .int .i64 p.s, vg, vm] 106)) := (Below.refl _ _).alloc (Nat.le_refl _) _
   have HF := Lib.hid (clone162 p vg vm _ (hg'.keep hal) (hm'.keep hal) (HG.out p hmem).1 (HG.out p hmem).2)
   have HR := Lib.hid hrow
   have HAL := Lib.hid hal
   obtain ⟨ag, cg, rfl, -, -⟩ := hg'
   obtain ⟨am, cm, rfl, -, -⟩ := hm'
   obtain ⟨ra, rc, rfl, -, -⟩ := own_slice hrow.own
   clear hrow hal hg hm hb hmem
   go_wp2_with fail
   refine HF.out.mono ?_
   rintro e w2 ⟨wg, wm, rfl, hlst, hb2⟩
   have hb3 : Below wr.heap.size wr w2 := HAL.out.trans (hb2.mono HAL.out.size)
   have hrow2 := HR.out.keep hb3
   have hbw : w.heap.size ≤ wr.heap.size := hbel.out.size
   have hfar : Far w.heap.size (Value.slice ra L.length rc).ownBlock w2 (pPV (p, wg, wm)) := far_new (W := wr.alloc (.cells #[.int .i64 p.id, .int .i64 p.c, .int .i64 p.r, .int .i64 p.m, .int .i64 p.s, .slice ag p.G.length cg, .slice am p.M.length cm] 106)) (by have := HAL.out.size; omega) (fun k e => by have := (own_lt' HR.out.own k e).2; have := HAL.out.size; omega) hlst
   have h5 := hlst.now.1
   have h6 := hlst.now.2
   have hal2 : Below w2.heap.size w2 (w2.alloc (.cells #[.int .i64 p.id, .int .i64 p.c, .int .i64 p.r, .int .i64 p.m, .int .i64 p.s, wg, wm] 106)) := (Below.refl _ _).alloc (Nat.le_refl _) _
   have n2 := NB.new w2 #[.int .i64 p.id, .int .i64 p.c, .int .i64 p.r, .int .i64 p.m, .int .i64 p.s, wg, wm] 106
   have hrow3 := hrow2.keep hal2
   have hfar3 := hfar.keep hal2
   have hw2 : w.heap.size ≤ w2.heap.size := Nat.le_trans hbw hb3.size
   obtain ⟨v', W3, run, ho, hgr, -, hv⟩ := run_append_own_at (P := Tryz.prog) (w := w2.alloc (.cells #[.int .i64 p.id, .int .i64 p.c, .int .i64 p.r, .int .i64 p.m, .int .i64 p.s, wg, wm] 106)) w.heap.size 33 33 106 i0 _ 7 88 Tryz.underlying33 hi hz0 hz1 hz2 (by kernel_rfl) (by decide) _ _ _ hrow3.own ⟨w2.heap.size, 0, none⟩ 1 1 (cPV (p, wg, wm)) rfl
    (fun j x hx => by
     rw [add_off, Nat.zero_add]
     exact n2.c (by rw [← Array.getElem?_toList]; exact hx))
    (fun x hx => by
     obtain ⟨a1, a2, rfl, -⟩ := h5
     obtain ⟨a3, a4, rfl, -⟩ := h6
     simp only [cPV, List.mem_cons, List.not_mem_nil, or_false] at hx
     rcases hx with rfl | rfl | rfl | rfl | rfl | rfl | rfl <;> rfl) (by have := HLl.out; unfold maxLen; omega) (by have := HLl.out; omega) (by have := hal2.size; omega)
   have hR := hrow3.push (p, wg, wm) ho hgr hv hfar3
   have fin : Hid ((∃ L : List PV, L.map Prod.fst = D.take (q + 1) ∧ RowF W3 w.heap.size 106 7 cPV pPV v' L) ∧ Below w.heap.size w W3) := Lib.hid ⟨⟨_, by rw [List.map_append, hL, htk]; rfl, hR⟩, by
    refine hbel.out.trans ((hb3.mono hbw).trans ((hal2.mono hw2).trans ?_))
    exact (Chg.of_grown (fun k => w.heap.size ≤ k) hgr (fun k e => (own_lt' hrow3.own k e.symm).1)).below (by have := hal2.size; omega) (fun k hk e => by omega)⟩
   obtain ⟨a5, k5, rfl, -, -⟩ := h5
   obtain ⟨a6, k6, rfl, -, -⟩ := h6
   obtain ⟨a7, k7, rfl, -, -⟩ := own_slice ho
   clear hlst hb2 hb3 hrow2 hfar hal2 n2 hrow3 hfar3 ho hgr hv hR HF HR HAL hL htk hbel
   go_wp2_with (at_builtin; refine Lib.wpList_append_run _ rfl _ _ _ _ rfl _ _ rfl rfl _ _ run ?_)
   exact ⟨⟨q + 1, hq1, by simp, Lib.hid fin.out.1, Lib.hid fin.out.2⟩, by simp [intOf]; omega⟩
  ·have hqn : q = n := by omega
   subst hqn
   have j1 : decide ((q : Int) < (q : Int)) = false := by simp
   have hD : L.map Prod.fst = D := by rw [hL, ← HN.out, List.take_length]
   have fin : Hid (Lst w.heap.size wr (fun W => SlP W u5 D) ∧ Below w.heap.size w wr) := Lib.hid ⟨by rw [← hD]; exact slP_of hrow (by have := HLl.out; omega), hbel.out⟩
   obtain ⟨ra, rc, rfl, -, -⟩ := own_slice hrow.own
   clear hrow hbel hL hD HC HG
   go_wp2_with fail
   go_ret
   exact ⟨_, rfl, fin.out⟩

end Go.Proofs.YtcgmmfcphfkdhaaGreat
