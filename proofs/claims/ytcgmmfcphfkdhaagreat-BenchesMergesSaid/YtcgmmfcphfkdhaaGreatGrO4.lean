/- The abstract machine, part GrO4. -/
import Derived.Test.YtcgmmfcphfkdhaaGreatGrO2
import Derived.Test.YtcgmmfcphfkdhaaGreatGrN4
import Derived.Test.YtcgmmfcphfkdhaaGreatGrNA
import Derived.Laws.IdiomRangeMap
import Derived.Test.YtcgmmfcphfkdhaaGreatD2
import Derived.Maps.RangeRun
import Derived.Maps.AppendAt
import Derived.Test.YtcgmmfcphfkdhaaGreatGrO3
import Derived.Test.YtcgmmfcphfkdhaaGreatHSn
/- A map from names to notes: looked up, updated. -/
namespace Go.Proofs.YtcgmmfcphfkdhaaGreat
open Go Go.RowKit Go.Proofs Go.Torn Go.Abs

def mkE (x : Nv) (i : Nat) : MapEntry := { key := rfv x.N.b x.N.n, val := .agg x.arr, born := i }
def mkEs : Nat → List Nv → List MapEntry
 | _, [] => []
 | i, x :: l => mkE x i :: mkEs (i + 1) l

def MapN (W : World) (M : Nat) (L : List Nv) : Prop := ∃ es, W.heap[M]? = some (.map es L.length) ∧ es.toList = mkEs 0 L

theorem MapN.lt {W : World} {M : Nat} {L : List Nv} (h : MapN W M L) : M < W.heap.size := by
 obtain ⟨es, h, -⟩ := h
 exact (Array.getElem?_eq_some_iff.1 h).1
theorem MapN.keep {W W' : World} {M : Nat} {L : List Nv} (h : MapN W M L) (hb : Below W.heap.size W W') : MapN W' M L := by
 have hl := h.lt
 obtain ⟨es, h, e⟩ := h
 exact ⟨es, (hb.block M hl).trans h, e⟩

theorem eqRef (a b a' b' : Int) (w : World) : (Op.equal 31 (rfv a b) (rfv a' b')).run Tryz.prog w = .ok (a == a' && b == b') w := by
 have h := eql31 a b a' b' w
 have k : (binOp .eql 31 (rfv a b) (rfv a' b')).run Tryz.prog w = ((Op.equalIn 10000 31 (rfv a b) (rfv a' b')).run Tryz.prog w).andThen fun b w' => .ok (.bool b) w' := run_eql_struct _ _ _ _
 rw [k] at h
 change (Op.equalIn 10000 31 (rfv a b) (rfv a' b')).run Tryz.prog w = _
 cases hh : (Op.equalIn 10000 31 (rfv a b) (rfv a' b')).run Tryz.prog w with
 | halt x w' => rw [hh] at h; cases h
 | ok r w' =>
  rw [hh] at h
  simp only [Result.andThen, Result.ok.injEq, Value.bool.injEq] at h
  rw [h.1, h.2]

theorem chkRef (e : Bool) (b n : Int) (w : World) : (Instr.checkKey e 10000 31 (rfv b n)).run Tryz.prog w = .ok () w := by kernel_rfl

def at? (b n : Int) : Nat → List Nv → Option (Nat × Nv)
 | _, [] => none
 | i, x :: l => if b == x.N.b && n == x.N.n then some (i, x) else at? b n (i + 1) l

theorem ask_mkEs (b n : Int) (w : World) : ∀ (L : List Nv) (i : Nat), (Instr.findAsking 31 (rfv b n) (mkEs i L) i).run Tryz.prog w = .ok ((at? b n i L).map fun p => (p.1, .agg p.2.arr)) w
 | [], i => rfl
 | x :: l, i => by
  show ((Op.equal 31 (rfv b n) (rfv x.N.b x.N.n)) >>= fun r => if r = true then pure (some (i, .agg x.arr)) else Instr.findAsking 31 (rfv b n) (mkEs (i + 1) l) (i + 1)).run Tryz.prog w = _
  rw [run_bind_ok (eqRef _ _ _ _ w)]
  unfold at?
  by_cases h : (b == x.N.b && n == x.N.n) = true
  ·rw [if_pos h, if_pos h]; rfl
  ·rw [if_neg h, if_neg h]
   exact ask_mkEs b n w l (i + 1)

theorem find_mkEs (b n : Int) (w : World) (L : List Nv) : (Instr.findKey 31 (rfv b n) (mkEs 0 L)).run Tryz.prog w = .ok ((at? b n 0 L).map fun p => (p.1, .agg p.2.arr)) w := by
 unfold Instr.findKey
 rw [run_bind_ok (run_underlying Tryz.underlying31 w)]
 cases L with
 | nil => rfl
 | cons x l =>
  show (Instr.findAsking 31 (rfv b n) (mkEs 0 (x :: l)) 0).run Tryz.prog w = _
  exact ask_mkEs b n w (x :: l) 0

theorem look_map {W : World} {M : Nat} {L : List Nv} (h : MapN W M L) (b n : Int) (Z : Array Value) (hz : (zeroValue 40).run Tryz.prog W = .ok (.agg Z) W) :
  (Instr.lookup 123 (.map (some M)) (rfv b n) true).run Tryz.prog W = .ok (match at? b n 0 L with | some p => .tuple #[.agg p.2.arr, .bool true] | none => .tuple #[.agg Z, .bool false]) W := by
 obtain ⟨es, hb, he⟩ := h
 unfold Instr.lookup
 rw [run_bind_ok (run_underlying Tryz.underlying123 W)]
 simp only
 rw [run_bind_ok (a := .map es L.length) (w1 := W) (by simp only [getObj, Sem.run, hb])]
 simp only
 rw [run_bind_ok (a := es) (w1 := W) rfl, run_bind_ok (chkRef _ _ _ W), he, run_bind_ok (find_mkEs b n W L)]
 cases hh : at? b n 0 L with
 | none =>
  simp only [Option.map_none]
  rw [run_bind_ok hz]
  rfl
 | some p => rfl

def upd (L : List Nv) (x : Nv) : List Nv := match at? x.N.b x.N.n 0 L with | some p => L.set p.1 x | none => L ++ [x]

theorem at_some {b n : Int} {p : Nat × Nv} : ∀ {L : List Nv} {i : Nat}, at? b n i L = some p → i ≤ p.1 ∧ L[p.1 - i]? = some p.2 ∧ p.2.N.b = b ∧ p.2.N.n = n
 | [], _, h => by cases h
 | x :: l, i, h => by
  unfold at? at h
  split at h
  ·rename_i hc
   simp only [Option.some.injEq] at h
   subst h
   simp only [Bool.and_eq_true, beq_iff_eq] at hc
   exact ⟨Nat.le_refl _, by simp, hc.1.symm, hc.2.symm⟩
  ·obtain ⟨h1, h2, h3⟩ := at_some h
   refine ⟨by omega, ?_, h3⟩
   rw [show p.1 - i = (p.1 - (i + 1)) + 1 by omega, List.getElem?_cons_succ]
   exact h2
theorem at_none {b n : Int} : ∀ {L : List Nv} {i : Nat}, at? b n i L = none → ∀ x ∈ L, ¬ (x.N.b = b ∧ x.N.n = n)
 | [], _, _, x, hx => by cases hx
 | y :: l, i, h, x, hx => by
  unfold at? at h
  split at h
  ·cases h
  ·rename_i hc
   rcases List.mem_cons.1 hx with rfl | hx
   ·rintro ⟨rfl, rfl⟩
    exact hc (by simp)
   ·exact at_none h x hx

theorem mkEs_get : ∀ (L : List Nv) (i k : Nat), (mkEs i L)[k]? = (L[k]?).map fun x => mkE x (i + k)
 | [], _, _ => by simp [mkEs]
 | x :: l, i, 0 => by simp [mkEs]
 | x :: l, i, k + 1 => by
  simp only [mkEs, List.getElem?_cons_succ]
  rw [mkEs_get l (i + 1) k, show i + 1 + k = i + (k + 1) by omega]
theorem mkEs_len : ∀ (L : List Nv) (i : Nat), (mkEs i L).length = L.length
 | [], _ => rfl
 | x :: l, i => by simp [mkEs, mkEs_len l (i + 1)]
theorem mkEs_snoc : ∀ (L : List Nv) (i : Nat) (x : Nv), mkEs i (L ++ [x]) = mkEs i L ++ [mkE x (i + L.length)]
 | [], _, _ => rfl
 | y :: l, i, x => by
  simp only [List.cons_append, mkEs, mkEs_snoc l (i + 1) x, List.length_cons]
  rw [show i + 1 + l.length = i + (l.length + 1) by omega]

theorem set_map {W : World} {M : Nat} {L : List Nv} (h : MapN W M L) (x : Nv) :
  ∃ W', (Instr.mapUpdate 123 (.map (some M)) (rfv x.N.b x.N.n) (.agg x.arr)).run Tryz.prog W = .ok () W' ∧ MapN W' M (upd L x) ∧ Chg W W' (· = M) ∧ W'.drawn = W.drawn := by
 have hlt := h.lt
 obtain ⟨es, hb, he⟩ := h
 have main : ∀ o : Obj, (setObj M o).run Tryz.prog W = .ok () { W with heap := W.heap.setIfInBounds M o } := fun o => by simp only [setObj, Sem.run, hb]
 have hch : ∀ o : Obj, Chg W { W with heap := W.heap.setIfInBounds M o } (· = M) := fun o =>
  ⟨rfl, rfl, rfl, by simp, fun k _ hn => by rw [Array.getElem?_setIfInBounds_ne (fun e => hn e.symm)]⟩
 have hget : ∀ o : Obj, ({ W with heap := W.heap.setIfInBounds M o } : World).heap[M]? = some o := fun o => by
  simp only [Array.getElem?_setIfInBounds_self_of_lt hlt]
 unfold Instr.mapUpdate
 rw [run_bind_ok (run_underlying Tryz.underlying123 W)]
 simp only
 rw [run_bind_ok (a := .map es L.length) (w1 := W) (by simp only [getObj, Sem.run, hb])]
 simp only
 rw [run_bind_ok (chkRef _ _ _ W), he, run_bind_ok (find_mkEs _ _ W L)]
 unfold upd
 cases hh : at? x.N.b x.N.n 0 L with
 | none =>
  refine ⟨_, main _, ⟨es.push { key := rfv x.N.b x.N.n, val := .agg x.arr, born := L.length }, ?_, ?_⟩, hch _, rfl⟩
  ·rw [List.length_append]
   exact hget _
  ·rw [Array.toList_push, he, mkEs_snoc, Nat.zero_add]
   rfl
 | some p =>
  obtain ⟨-, h2, h3, h4⟩ := at_some hh
  rw [Nat.sub_zero] at h2
  have hk : es[p.1]? = some (mkE p.2 p.1) := by
   have := mkEs_get L 0 p.1
   rw [← he, h2, Nat.zero_add, Array.getElem?_toList] at this
   exact this
  have e1 : ((es[p.1]?).map (·.key)).getD (rfv x.N.b x.N.n) = rfv x.N.b x.N.n := by
   rw [hk, ← h3, ← h4]; rfl
  have e2 : (Instr.keyThatStays (rfv x.N.b x.N.n) (rfv x.N.b x.N.n)).run Tryz.prog W = .ok (rfv x.N.b x.N.n) W := by
   unfold Instr.keyThatStays
   have : Instr.sameBits 10000 (rfv x.N.b x.N.n) (rfv x.N.b x.N.n) = true := by
    simp [Instr.sameBits]
   rw [if_pos this]
   rfl
  simp only [Option.map_some]
  rw [e1, run_bind_ok e2]
  refine ⟨_, main _, ⟨es.modify p.1 fun e => { e with key := rfv x.N.b x.N.n, val := .agg x.arr }, ?_, ?_⟩, hch _, rfl⟩
  ·rw [List.length_set]
   exact hget _
  ·rw [Array.toList_modify, he]
   apply List.ext_getElem?
   intro k
   rw [List.getElem?_modify, mkEs_get, mkEs_get, List.getElem?_set]
   by_cases hpk : p.1 = k
   ·subst hpk
    have hlt2 := (List.getElem?_eq_some_iff.1 h2).1
    rw [if_pos rfl, if_pos hlt2, h2]
    simp [mkE]
   ·rw [if_neg hpk]
    simp [hpk]

end Go.Proofs.YtcgmmfcphfkdhaaGreat

/- Rows of notes that are one's own; the iterator over a map of notes. -/
namespace Go.Proofs.YtcgmmfcphfkdhaaGreat
open Go Go.RowKit Go.Proofs Go.Torn Go.Abs

theorem info40 : (Tryz.prog.info? 40).map (fun i => (i.zero, i.size, i.bytes)) = some (some zN, 29, 328) := by kernel_rfl

def flN (G : List Nv) : List Value := G.flatMap fun x => x.arr.toList
def RowNv (W : World) (base : Nat) (v : Value) (G : List Nv) : Prop := W.ownsRow base 40 29 v G.length (flN G)

theorem RowNv.nil (W : World) (base : Nat) : RowNv W base (.slice none 0 0) [] := World.ownsRow_nil _ _ _ _

theorem rown_push {W : World} {base g : Nat} {v : Value} {G : List Nv} {x : Nv} (ty : TypeId) (h : RowNv W base v G) (hc : ∀ j u, x.arr.toList[j]? = some u → W.cell? ⟨g, j, none⟩ = some u) (h1 : x.arr.all (·.oneCell') = true) (hl : G.length + 1 ≤ 1000000) (hb : base ≤ W.heap.size) :
  ∃ v' W', (Builtin.append_ #[22, 22] ty #[v, .slice (some ⟨g, 0, none⟩) 1 1]).run Tryz.prog W = .ok v' W' ∧ RowNv W' base v' (G ++ [x]) ∧ W.grownBy W' v.ownBlock ∧ (v'.ownBlock = v.ownBlock ∨ v'.ownBlock = some W.heap.size) := by
 obtain ⟨i0, hi, hz0, hz1, hz2⟩ := info_parts info40
 obtain ⟨v', W', r1, r2, r3, -, r5⟩ := run_append_own_at (P := Tryz.prog) W base 22 ty 40 i0 zN 29 328 Tryz.underlying22 hi hz0 hz1 hz2 (by kernel_rfl) (by decide) v G.length (flN G) h ⟨g, 0, none⟩ 1 1 x.arr.toList (by rw [Array.length_toList, arr_size])
  (fun j u hu => by
   have hadd : (⟨g, 0, none⟩ : Addr).add j = ⟨g, j, none⟩ := by unfold Addr.add; split <;> simp_all
   rw [hadd]
   exact hc j u hu)
  (fun u hu => by
   rw [Array.all_eq_true] at h1
   obtain ⟨i, hi, rfl⟩ := List.getElem_of_mem hu
   simpa using h1 i (by simpa using hi)) (by unfold maxLen; omega) (by omega) hb
 refine ⟨v', W', r1, ?_, r3, r5⟩
 unfold RowNv
 rw [List.length_append, List.length_singleton, show flN (G ++ [x]) = flN G ++ x.arr.toList by simp [flN]]
 exact r2

theorem RowNv.shape {W : World} {base : Nat} {v : Value} {G : List Nv} (h : RowNv W base v G) : ∃ a c, v = .slice a G.length c ∧ G.length ≤ c := by
 obtain ⟨a, c, e, h1, -⟩ := own_slice h
 exact ⟨a, c, e, h1⟩
theorem RowNv.keep {W W' : World} {base : Nat} {v : Value} {G : List Nv} (h : RowNv W base v G) (hb : Below W.heap.size W W') : RowNv W' base v G :=
 (Chg.of_below (fun _ => False) hb).own h (fun _ _ e => e)
theorem RowNv.lt {W : World} {base : Nat} {v : Value} {G : List Nv} (h : RowNv W base v G) : ∀ k, v.ownBlock = some k → base ≤ k ∧ k < W.heap.size := by
 rcases h.2 with ⟨rfl, -⟩ | ⟨g, cap, cur, rfl, hb, hg, -⟩
 ·intro k e; cases e
 ·intro k e
  have : g = k := by simpa [Value.ownBlock] using e
  subst this
  exact ⟨hb, (Array.getElem?_eq_some_iff.1 hg).1⟩

def ItN (W : World) (R M n : Nat) (seen : Array Nat) : Prop := W.heap[R]? = some (.mapIter (some M) n seen n)

theorem mem_mkEs {L : List Nv} {e : MapEntry} (h : e ∈ mkEs 0 L) : ∃ i x, L[i]? = some x ∧ e = mkE x i := by
 obtain ⟨i, hi, rfl⟩ := List.getElem_of_mem h
 have := mkEs_get L 0 i
 rw [List.getElem?_eq_getElem hi] at this
 cases hl : L[i]? with
 | none => rw [hl] at this; cases this
 | some x =>
  rw [hl] at this
  simp only [Option.map_some, Option.some.injEq, Nat.zero_add] at this
  exact ⟨i, x, hl, this⟩
theorem born_mkEs : ∀ (L : List Nv) (i : Nat), (mkEs i L).map (·.born) = List.range' i L.length
 | [], _ => rfl
 | x :: l, i => by
  simp only [mkEs, List.map_cons, born_mkEs l (i + 1), List.length_cons, List.range'_succ]
  rfl

theorem next_map {W : World} {R M : Nat} {L : List Nv} {seen : Array Nat} (ty : TypeId) (h : MapN W M L) (hi : ItN W R M L.length seen) (hne : R ≠ M) :
  ((∀ i, i < L.length → i ∈ seen.toList) ∧ (Instr.next (.pointer (some ⟨R, 0, none⟩)) false ty).run Tryz.prog W = .ok (.tuple #[.bool false]) W) ∨
  ∃ i x, L[i]? = some x ∧ i ∉ seen.toList ∧ ∃ W', (Instr.next (.pointer (some ⟨R, 0, none⟩)) false ty).run Tryz.prog W = .ok (.tuple #[.bool true, rfv x.N.b x.N.n, .agg x.arr]) W' ∧
   ItN W' R M L.length (seen.push i) ∧ MapN W' M L ∧ Chg W W' (· = R) ∧ (Instr.entry (.pointer (some ⟨R, 0, none⟩))).run Tryz.prog W' = .ok (.tuple #[rfv x.N.b x.N.n, .agg x.arr]) W' := by
 have hlt := (Array.getElem?_eq_some_iff.1 hi).1
 obtain ⟨es, hb, he⟩ := h
 have hold : ∀ x ∈ es.toList, x.born < L.length := fun e hx => by
  rw [he] at hx
  obtain ⟨i, x, hl, rfl⟩ := mem_mkEs hx
  exact (List.getElem?_eq_some_iff.1 hl).1
 rcases run_next_at (P := Tryz.prog) W ty R M L.length L.length seen es L.length hi hb hold (Nat.le_refl _) with ⟨h0, run⟩ | ⟨e, hem, w1, hw1, run⟩
 ·left
  refine ⟨fun i hil => ?_, run⟩
  have h1 : leftOf es seen = #[] := Array.eq_empty_of_size_eq_zero h0
  unfold leftOf at h1
  rw [Array.filter_eq_empty_iff] at h1
  have h2 := mkEs_get L 0 i
  rw [← he, List.getElem?_eq_getElem hil, Nat.zero_add] at h2
  have h3 := h1 _ (by
   have := List.mem_of_getElem? h2
   simpa using this)
  simpa [mkE] using h3
 ·right
  unfold leftOf at hem
  simp only [Array.toList_filter, List.mem_filter] at hem
  obtain ⟨hem, hns⟩ := hem
  have hem0 := hem
  rw [he] at hem
  obtain ⟨i, x, hl, rfl⟩ := mem_mkEs hem
  have hit : ItN (ChangeMaps.setBlock w1 R (.mapIter (some M) L.length (seen.push i) L.length)) R M L.length (seen.push i) := by
   unfold ItN ChangeMaps.setBlock
   have : R < w1.heap.size := by rcases hw1 with rfl | rfl <;> exact hlt
   simp [this]
  have hmm : (ChangeMaps.setBlock w1 R (.mapIter (some M) L.length (seen.push i) L.length)).heap[M]? = some (.map es L.length) := by
   unfold ChangeMaps.setBlock
   simp only
   rw [Array.getElem?_setIfInBounds_ne hne]
   rcases hw1 with rfl | rfl <;> exact hb
  refine ⟨i, x, hl, by simpa [mkE] using hns, _, run, hit, ⟨es, hmm, he⟩, ?_, ?_⟩
  ·have hh : ∀ k, k ≠ R → (ChangeMaps.setBlock w1 R (.mapIter (some M) L.length (seen.push i) L.length)).heap[k]? = W.heap[k]? := fun k hk => by
    unfold ChangeMaps.setBlock
    simp only
    rw [Array.getElem?_setIfInBounds_ne (fun e => hk e.symm)]
    rcases hw1 with rfl | rfl <;> rfl
   refine ⟨?_, ?_, ?_, ?_, fun k _ hn => hh k hn⟩
   ·rcases hw1 with rfl | rfl <;> rfl
   ·rcases hw1 with rfl | rfl <;> rfl
   ·rcases hw1 with rfl | rfl <;> rfl
   ·have : w1.heap.size = W.heap.size := by rcases hw1 with rfl | rfl <;> rfl
    unfold ChangeMaps.setBlock
    simp only [Array.size_setIfInBounds]
    omega
  ·exact run_entry_at (P := Tryz.prog) _ R M L.length seen es L.length (mkE x i) hit hmm hem0 (by
    rw [he, born_mkEs]
    exact List.nodup_range')

end Go.Proofs.YtcgmmfcphfkdhaaGreat

/- Walks: notes of different names are sorted by their names. -/
namespace Go.Proofs.YtcgmmfcphfkdhaaGreat
open Go Go.RowKit Go.Proofs Go.Sort Go.Lib Go.Shelf Go.Abs

def cfN (a b : Int × Int) : Int := cmR a.1 a.2 b.1 b.2

theorem ltN_iff (a b : Int × Int) : Go.Proofs.ltOf cfN a b = true ↔ a.1 < b.1 ∨ a.1 = b.1 ∧ a.2 < b.2 := by
 unfold Go.Proofs.ltOf cfN cmR or2 Lib.compareInt
 rw [decide_eq_true_eq]
 repeat' split
 all_goals omega
theorem ltN_not (a b : Int × Int) : Go.Proofs.ltOf cfN a b = false ↔ ¬ (a.1 < b.1 ∨ a.1 = b.1 ∧ a.2 < b.2) := by
 rw [← ltN_iff, Bool.not_eq_true]
theorem swoN : Go.Sort.SWO (Go.Proofs.ltOf cfN) where
 irrefl := fun a => by rw [ltN_not]; omega
 trans := fun a b c h1 h2 => by rw [ltN_iff] at *; omega
 ntrans := fun a b c h1 h2 => by rw [ltN_not] at *; omega
theorem partN (a b : Int × Int) (h1 : Go.Proofs.ltOf cfN a b = false) (h2 : Go.Proofs.ltOf cfN b a = false) : a = b := by
 rw [ltN_not] at h1 h2
 have e1 : a.1 = b.1 := by omega
 have e2 : a.2 = b.2 := by omega
 exact Prod.ext e1 e2

def named (r : Int × Int) : Nv := { z0 with N := { z0.N with b := r.1, n := r.2 } }
def look (G : List Nv) (r : Int × Int) : Nv := ((at? r.1 r.2 0 G).map (·.2)).getD (named r)
def nm (x : Nv) : Int × Int := (x.N.b, x.N.n)
theorem look_nm (G : List Nv) (r : Int × Int) : (look G r).N.b = r.1 ∧ (look G r).N.n = r.2 := by
 unfold look
 cases h : at? r.1 r.2 0 G with
 | none => exact ⟨rfl, rfl⟩
 | some p => exact (at_some h).2.2
theorem look_mem (G : List Nv) (r : Int × Int) : look G r ∈ G ∨ look G r = named r := by
 unfold look
 cases h : at? r.1 r.2 0 G with
 | none => exact .inr rfl
 | some p => exact .inl (List.mem_of_getElem? (at_some h).2.1)
theorem look_is {G : List Nv} (hd : (G.map nm).Nodup) {x : Nv} (hx : x ∈ G) : look G (nm x) = x := by
 unfold look
 cases h : at? (nm x).1 (nm x).2 0 G with
 | none => exact absurd ⟨rfl, rfl⟩ (at_none h x hx)
 | some p =>
  obtain ⟨-, h2, h3, h4⟩ := at_some h
  have hm := List.mem_of_getElem? h2
  obtain ⟨i, hi, rfl⟩ := List.getElem_of_mem hx
  have hp := (List.getElem?_eq_some_iff.1 h2).1
  have e : nm p.2 = nm G[i] := Prod.ext h3 h4
  have h5 : G[p.1 - 0] = p.2 := by rw [List.getElem?_eq_getElem hp] at h2; simpa using h2
  have : (p.1 - 0) = i := by
   have := (List.getElem_inj (xs := G.map nm) (i := p.1 - 0) (j := i) (h₀ := by simpa using hp) (h₁ := by simpa using hi) hd).1 (by simp only [List.getElem_map]; rw [h5, e])
   exact this
  subst this
  exact h5.symm

theorem named_one (r : Int × Int) : (named r).arr.all (·.oneCell') = true := by
 rw [Array.all_eq_true]
 intro i hi
 match i, hi with
 | 0, _ | 1, _ | 2, _ | 3, _ | 4, _ | 5, _ | 6, _ | 7, _ | 8, _ | 9, _ | 10, _ | 11, _ | 12, _ | 13, _ | 14, _ | 15, _ | 16, _ | 17, _ | 18, _ | 19, _ | 20, _ | 21, _ | 22, _ | 23, _ | 24, _ | 25, _ | 26, _ | 27, _ | 28, _ => rfl
 | i + 29, hi => exact absurd hi (by show ¬ i + 29 < 29; omega)

def srt (D : List (Int × Int)) : List (Int × Int) := D.mergeSort fun x y => !Go.Proofs.ltOf cfN y x
theorem srt_perm (D : List (Int × Int)) : (srt D).Perm D := List.mergeSort_perm _ _
theorem srt_le (D : List (Int × Int)) : (srt D).Pairwise fun x y => ¬ (y.1 < x.1 ∨ y.1 = x.1 ∧ y.2 < x.2) := by
 have h := List.pairwise_mergeSort (le := fun x y => !Go.Proofs.ltOf cfN y x) (fun a b c h1 h2 => by
  simp only [Bool.not_eq_true', ltN_not] at *
  omega) (fun a b => by
  simp only [Bool.or_eq_true, Bool.not_eq_true', ltN_not]
  omega) D
 refine h.imp fun {a b} h => ?_
 simpa [ltN_not] using h

def RowC (W : World) (g : Nat) (G : List Nv) : Prop := g < W.heap.size ∧ ∀ k x, G[k]? = some x → ∀ j u, x.arr[j]? = some u → W.cell? ⟨g, k * 29 + j, none⟩ = some u ∧ W.frozen? ⟨g, k * 29 + j, none⟩ = false

def enN (G : List Nv) (r : Int × Int) : List Value := (look G r).arr.toList

theorem rowC_holds {W : World} {g : Nat} {G H : List Nv} {D : List (Int × Int)} (hD : D.map (look H) = G) (h : RowC W g G) : HoldsK (enN H) 29 W g 0 D.toArray := by
 intro j hj
 have hj' : j < D.length * 29 := by simpa using hj
 have hd : j / 29 < D.length := by omega
 rw [get_flatK _ _ _ _ (by simpa using hj'), Nat.zero_add]
 have e : D.toArray[j / 29]! = D[j / 29] := by simp [hd]
 have hk : G[j / 29]? = some (look H D[j / 29]) := by rw [← hD, List.getElem?_map, List.getElem?_eq_getElem hd]; rfl
 have hm : j % 29 < (look H D[j / 29]).arr.size := by rw [arr_size]; omega
 have := h.2 (j / 29) _ hk (j % 29) _ (Array.getElem?_eq_getElem hm)
 rw [show j / 29 * 29 + j % 29 = j by omega] at this
 rw [e]
 have e2 : (enN H D[j / 29])[j % 29]! = (look H D[j / 29]).arr[j % 29] := by
  unfold enN
  rw [List.getElem!_eq_getElem?_getD, Array.getElem?_toList, Array.getElem?_eq_getElem hm]
  rfl
 rw [e2]
 exact this

theorem holds_rowC {W : World} {g : Nat} {H : List Nv} {D : List (Int × Int)} (hg : g < W.heap.size) (h : HoldsK (enN H) 29 W g 0 D.toArray) : RowC W g (D.map (look H)) := by
 refine ⟨hg, fun k x hk j u hu => ?_⟩
 rw [List.getElem?_map] at hk
 cases hd : D[k]? with
 | none => rw [hd] at hk; cases hk
 | some r =>
  rw [hd] at hk
  simp only [Option.map_some, Option.some.injEq] at hk
  subst hk
  have hkl := (List.getElem?_eq_some_iff.1 hd).1
  have hj := (Array.getElem?_eq_some_iff.1 hu).1
  rw [arr_size] at hj
  have := h (k * 29 + j) (by simp; omega)
  rw [get_flatK _ _ _ _ (by simp; omega), Nat.zero_add, show (k * 29 + j) / 29 = k by omega, show (k * 29 + j) % 29 = j by omega] at this
  have e : D.toArray[k]! = r := by
   rw [List.getElem?_eq_getElem hkl] at hd
   simp only [Option.some.injEq] at hd
   simp [hkl, hd]
  rw [e] at this
  have e2 : (enN H r)[j]! = u := by
   unfold enN
   rw [List.getElem!_eq_getElem?_getD, Array.getElem?_toList, hu]
   rfl
  rw [e2] at this
  exact this

theorem heap_srt (w : World) (H : List Nv) (g m : Nat) (d : Array (Int × Int)) (os : Array Obj) {k : Nat} (hk : k < w.heap.size) (hn : k ≠ g) : (sortWorldK (enN H) 29 w g 0 m d os).heap[k]? = w.heap[k]? := by
 unfold sortWorldK putRowK
 rw [heap_grow_old _ _ (by simpa using hk)]
 unfold putRow mapBlock
 simp only [heap_ahead, Array.getElem?_modify]
 rw [if_neg (fun e => hn e.symm)]

set_option maxHeartbeats 1000000 in
theorem sortN123 (G : List Nv) (g cap : Nat) (w : World) (h : RowC w g G) (hd : (G.map nm).Nodup) (h1 : ∀ x ∈ G, x.arr.all (·.oneCell') = true) (hl : G.length ≤ 1000000) :
  Calls Tryz.prog 123 #[.slice (some ⟨g, 0, none⟩) G.length cap, .func (.func 124) #[] #[]] w fun e w' => e = .returned (.tuple #[]) ∧ RowC w' g ((srt (G.map nm)).map (look G)) ∧ Chg w w' (· = g) := by
 have eg : ∀ args w, (callFunc 124 args).run Tryz.prog w = .ok (.enter 124 args) w := enters_of Tryz.func124 (by kernel_rfl) rfl
 have hcmp : CmpLays Tryz.prog 124 #[] (enN G) 29 cfN g 0 (G.map nm).toArray.size w := fun m os dk hs x y => by
  have := byRef124 (look G x) (look G y) (sortWorldK (enN G) 29 w g 0 m dk os)
  rw [(look_nm G x).1, (look_nm G x).2, (look_nm G y).1, (look_nm G y).2] at this
  have key : Calls Tryz.prog 124 #[.agg (enN G x).toArray, .agg (enN G y).toArray] (sortWorldK (enN G) 29 w g 0 m dk os) fun e w' => e = .returned (.int .i64 (cfN x y)) ∧ ∃ q os', w' = grow ((sortWorldK (enN G) 29 w g 0 m dk os).drewN q) os' := by
   have e1 : ∀ z, (enN G z).toArray = (look G z).arr := fun z => Array.toArray_toList
   rw [e1, e1]
   refine this.mono ?_
   rintro e w' ⟨rfl, hg⟩
   exact ⟨rfl, hg.grow⟩
  exact key
 have hself : (G.map nm).map (look G) = G := by
  rw [List.map_map]
  conv => rhs; rw [← List.map_id G]
  exact List.map_congr_left fun x hx => look_is hd hx
 have hS := AnyQ.slices_SortFunc_total Tryz.sortN 29 (fun _ => by kernel_rfl) (fun _ => by kernel_rfl) (enN G) (fun _ => rfl) (fun x v hv => by
  unfold enN at hv
  have h29 : (look G x).arr.all (·.oneCell') = true := by
   rcases look_mem G x with hm | hm
   ·exact h1 _ hm
   ·rw [hm]; exact named_one x
  rw [Array.all_eq_true] at h29
  obtain ⟨i, hi, rfl⟩ := List.getElem_of_mem hv
  simpa using h29 i (by simpa using hi)) cfN swoN 124 #[] g 0 cap (G.map nm).toArray w eg hcmp (rowC_holds hself h) h.1 (by simp; omega) partN
 change Calls Tryz.prog 123 _ _ _ at hS
 rw [List.size_toArray, List.length_map] at hS
 refine hS.mono ?_
 rintro e w' ⟨rfl, n, os, rfl⟩
 have hlt : g < (sortWorldK (enN G) 29 w g 0 n (srt (G.map nm)).toArray os).heap.size := by unfold sortWorldK putRowK; simp; have := h.1; omega
 refine ⟨rfl, holds_rowC hlt ?_, ⟨rfl, rfl, rfl, by unfold sortWorldK putRowK; simp, fun k hk hn => heap_srt w G g n _ os hk hn⟩⟩
 unfold sortWorldK
 exact holdsK_grow (enN G) 29 _ _ _ _ _ (by unfold putRowK; simpa using h.1) (holdsK_putRowK (enN G) 29 _ _ _ (G.map nm).toArray _ (holdsK_ahead (enN G) 29 _ _ _ _ _ (rowC_holds hself h)) (by simp))

end Go.Proofs.YtcgmmfcphfkdhaaGreat

/- Walks: the notes of a map, by their names. -/
namespace Go.Proofs.YtcgmmfcphfkdhaaGreat
open Go Go.RowKit Go.Proofs Go.Torn Go.Abs

theorem iterSeen_it {W : World} {R M n : Nat} {seen : Array Nat} (h : ItN W R M n seen) : W.iterSeen R = seen := by
 unfold World.iterSeen
 rw [show W.heap[R]? = _ from h]

theorem fold_list : ∀ (l : List Value) (k : Nat) (A : Array Value), k + l.length ≤ A.size → ∀ j, ((l.zipIdx k).foldl (fun cs x => cs.setIfInBounds x.snd x.fst) A)[j]? = if k ≤ j ∧ j < k + l.length then l[j - k]? else A[j]?
 | [], k, A, _, j => by
  rw [if_neg (by simp)]
  rfl
 | v :: l, k, A, h, j => by
  simp only [List.length_cons] at h
  rw [List.zipIdx_cons, List.foldl_cons, fold_list l (k + 1) _ (by simp; omega) j]
  simp only [List.length_cons]
  by_cases h1 : k + 1 ≤ j ∧ j < k + 1 + l.length
  ·rw [if_pos h1, if_pos (by omega), show j - k = (j - (k + 1)) + 1 by omega, List.getElem?_cons_succ]
  ·rw [if_neg h1]
   by_cases h2 : j = k
   ·subst h2
    rw [if_pos (by omega), Nat.sub_self, List.getElem?_cons_zero, Array.getElem?_setIfInBounds_self_of_lt (by omega)]
   ·rw [if_neg (by omega), Array.getElem?_setIfInBounds_ne (fun e => h2 e.symm)]
theorem fold_all (A V : Array Value) (m : Nat) (hA : A.size = m) (hV : V.size = m) : Array.foldl (fun cs x => cs.setIfInBounds x.snd x.fst) A V.zipIdx 0 m = V := by
 have h0 : V.zipIdx.size = m := by simpa using hV
 rw [← h0, ← Array.foldl_toList, Array.toList_zipIdx]
 apply Array.ext_getElem?
 intro j
 rw [fold_list _ 0 A (by simp; omega) j]
 simp only [Array.length_toList, Nat.zero_add, Nat.zero_le, true_and, Nat.sub_zero, Array.getElem?_toList]
 by_cases hj : j < V.size
 ·rw [if_pos hj]
 ·rw [if_neg hj, Array.getElem?_eq_none (by omega), Array.getElem?_eq_none (by omega)]

def byIx (L : List Nv) (seen : Array Nat) : List Nv := seen.toList.map fun i => L.getD i z0

theorem byIx_perm {L : List Nv} {seen : Array Nat} (hn : seen.toList.Nodup) (hi : ∀ i ∈ seen.toList, i < L.length) (ha : ∀ i, i < L.length → i ∈ seen.toList) : (byIx L seen).Perm L := by
 have h1 : seen.toList.Perm (List.range L.length) := (List.perm_ext_iff_of_nodup hn List.nodup_range).2 fun i => by
  rw [List.mem_range]
  exact ⟨hi i, ha i⟩
 have h2 := h1.map fun i => L.getD i z0
 have h3 : (List.range L.length).map (fun i => L.getD i z0) = L := by
  apply List.ext_getElem?
  intro k
  by_cases hk : k < L.length
  ·simp [hk, List.getD]
  ·rw [List.getElem?_eq_none (by simpa using hk), List.getElem?_eq_none (by simpa using hk)]
 rw [h3] at h2
 exact h2

theorem flN_get : ∀ (G : List Nv) (k j : Nat) (x : Nv), G[k]? = some x → j < 29 → (flN G)[k * 29 + j]? = x.arr[j]?
 | [], k, _, _, h, _ => by simp at h
 | y :: G, 0, j, x, h, hj => by
  simp only [List.getElem?_cons_zero, Option.some.injEq] at h
  subst h
  show (y.arr.toList ++ flN G)[0 * 29 + j]? = _
  rw [Nat.zero_mul, Nat.zero_add, List.getElem?_append_left (by rw [Array.length_toList, arr_size]; exact hj), Array.getElem?_toList]
 | y :: G, k + 1, j, x, h, hj => by
  rw [List.getElem?_cons_succ] at h
  show (y.arr.toList ++ flN G)[(k + 1) * 29 + j]? = _
  rw [List.getElem?_append_right (by rw [Array.length_toList, arr_size]; omega), Array.length_toList, arr_size, show (k + 1) * 29 + j - 29 = k * 29 + j by omega]
  exact flN_get G k j x h hj

theorem rowC_of {W : World} {base : Nat} {v : Value} {G : List Nv} (h : RowNv W base v G) (hG : 0 < G.length) : ∃ g cap, v = .slice (some ⟨g, 0, none⟩) G.length cap ∧ base ≤ g ∧ RowC W g G := by
 rcases h.2 with ⟨-, h2⟩ | ⟨g, cap, cur, rfl, e2, e3, e4, e5, e6, e7⟩
 ·omega
 ·refine ⟨g, cap, rfl, e2, (Array.getElem?_eq_some_iff.1 e3).1, fun k x hk j u hu => ⟨?_, World.ownsRow.frozenAt h _⟩⟩
  have hj := (Array.getElem?_eq_some_iff.1 hu).1
  rw [arr_size] at hj
  have hkl := (List.getElem?_eq_some_iff.1 hk).1
  rw [World.ownsRow.cellAt h (k * 29 + j) (by omega), flN_get G k j x hk hj, hu]

def Ord (K : List Nt) : Prop := K.Pairwise fun x y => x.b < y.b ∨ x.b = y.b ∧ x.n < y.n

theorem ord_srt {G : List Nv} (hd : (G.map nm).Nodup) : Ord (((srt (G.map nm)).map (look G)).map Nv.N) := by
 unfold Ord
 rw [List.pairwise_map, List.pairwise_map]
 have h1 := srt_le (G.map nm)
 have h2 : (srt (G.map nm)).Nodup := (srt_perm _).nodup_iff.2 hd
 refine (h1.and h2).imp fun {a b} h => ?_
 rw [(look_nm G a).1, (look_nm G a).2, (look_nm G b).1, (look_nm G b).2]
 have h3 : ¬ (a.1 = b.1 ∧ a.2 = b.2) := fun e => h.2 (Prod.ext e.1 e.2)
 have h4 := h.1
 omega
theorem srt_look {G : List Nv} (hd : (G.map nm).Nodup) : ((srt (G.map nm)).map (look G)).Perm G := by
 have h := (srt_perm (G.map nm)).map (look G)
 have e : (G.map nm).map (look G) = G := by
  rw [List.map_map]
  conv => rhs; rw [← List.map_id G]
  exact List.map_congr_left fun x hx => look_is hd hx
 rwa [e] at h

theorem rowC_slN {W : World} {g : Nat} {G : List Nv} (cap : Nat) (h : RowC W g G) (hN : ∀ x ∈ G, NV W x) (hl : G.length ≤ 1000000) : SlN W (.slice (some ⟨g, 0, none⟩) G.length cap) (G.map Nv.N) := by
 refine ⟨_, cap, by rw [List.length_map], by rw [List.length_map]; omega, fun k hk => ⟨g, 0, rfl, ?_⟩⟩
 rw [List.length_map] at hk
 have hx : G[k]? = some G[k] := List.getElem?_eq_getElem hk
 refine ⟨G[k], ?_, hN _ (List.getElem_mem hk), fun j u hu => ?_⟩
 ·unfold nz
  simp [List.getD, hk]
 ·rw [Nat.zero_add]
  exact (h.2 k _ hx j u hu).1

structure BrR (w : World) (M : Nat) (L : List Nv) (v : Value) (seen : Array Nat) (wr : World) : Prop where
 it : ItN wr w.heap.size M L.length seen
 m : MapN wr M L
 r : RowNv wr (w.heap.size + 1) v (byIx L seen)
 b : Below w.heap.size w wr
 n : seen.toList.Nodup
 i : ∀ i ∈ seen.toList, i < L.length
 s : w.heap.size + 1 ≤ wr.heap.size

theorem BrR.le {w wr : World} {M : Nat} {L : List Nv} {v : Value} {seen : Array Nat} (h : BrR w M L v seen wr) : seen.size ≤ L.length := by
 have h1 : seen.toList.Perm ((List.range L.length).filter fun i => decide (i ∈ seen.toList)) :=
  (List.perm_ext_iff_of_nodup h.n (List.nodup_range.sublist List.filter_sublist)).2 fun i => by
   simp only [List.mem_filter, List.mem_range, decide_eq_true_eq]
   exact ⟨fun k => ⟨h.i i k, k⟩, fun k => k.2⟩
 have h2 := h1.length_eq
 have h3 := List.length_filter_le (fun i => decide (i ∈ seen.toList)) (List.range L.length)
 rw [List.length_range] at h3
 rw [Array.length_toList] at h2
 omega

set_option maxRecDepth 100000 in
set_option maxHeartbeats 4000000 in
theorem byRef66 (M : Nat) (L : List Nv) (w : World) (h : MapN w M L) (hN : ∀ x ∈ L, NV w x) (hd : (L.map nm).Nodup) (hl : L.length ≤ 100000) :
  Calls Tryz.prog 66 #[.map (some M)] w fun e w' => ∃ v K, e = .returned v ∧ SlN w' v K ∧ K.Perm (L.map Nv.N) ∧ Ord K ∧ Below w.heap.size w w' := by
 obtain ⟨m, hm, ⟨hm0, hm1, hm2⟩, hs40⟩ := m40.out
 obtain ⟨Z, hz, hZ1, hZ2⟩ := z40.out
 have hlt := h.lt
 have R0 : (Instr.range 123 (.map (some M))).run Tryz.prog w = .ok (.pointer (some ⟨w.heap.size, 0, none⟩)) (w.alloc (.mapIter (some M) L.length #[] L.length)) := by
  obtain ⟨es, hb, -⟩ := h
  exact run_range_map w 123 31 40 M es L.length Tryz.underlying123 hb
 have HB0 : Hid (BrR w M L (.slice none 0 0) #[] (w.alloc (.mapIter (some M) L.length #[] L.length))) := Lib.hid
  ⟨Go.heap_alloc_new _ _, h.keep ((Below.refl _ _).alloc (Nat.le_refl _) _), RowNv.nil _ _, (Below.refl _ _).alloc (Nat.le_refl _) _, List.nodup_nil, fun i hi => (by simp at hi), by rw [World.size_alloc]; omega⟩
 have H1 : Hid (∀ x ∈ L, x.arr.all (·.oneCell') = true) := Lib.hid fun x hx => (hN x hx).one
 have HNN := Lib.hid hN
 have HD := Lib.hid hd
 clear h hN hd
 go_enter Tryz.func66, Tryz.ntmps66
 go_wp2_with fail
 go_loopw [3] (fun v wr => ∃ seen, Hid (BrR w M L v seen wr)) (fun _ wr => L.length - (wr.iterSeen w.heap.size).size)
 case atStart => exact ⟨#[], HB0.out⟩
 case round =>
  obtain ⟨seen, hrel⟩ := hrel
  have hr := hrel.out
  have HR := hrel
  rcases next_map 0 hr.m hr.it (by omega) with ⟨hall, run⟩ | ⟨i, x, hix, hni, W', run, hit, hmm, hch, hen⟩
  ·have hp := byIx_perm hr.n hr.i hall
   have hdG : ((byIx L seen).map nm).Nodup := (hp.map nm).nodup_iff.2 HD.out
   have hlG : (byIx L seen).length ≤ 1000000 := by rw [hp.length_eq]; omega
   have hNG : ∀ x ∈ byIx L seen, NV wr x := fun x hx => (HNN.out x (hp.mem_iff.1 hx)).keep hr.b
   obtain ⟨G, hG⟩ : ∃ G, byIx L seen = G := ⟨_, rfl⟩
   have hrow := hr.r
   rw [hG] at hp hdG hlG hNG hrow
   have HB := Lib.hid hr.b
   have HP := Lib.hid hp
   by_cases h0 : G.length = 0
   ·obtain ⟨a0, c0, rfl, -⟩ := hrow.shape
    have hG0 : G = [] := List.eq_nil_of_length_eq_zero h0
    have hS : Calls Tryz.prog 123 #[.slice a0 0 c0, .func (.func 124) #[] #[]] wr fun e w' => e = .returned (.tuple #[]) ∧ w' = wr :=
     AnyF.slices_SortFunc_none (P := Tryz.prog) (ρ := Tryz.sortN_ren) Tryz.sortN a0 c0 (.func (.func 124) #[] #[]) wr
    rw [h0]
    have fin : Hid (SlN wr (.slice a0 0 c0) [] ∧ [].Perm (L.map Nv.N) ∧ Ord [] ∧ Below w.heap.size w wr) := Lib.hid
     ⟨⟨a0, c0, rfl, by simp, fun k hk => by simp at hk⟩, by rw [hG0] at hp; have := (hp.map Nv.N); simpa using this, List.Pairwise.nil, hr.b⟩
    clear hr HR hrow hp hdG hlG hNG hrel HB0 R0 hall
    go_wp2_with fail
    refine hS.mono ?_
    rintro e w1 ⟨rfl, rfl⟩
    go_wp2_with fail
    go_ret
    exact ⟨_, _, rfl, fin.out⟩
   ·obtain ⟨g, cap, rfl, hbg, hrc⟩ := rowC_of hrow (by omega)
    have hS := Lib.hid (sortN123 G g cap wr hrc hdG (fun x hx => (hNG x hx).one) hlG)
    have HNG := Lib.hid hNG
    have HO := Lib.hid (ord_srt hdG)
    have HSP := Lib.hid (srt_look hdG)
    have HLG := Lib.hid hlG
    clear hr HR hrow hp hdG hlG hNG hrel HB0 R0 hall hrc
    go_wp2_with fail
    refine hS.out.mono ?_
    rintro e w1 ⟨rfl, hrc, hch⟩
    have b1 : Below w.heap.size w w1 := HB.out.trans (hch.below HB.out.size (fun k hk e => by omega))
    have hle := HSP.out.length_eq
    have fin : Hid (SlN w1 (.slice (some ⟨g, 0, none⟩) G.length cap) (((srt (G.map nm)).map (look G)).map Nv.N) ∧ (((srt (G.map nm)).map (look G)).map Nv.N).Perm (L.map Nv.N) ∧ Ord (((srt (G.map nm)).map (look G)).map Nv.N) ∧ Below w.heap.size w w1) := Lib.hid
     ⟨by
      rw [← hle]
      exact rowC_slN cap hrc (fun x hx => (HNN.out x (HP.out.mem_iff.1 (HSP.out.mem_iff.1 hx))).keep b1) (by rw [hle]; exact HLG.out), (HSP.out.trans HP.out).map _, HO.out, b1⟩
    clear hrc hch b1 hle
    go_wp2_with fail
    go_ret
    exact ⟨_, _, rfl, fin.out⟩
  ·have hx1 : x.arr.all (·.oneCell') = true := H1.out x (List.mem_of_getElem? hix)
   have hil : i < L.length := (List.getElem?_eq_some_iff.1 hix).1
   have bW : Below w.heap.size w W' := hr.b.trans (hch.below hr.b.size (fun k hk e => by omega))
   have sW : w.heap.size + 1 ≤ W'.heap.size := Nat.le_trans hr.s hch.size
   have rW : RowNv W' (w.heap.size + 1) u3 (byIx L seen) := hch.own hr.r (fun k e => by have := hr.r.lt k e; omega)
   have hst : (storeCells ⟨W'.heap.size, 0, none⟩ x.arr.toList 0).run Tryz.prog (W'.alloc (.cells Z 40)) = .ok () (W'.alloc (.cells x.arr 40)) :=
    run_storeCells_new (P := Tryz.prog) W' 40 Z x.arr (by rw [arr_size]; kernel_rfl) (by rw [hZ1, arr_size]) hx1
   have n1 := NB.new W' x.arr 40
   have hld : (loadCellsFrom ⟨W'.heap.size, 0, none⟩ 0 m #[]).run Tryz.prog (W'.alloc (.cells x.arr 40)) = .ok x.arr (W'.alloc (.cells x.arr 40)) := n1.load ((arr_size x).trans hm)
   have n2 := nb1 W' (.cells x.arr 40) x.arr 40
   have b2 : Below W'.heap.size W' ((W'.alloc (.cells x.arr 40)).alloc (.cells x.arr 40)) := ((Below.refl _ _).alloc (Nat.le_refl _) _).alloc (by simp) _
   have hlen : (byIx L seen).length + 1 ≤ 1000000 := by
    have := hr.le
    unfold byIx
    rw [List.length_map, Array.length_toList]
    omega
   obtain ⟨v', W3, run2, hr3, hg3, hv3⟩ := rown_push 22 (rW.keep b2) (g := W'.heap.size + 1) (fun j u hu => n2.c (by rw [← Array.getElem?_toList]; exact hu)) hx1 hlen (by have := b2.size; omega)
   have hsz : x.arr.size = m := (arr_size x).trans hm
   have c3 : Chg W' W3 (fun k => w.heap.size + 1 ≤ k) := by
    have cg := Chg.of_grown (fun k => w.heap.size + 1 ≤ k) hg3 (fun k e => (rW.lt k e.symm).1)
    exact (Chg.of_below (fun k => w.heap.size + 1 ≤ k) b2).trans cg (fun _ _ e => e)
   have fin : Hid (BrR w M L v' (seen.push i) W3) := Lib.hid
    ⟨(c3.block _ (by omega) (by omega)).trans hit, by
     obtain ⟨es, e1, e2⟩ := hmm
     exact ⟨es, (c3.block M (by omega) (by omega)).trans e1, e2⟩, by
     have e : byIx L (seen.push i) = byIx L seen ++ [x] := by
      unfold byIx
      simp only [Array.toList_push, List.map_append, List.map_cons, List.map_nil]
      rw [List.getD_eq_getElem?_getD, hix]
      rfl
     rw [e]; exact hr3, bW.trans (c3.below bW.size (fun k hk e => by omega)), by
     rw [Array.toList_push, List.nodup_append]
     exact ⟨hr.n, by simp, fun a ha b hb e => by
      simp only [List.mem_singleton] at hb
      subst hb
      subst e
      exact hni ha⟩, fun k hk => by
     rw [Array.toList_push, List.mem_append, List.mem_singleton] at hk
     rcases hk with hk | rfl
     ·exact hr.i k hk
     ·exact hil, Nat.le_trans sW c3.size⟩
   have hle : seen.size < L.length := by
    have := fin.out.le
    rw [Array.size_push] at this
    omega
   have hs1 := iterSeen_it hr.it
   obtain ⟨a', cc, rfl, -⟩ := hr3.shape
   obtain ⟨a0, c0, rfl, -⟩ := rW.shape
   have hfo := fold_all (Array.map (fun x => Z[x % m]!) (Array.range m)) x.arr m (by simp) hsz
   have HS := Lib.hid (And.intro hs1 (iterSeen_it fin.out.it))
   have HLE := Lib.hid hle
   clear hr HR hs1 hle hr3 hg3 hv3 c3 hch rW bW sW hlen n1 n2 b2 hx1 hix hni hil hit hmm hrel HB0 R0
   generalize (byIx L (seen.push i)).length = nn at *
   generalize x.arr = V at *
   generalize rfv x.N.b x.N.n = rr at *
   go_wp2_with (at_builtin; refine Lib.wpList_append_run _ rfl _ _ _ _ rfl _ _ rfl rfl _ _ run2 ?_)
   exact ⟨⟨_, by
    have := fin
    simp only [List.length_append, List.length_singleton] at this
    exact this⟩, by rw [HS.out.1, HS.out.2, Array.size_push]; have := HLE.out; omega⟩

end Go.Proofs.YtcgmmfcphfkdhaaGreat
