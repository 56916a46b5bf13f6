/- Walks: what comes to a row of one's own; a row with one element more. -/
import Derived.Test.YtdnljbdngbphnaaGreatF3
namespace Go.Proofs.YtdnljbdngbphnaaGreat
open Go Go.RowKit Go.Proofs Go.Reads

theorem info_parts {P : Program} {t : TypeId} {z : Value} {n m : Nat} (h : (P.info? t).map (fun i => (i.zero, i.size, i.bytes)) = some (some z, n, m)) : ∃ i, P.info? t = some i ∧ i.zero = some z ∧ i.size = n ∧ i.bytes = m := by
  cases hi : P.info? t with
  | none => rw [hi] at h; cases h
  | some i =>
    rw [hi] at h
    simp only [Option.map_some, Option.some.injEq, Prod.mk.injEq] at h
    exact ⟨i, rfl, h.1, h.2.1, h.2.2⟩

theorem info64 : (Tryz.prog.info? 64).map (fun i => (i.zero, i.size, i.bytes)) = some (some (.agg #[.int .i64 0, .int .i64 0, .int .i64 0, .int .i64 0, .bool false]), 5, 40) := by kernel_rfl

def hcell (x : H5) : List Value := [.int .i64 x.n, .int .i64 x.p, .int .i64 x.c, .int .i64 x.sh, .bool x.bk]
def hc (L : List H5) : List Value := L.flatMap hcell

theorem hc_len : ∀ L : List H5, (hc L).length = L.length * 5
  | [] => rfl
  | x :: l => by
    have := hc_len l
    simp only [hc, List.flatMap_cons, List.length_append, List.length_cons] at this ⊢
    rw [this]
    simp [hcell]
    omega
theorem hc_append (L M : List H5) : hc (L ++ M) = hc L ++ hc M := by simp [hc]
theorem hc_get : ∀ (L : List H5) (i j : Nat), i < L.length → j < 5 → (hc L)[i * 5 + j]? = (hcell (hq L i))[j]?
  | [], i, j, h, _ => by simp at h
  | x :: l, 0, j, _, hj => by
    simp only [hc, List.flatMap_cons, hq]
    rw [List.getElem?_append_left (by simp [hcell]; omega)]
    simp
  | x :: l, i + 1, j, h, hj => by
    have ih := hc_get l i j (by simpa using h) hj
    simp only [hc, List.flatMap_cons] at ih ⊢
    rw [List.getElem?_append_right (by simp [hcell]; omega)]
    have e : (i + 1) * 5 + j - (hcell x).length = i * 5 + j := by simp [hcell]; omega
    rw [e, ih]
    simp [hq]
theorem hc_one (L : List H5) : ∀ u ∈ hc L, u.oneCell' = true := by
  intro u hu
  simp only [hc, List.mem_flatMap, hcell, List.mem_cons, List.not_mem_nil, or_false] at hu
  obtain ⟨x, -, rfl | rfl | rfl | rfl | rfl⟩ := hu <;> rfl

theorem HAt.get {w : World} {b o j : Nat} {x : H5} (h : HAt w b o x) (hj : j < 5) : w.cell? ⟨b, o + j, none⟩ = (hcell x)[j]? := by
  match j, hj with
  | 0, _ => exact h.c0
  | 1, _ => exact h.c1
  | 2, _ => exact h.c2
  | 3, _ => exact h.c3
  | 4, _ => exact h.c4
theorem HAt.of {w : World} {b o : Nat} {x : H5} (h : ∀ j, j < 5 → w.cell? ⟨b, o + j, none⟩ = (hcell x)[j]?) : HAt w b o x :=
  ⟨h 0 (by omega), h 1 (by omega), h 2 (by omega), h 3 (by omega), h 4 (by omega)⟩

theorem own_SlH {w : World} {base : Nat} {v : Value} {L : List H5} (h : w.ownsRow base 64 5 v L.length (hc L)) : SlH w v L := by
  rcases h.2 with ⟨rfl, h0⟩ | ⟨g, cap, cur, rfl, hb, hg, hle, -⟩
  · exact ⟨none, 0, by rw [h0], ⟨fun _ => rfl, by omega⟩, fun hp => by omega⟩
  · refine ⟨some ⟨g, 0, none⟩, cap, rfl, ⟨fun e => (by cases e), hle⟩, fun _ => ⟨g, 0, rfl, fun i hi => HAt.of fun j hj => ?_⟩⟩
    rw [Nat.zero_add, h.cellAt (i * 5 + j) (by omega), hc_get L i j hi hj]

theorem SlH.cells {w : World} {ad : Addr} {n cap : Nat} {L : List H5} (h : SlH w (.slice (some ad) n cap) L) : ∀ j u, (hc L)[j]? = some u → w.cell? (ad.add j) = some u := by
  intro j u hu
  have hj : j < L.length * 5 := by
    have := (List.getElem?_eq_some_iff.1 hu).1
    rwa [hc_len] at this
  obtain ⟨a, c, e, -, hd⟩ := h
  simp only [Value.slice.injEq] at e
  obtain ⟨rfl, -, -⟩ := e
  obtain ⟨b, off, e, hh⟩ := hd (by omega)
  cases e
  have h1 := (hh (j / 5) (by omega)).get (j := j % 5) (by omega)
  rw [← hc_get L (j / 5) (j % 5) (by omega) (by omega), show j / 5 * 5 + j % 5 = j by omega, show off + j / 5 * 5 + j % 5 = off + j by omega] at h1
  rw [Addr.add_mid, h1, hu]

/-- A row of one's own, and elements behind it. -/
theorem push_h {base : Nat} {v u : Value} {D L : List H5} (w : World) (hbw : base ≤ w.heap.size) (h : w.ownsRow base 64 5 v D.length (hc D)) (hs : SlH w u L) (hl : D.length + L.length ≤ 1000000) :
    ∃ v' w', (Builtin.append_ #[23, 23] 23 #[v, u]).run Tryz.prog w = .ok v' w' ∧ w'.ownsRow base 64 5 v' (D ++ L).length (hc (D ++ L)) ∧ w.grownBy w' v.ownBlock ∧ (v'.ownBlock = v.ownBlock ∨ v'.ownBlock = some w.heap.size) := by
  obtain ⟨i0, hi, hz0, hz1, hz2⟩ := info_parts info64
  obtain ⟨a, cap, rfl, ⟨hz, -⟩, hd⟩ := _root_.id hs
  cases a with
  | none =>
    obtain rfl := hz rfl
    have h0 : L.length = 0 := by
      rcases Nat.eq_zero_or_pos L.length with e | e
      · exact e
      · obtain ⟨_, _, hh, -⟩ := hd e
        cases hh
    have hL : L = [] := List.eq_nil_of_length_eq_zero h0
    subst hL
    exact ⟨v, w, run_append_owned_none (P := Tryz.prog) (w := w) base 23 23 64 i0 5 Tryz.underlying23 hi _ _ _ h, by simpa using h, ⟨rfl, rfl, rfl, Nat.le_refl _, fun _ _ _ => rfl⟩, .inl rfl⟩
  | some ad =>
    obtain ⟨v', W', r1, r2, r3, -, r5⟩ := run_append_own_at (P := Tryz.prog) w base 23 23 64 i0 (.agg #[.int .i64 0, .int .i64 0, .int .i64 0, .int .i64 0, .bool false]) 5 40 Tryz.underlying23 hi hz0 hz1 hz2 rfl (by decide) v D.length (hc D) h ad L.length cap (hc L) (hc_len L)
      hs.cells (hc_one L) (by unfold maxLen; omega) (by omega) hbw
    exact ⟨v', W', r1, by rw [List.length_append, hc_append]; exact r2, r3, r5⟩

theorem own_nil64 (w : World) : (w.alloc (Obj.cells #[] 64)).ownsRow w.heap.size 64 5 (.slice (some ⟨w.heap.size, 0, none⟩) 0 0) ([] : List H5).length (hc []) := by
  have := World.ownsRow_lit (e := 64) (size := 5) w #[] 0 (Nat.le_refl w.heap.size) (by unfold maxLen; omega) (by simp)
  simpa [hc] using this

theorem one_SlH (w : World) (x : H5) : SlH (w.alloc (.cells #[.int .i64 x.n, .int .i64 x.p, .int .i64 x.c, .int .i64 x.sh, .bool x.bk] 64)) (.slice (some ⟨w.heap.size, 0, none⟩) 1 1) [x] := by
  refine ⟨some ⟨w.heap.size, 0, none⟩, 1, rfl, ⟨fun e => (by cases e), by simp⟩, fun _ => ⟨w.heap.size, 0, rfl, fun i hi => ?_⟩⟩
  obtain rfl : i = 0 := by simpa using hi
  exact ⟨cell_of (alloc_heap_new w _) rfl, cell_of (alloc_heap_new w _) rfl, cell_of (alloc_heap_new w _) rfl, cell_of (alloc_heap_new w _) rfl, cell_of (alloc_heap_new w _) rfl⟩

/-- One element between two parts, laid anew. -/
theorem splice_h {w : World} {u1 u3 : Value} {L1 L3 : List H5} (h : H5) (h1 : SlH w u1 L1) (h3 : SlH w u3 L3) (hl : L1.length + L3.length ≤ 100000) :
    ∃ v1 W2 v2 W4 v3 W5, (Builtin.append_ #[23, 23] 23 #[.slice (some ⟨w.heap.size, 0, none⟩) 0 0, u1]).run Tryz.prog (w.alloc (.cells #[] 64)) = .ok v1 W2 ∧
      (Builtin.append_ #[23, 23] 23 #[v1, .slice (some ⟨W2.heap.size, 0, none⟩) 1 1]).run Tryz.prog (W2.alloc (.cells #[.int .i64 h.n, .int .i64 h.p, .int .i64 h.c, .int .i64 h.sh, .bool h.bk] 64)) = .ok v2 W4 ∧
      (Builtin.append_ #[23, 23] 23 #[v2, u3]).run Tryz.prog W4 = .ok v3 W5 ∧ W5.ownsRow w.heap.size 64 5 v3 (L1 ++ [h] ++ L3).length (hc (L1 ++ [h] ++ L3)) ∧
      Below w.heap.size w W2 ∧ Below w.heap.size w W4 ∧ Below w.heap.size w W5 ∧ (∃ a n c, v1 = .slice a n c) ∧ (∃ a n c, v2 = .slice a n c) := by
  have al : Below w.heap.size w (w.alloc (Obj.cells #[] 64)) := (Below.refl _ w).alloc (Nat.le_refl _) _
  obtain ⟨v1, W2, r1, o1, g1, -⟩ := push_h _ al.size (own_nil64 w) (h1.keep al) (by simp; omega)
  have b2 : Below w.heap.size w W2 := al.grown g1 al.size (fun j e => ((own_nil64 w).lt j e).1)
  have al2 : Below W2.heap.size W2 (W2.alloc (.cells #[.int .i64 h.n, .int .i64 h.p, .int .i64 h.c, .int .i64 h.sh, .bool h.bk] 64)) := (Below.refl _ W2).alloc (Nat.le_refl _) _
  have b3 := b2.trans (al2.mono b2.size)
  rw [List.nil_append] at o1
  have o1' : (W2.alloc (.cells #[.int .i64 h.n, .int .i64 h.p, .int .i64 h.c, .int .i64 h.sh, .bool h.bk] 64)).ownsRow w.heap.size 64 5 v1 L1.length (hc L1) := o1.kept (World.grownBy_alloc W2 _ none) (by
    cases hv : v1.ownBlock with
    | none => exact .inl rfl
    | some _ => exact .inr (by simp))
  obtain ⟨v2, W4, r2, o2, g2, -⟩ := push_h _ b3.size o1' (one_SlH W2 h) (by simp; omega)
  have b4 := b3.grown g2 b3.size (fun j e => (o1'.lt j e).1)
  obtain ⟨v3, W5, r3, o3, g3, -⟩ := push_h _ b4.size o2 (h3.keep b4) (by simp; omega)
  have sh : ∀ {W : World} {v : Value} {n : Nat} {xs : List Value}, W.ownsRow w.heap.size 64 5 v n xs → ∃ a n c, v = .slice a n c := fun h => by
    rcases h.2 with ⟨e, -⟩ | ⟨_, _, _, e, -⟩
    · exact ⟨_, _, _, e⟩
    · exact ⟨_, _, _, e⟩
  exact ⟨v1, W2, v2, W4, v3, W5, r1, r2, r3, o3, b2, b4, b4.grown g3 b4.size (fun j e => (o2.lt j e).1), sh o1, sh o2⟩

theorem slice_lo5 {w : World} {a : Option Addr} {n c k : Nat} {L : List H5} (hL : L.length = n) (h : SlH w (.slice a n c) L) (hk : k ≤ n) : ∃ a3, (∀ w', Below w.heap.size w w' → SlH w' (.slice a3 (n - k) (c - k)) (L.drop k)) ∧
    ∀ w', (Instr.sliceAt 23 (.slice a n c) (some (.int .i64 (k : Int))) none none).run Tryz.prog w' = .ok (.slice a3 (n - k) (c - k)) w' := by
  obtain ⟨a2, c2, e, ⟨h1, h2⟩, h3⟩ := _root_.id h
  simp only [Value.slice.injEq] at e
  obtain ⟨rfl, -, rfl⟩ := e
  have hdl : (L.drop k).length = n - k := by rw [List.length_drop, hL]
  cases a with
  | none =>
    have hc0 := h1 rfl
    subst hc0
    have hn0 : n = 0 := by omega
    subst hn0
    have hk0 : k = 0 := by omega
    subst hk0
    refine ⟨none, fun w' hb => ?_, fun w' => by go_simp⟩
    rw [List.drop_zero]
    exact h.keep hb
  | some ad =>
    obtain ⟨b, o, s⟩ := ad
    refine ⟨if c = k then some ⟨b, o, s⟩ else some ((⟨b, o, s⟩ : Addr).add (k * 5)), fun w' hb => ?_, fun w' => ?_⟩
    · refine ⟨_, _, by rw [hdl], ⟨fun e => ?_, by rw [hdl]; omega⟩, fun hp => ?_⟩
      · split at e <;> cases e
      · rw [hdl] at hp
        obtain ⟨b', off, e, hh⟩ := h3 (by omega)
        simp only [Option.some.injEq, Addr.mk.injEq] at e
        obtain ⟨rfl, rfl, rfl⟩ := e
        refine ⟨b, o + k * 5, ?_, fun i hi => ?_⟩
        · rw [if_neg (by omega), Addr.add_mid]
        · rw [hdl] at hi
          have := (hh (k + i) (by omega)).keep hb
          have e2 : hq (L.drop k) i = hq L (k + i) := by simp [hq, List.getD, List.getElem?_drop]
          rw [e2, show o + k * 5 + i * 5 = o + (k + i) * 5 by omega]
          exact this
    · go_simp

end Go.Proofs.YtdnljbdngbphnaaGreat
