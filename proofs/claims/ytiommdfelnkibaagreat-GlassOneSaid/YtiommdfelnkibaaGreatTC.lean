/- The abstract machine, part TC. -/
import Derived.Test.YtiommdfelnkibaaGreatTA
import Derived.Test.YtiommdfelnkibaaGreatTB
/- GlassOne: a piece that lies in a range of blocks. -/
namespace Go.Proofs.YtiommdfelnkibaaGreat
open Go Go.RowKit Go.Proofs Go.Abs

def Rg (lo hi : Nat) (v : Value) : Prop := ∀ a n c, v = .slice (some a) (n + 1) c → lo ≤ a.block ∧ a.block < hi

/-- The piece D as a value whose lists lie in the blocks from lo to hi. -/
def PcR (D : PcD) (v : Value) (lo hi : Nat) (W : World) : Prop := ∃ vg vm, v = pcs D.id D.c D.r D.m D.s vg vm ∧ SlG W vg D.G ∧ SlM W vm D.M ∧ Rg lo hi vg ∧ Rg lo hi vm
def PcT (D : PcD) (v : Value) (lo hi : Nat) (W : World) : Prop := ∃ u, v = .tuple #[u, .int .i64 0] ∧ PcR D u lo hi W
def PcO (D : PcD) (ob : Obj) (lo hi : Nat) (W : World) : Prop := ∃ vg vm, ob = .cells #[.int .i64 D.id, .int .i64 D.c, .int .i64 D.r, .int .i64 D.m, .int .i64 D.s, vg, vm] 25 (0, 0) ∧ SlG W vg D.G ∧ SlM W vm D.M ∧ Rg lo hi vg ∧ Rg lo hi vm

theorem SlG.keeps {W W' : World} {X lo hi : Nat} {v : Value} {G : List G5} (h : SlG W v G) (hr : Rg lo hi v) (hk : Keeps X lo hi W W') : SlG W' v G := by
  obtain ⟨a, cap, rfl, hl, hc⟩ := h
  refine ⟨a, cap, rfl, hl, fun k hk2 => ?_⟩
  obtain ⟨b, off, rfl, h0, h1, h2, h3, h4⟩ := hc k hk2
  obtain ⟨m, hm⟩ : ∃ m, G.length = m + 1 := ⟨G.length - 1, by omega⟩
  have hb : W'.heap[b]? = W.heap[b]? := hk b (.inr (hr ⟨b, off, none⟩ m cap (by rw [hm])))
  exact ⟨b, off, rfl, (World.cell?_of_block (w := W) hb).trans h0, (World.cell?_of_block (w := W) hb).trans h1, (World.cell?_of_block (w := W) hb).trans h2, (World.cell?_of_block (w := W) hb).trans h3, (World.cell?_of_block (w := W) hb).trans h4⟩

theorem SlM.keeps {W W' : World} {X lo hi : Nat} {v : Value} {M : List M3} (h : SlM W v M) (hr : Rg lo hi v) (hk : Keeps X lo hi W W') : SlM W' v M := by
  obtain ⟨a, cap, rfl, hl, hc⟩ := h
  refine ⟨a, cap, rfl, hl, fun k hk2 => ?_⟩
  obtain ⟨b, off, rfl, h0, h1, h2⟩ := hc k hk2
  obtain ⟨m, hm⟩ : ∃ m, M.length = m + 1 := ⟨M.length - 1, by omega⟩
  have hb : W'.heap[b]? = W.heap[b]? := hk b (.inr (hr ⟨b, off, none⟩ m cap (by rw [hm])))
  exact ⟨b, off, rfl, (World.cell?_of_block (w := W) hb).trans h0, (World.cell?_of_block (w := W) hb).trans h1, (World.cell?_of_block (w := W) hb).trans h2⟩

theorem PcR.stable {D : PcD} {X : Nat} (v : Value) (lo hi : Nat) (W W' : World) (hk : Keeps X lo hi W W') (h : PcR D v lo hi W) : PcR D v lo hi W' := by
  obtain ⟨vg, vm, h1, h2, h3, h4, h5⟩ := h
  exact ⟨vg, vm, h1, h2.keeps h4 hk, h3.keeps h5 hk, h4, h5⟩
theorem PcT.stable {D : PcD} {X : Nat} (v : Value) (lo hi : Nat) (W W' : World) (hk : Keeps X lo hi W W') (h : PcT D v lo hi W) : PcT D v lo hi W' := by
  obtain ⟨u, h1, h2⟩ := h
  exact ⟨u, h1, h2.stable _ _ _ _ _ hk⟩
theorem PcO.stable {D : PcD} {X : Nat} (v : Obj) (lo hi : Nat) (W W' : World) (hk : Keeps X lo hi W W') (h : PcO D v lo hi W) : PcO D v lo hi W' := by
  obtain ⟨vg, vm, h1, h2, h3, h4, h5⟩ := h
  exact ⟨vg, vm, h1, h2.keeps h4 hk, h3.keeps h5 hk, h4, h5⟩

theorem cell_lt {W : World} {p : Addr} {v : Value} (h : W.cell? p = some v) : p.block < W.heap.size := by
  unfold World.cell? at h
  by_cases hp : p.block < W.heap.size
  · exact hp
  · rw [Array.getElem?_eq_none (by omega)] at h
    cases h

theorem PcV.toR {W : World} {B : Nat} {v : Value} {D : PcD} (h : PcV W B v D) : PcR D v B W.heap.size W := by
  obtain ⟨vg, vm, h1, h2, h3, h4, h5⟩ := h
  refine ⟨vg, vm, h1, h2, h3, fun a n c e => ⟨h4 a _ c e, ?_⟩, fun a n c e => ⟨h5 a _ c e, ?_⟩⟩
  · obtain ⟨a', cap, e2, -, hc⟩ := h2
    rw [e] at e2
    injection e2 with e3 e4 e5
    obtain ⟨b, off, e6, h0, -⟩ := hc 0 (by omega)
    rw [← e3] at e6
    cases e6
    exact cell_lt h0
  · obtain ⟨a', cap, e2, -, hc⟩ := h3
    rw [e] at e2
    injection e2 with e3 e4 e5
    obtain ⟨b, off, e6, h0, -⟩ := hc 0 (by omega)
    rw [← e3] at e6
    cases e6
    exact cell_lt h0

end Go.Proofs.YtiommdfelnkibaaGreat

/- Walks: law 9 (GlassOne). -/
namespace Go.Proofs.YtiommdfelnkibaaGreat
open Go Go.RowKit Go.Proofs Go.Abs

set_option maxRecDepth 100000 in
set_option maxHeartbeats 16000000 in
theorem oneLaw_good (p q : PcD) (la : Option Addr) (ln lcap : Nat) (agp amp agq amq : Option Addr) (gcp mcp gcq mcq : Nat) (w : World) (A B O : List (Nat × Bool)) (IV : Nat → Bool → Nat) (MD : Nat → Bool → PcD) (FS : Nat → Bool → List (Nat × Bool)) (LD : Nat → Bool → Nat → Bool → Nat)
    (hAB : Hid (A.length = B.length)) (hA2 : A.length ≤ 1000) (hB2 : Hid (B.length ≤ 1000)) (hO : (0, false) ∈ O) (hO2 : O.length ≤ 1000)
    (HFp : Hid (∀ W, Below w.heap.size w W → Calls Tryz.prog 35 #[pcs p.id p.c p.r p.m p.s (.slice agp p.G.length gcp) (.slice amp p.M.length mcp)] W fun e w' => e = .returned (.bool true) ∧ Below W.heap.size W w'))
    (HFq : Hid (∀ W, Below w.heap.size w W → Calls Tryz.prog 35 #[pcs q.id q.c q.r q.m q.s (.slice agq q.G.length gcq) (.slice amq q.M.length mcq)] W fun e w' => e = .returned (.bool true) ∧ Below W.heap.size W w'))
    (HFl : Hid (∀ W, Below w.heap.size w W → Calls Tryz.prog 29 #[.slice la ln lcap] W fun e w' => e = .returned (.bool true) ∧ Below W.heap.size W w'))
    (HA : Hid (∀ W, Below w.heap.size w W → Calls Tryz.prog 25 #[pcs p.id p.c p.r p.m p.s (.slice agp p.G.length gcp) (.slice amp p.M.length mcp), pcs q.id q.c q.r q.m q.s (.slice agq q.G.length gcq) (.slice amq q.M.length mcq)] W fun e w' => ∃ v, e = .returned (.tuple #[v, .int .i64 0]) ∧ SetAt w' v A ∧ Below W.heap.size W w'))
    (HB : Hid (∀ W, Below w.heap.size w W → Calls Tryz.prog 25 #[pcs q.id q.c q.r q.m q.s (.slice agq q.G.length gcq) (.slice amq q.M.length mcq), pcs p.id p.c p.r p.m p.s (.slice agp p.G.length gcp) (.slice amp p.M.length mcp)] W fun e w' => ∃ v, e = .returned (.tuple #[v, .int .i64 0]) ∧ SetAt w' v B ∧ Below W.heap.size W w'))
    (HO : Hid (∀ W, Below w.heap.size w W → Calls Tryz.prog 25 #[pcs p.id p.c p.r p.m p.s (.slice agp p.G.length gcp) (.slice amp p.M.length mcp), pcs p.id p.c p.r p.m p.s (.slice agp p.G.length gcp) (.slice amp p.M.length mcp)] W fun e w' => ∃ v, e = .returned (.tuple #[v, .int .i64 0]) ∧ SetAt w' v O ∧ Below W.heap.size W w'))
    (HINV : Hid (∀ (s : Nat) (b : Bool), (s, b) ∈ A → (IV s b, b) ∈ B ∧ ∀ W, Calls Tryz.prog 38 #[st (s : Nat) b, .int .i64 (p.G.length : Nat)] W fun e w' => e = .returned (.tuple #[st (IV s b : Nat) b, .int .i64 0]) ∧ Below W.heap.size W w'))
    (HMRG : Hid (∀ (s : Nat) (b : Bool), (s, b) ∈ A → ∀ W, Below w.heap.size w W → Calls Tryz.prog 27 #[pcs p.id p.c p.r p.m p.s (.slice agp p.G.length gcp) (.slice amp p.M.length mcp), pcs q.id q.c q.r q.m q.s (.slice agq q.G.length gcq) (.slice amq q.M.length mcq), st (s : Nat) b] W fun e w' => ∃ v, e = .returned v ∧ PcT (MD s b) v W.heap.size w'.heap.size w' ∧ Below W.heap.size W w'))
    (HSET : Hid (∀ (s : Nat) (b : Bool), (s, b) ∈ A → ∀ W vg vm, Below w.heap.size w W → SlG W vg (MD s b).G → SlM W vm (MD s b).M → Calls Tryz.prog 14 #[pcs (MD s b).id (MD s b).c (MD s b).r (MD s b).m (MD s b).s vg vm, .slice la ln lcap] W fun e w' => ∃ v, e = .returned (.tuple #[v, .int .i64 0]) ∧ SetAt w' v (FS s b) ∧ Below W.heap.size W w'))
    (HVP : Hid (∀ (s : Nat) (b : Bool), (s, b) ∈ A → ∀ W vg vm, SlG W vg (MD s b).G → SlM W vm (MD s b).M → Calls Tryz.prog 39 #[pcs (MD s b).id (MD s b).c (MD s b).r (MD s b).m (MD s b).s vg vm] W fun e w' => e = .returned (.bool true) ∧ Below W.heap.size W w'))
    (HFS : Hid (∀ (s : Nat) (b : Bool), (s, b) ∈ A → (FS s b).length ≤ 1000))
    (HCMP : Hid (∀ (s : Nat) (b : Bool), (s, b) ∈ A → ∀ (t : Nat) (c : Bool), (t, c) ∈ FS s b → ∀ W, Calls Tryz.prog 37 #[st (s : Nat) b, st (t : Nat) c, .int .i64 (p.G.length : Nat)] W fun e w' => e = .returned (.tuple #[st (LD s b t c : Nat) (b != c), .int .i64 0]) ∧ Below W.heap.size W w'))
    (HF1 : Hid (∀ (s : Nat) (b : Bool), (s, b) ∈ A → ∀ (t : Nat) (c : Bool), (t, c) ∈ FS s b → ∀ W, Below w.heap.size w W → Calls Tryz.prog 12 #[pcs p.id p.c p.r p.m p.s (.slice agp p.G.length gcp) (.slice amp p.M.length mcp), .slice la ln lcap, st (LD s b t c : Nat) (b != c)] W fun e w' => e = .returned (.tuple #[.bool true, .int .i64 0]) ∧ Below W.heap.size W w'))
    (HF2 : Hid (∀ (s : Nat) (b : Bool), (s, b) ∈ A → ∀ (t : Nat) (c : Bool), (t, c) ∈ FS s b → ∀ W, Below w.heap.size w W → Calls Tryz.prog 12 #[pcs q.id q.c q.r q.m q.s (.slice agq q.G.length gcq) (.slice amq q.M.length mcq), .slice la ln lcap, st (t : Nat) c] W fun e w' => e = .returned (.tuple #[.bool true, .int .i64 0]) ∧ Below W.heap.size W w')) :
    Calls Tryz.prog 9 #[pcs p.id p.c p.r p.m p.s (.slice agp p.G.length gcp) (.slice amp p.M.length mcp), pcs q.id q.c q.r q.m q.s (.slice agq q.G.length gcq) (.slice amq q.M.length mcq), .slice la ln lcap] w fun e w' => e = .returned (.bool true) ∧ Below w.heap.size w w' := by
  obtain ⟨hp0, hq0, b0⟩ := pcs2_w w (pcsObj p.id p.c p.r p.m p.s (.slice agp p.G.length gcp) (.slice amp p.M.length mcp)) (pcsObj q.id q.c q.r q.m q.s (.slice agq q.G.length gcq) (.slice amq q.M.length mcq))
  have HA2 := Lib.hid hA2
  clear hA2
  go_enter Tryz.func9, Tryz.ntmps9
  go_upto_region 2 with (go_at_call 10; refine (awake_any _).mono ?_; rintro e w1 ⟨rfl, hb⟩)
  have b1 := keep_below b0 hb
  have hp := (hb.block w.heap.size (by simp; omega)).trans hp0
  have hq := (hb.block (w.heap.size + 1) (by simp)).trans hq0
  clear hp0 hq0 b0 hb
  obtain ⟨hp_0, hp_1, hp_2, hp_3, hp_4, hp_5, hp_6⟩ := And.intro (cell_of hp (k := 0) rfl) (And.intro (cell_of hp (k := 1) rfl) (And.intro (cell_of hp (k := 2) rfl) (And.intro (cell_of hp (k := 3) rfl) (And.intro (cell_of hp (k := 4) rfl) (And.intro (cell_of hp (k := 5) rfl) (cell_of hp (k := 6) rfl))))))
  go_wp2_with fail
  refine (HFp.out _ b1).mono ?_
  rintro e w2 ⟨rfl, hb⟩
  clear hp_0 hp_1 hp_2 hp_3 hp_4 hp_5 hp_6
  replace b1 := keep_below b1 hb
  replace hp := (hb.block _ (Array.getElem?_eq_some_iff.1 hp).1).trans hp
  replace hq := (hb.block _ (Array.getElem?_eq_some_iff.1 hq).1).trans hq
  clear hb
  obtain ⟨hq_0, hq_1, hq_2, hq_3, hq_4, hq_5, hq_6⟩ := And.intro (cell_of hq (k := 0) rfl) (And.intro (cell_of hq (k := 1) rfl) (And.intro (cell_of hq (k := 2) rfl) (And.intro (cell_of hq (k := 3) rfl) (And.intro (cell_of hq (k := 4) rfl) (And.intro (cell_of hq (k := 5) rfl) (cell_of hq (k := 6) rfl))))))
  go_wp2_with fail
  refine (HFq.out _ b1).mono ?_
  rintro e w3 ⟨rfl, hb⟩
  clear hq_0 hq_1 hq_2 hq_3 hq_4 hq_5 hq_6
  replace b1 := keep_below b1 hb
  replace hp := (hb.block _ (Array.getElem?_eq_some_iff.1 hp).1).trans hp
  replace hq := (hb.block _ (Array.getElem?_eq_some_iff.1 hq).1).trans hq
  clear hb
  go_wp2_with fail
  refine (HFl.out _ b1).mono ?_
  rintro e w4 ⟨rfl, hb⟩
  replace b1 := keep_below b1 hb
  replace hp := (hb.block _ (Array.getElem?_eq_some_iff.1 hp).1).trans hp
  replace hq := (hb.block _ (Array.getElem?_eq_some_iff.1 hq).1).trans hq
  clear hb
  obtain ⟨hp_0, hp_1, hp_2, hp_3, hp_4, hp_5, hp_6⟩ := And.intro (cell_of hp (k := 0) rfl) (And.intro (cell_of hp (k := 1) rfl) (And.intro (cell_of hp (k := 2) rfl) (And.intro (cell_of hp (k := 3) rfl) (And.intro (cell_of hp (k := 4) rfl) (And.intro (cell_of hp (k := 5) rfl) (cell_of hp (k := 6) rfl))))))
  obtain ⟨hq_0, hq_1, hq_2, hq_3, hq_4, hq_5, hq_6⟩ := And.intro (cell_of hq (k := 0) rfl) (And.intro (cell_of hq (k := 1) rfl) (And.intro (cell_of hq (k := 2) rfl) (And.intro (cell_of hq (k := 3) rfl) (And.intro (cell_of hq (k := 4) rfl) (And.intro (cell_of hq (k := 5) rfl) (cell_of hq (k := 6) rfl))))))
  go_wp2_with fail
  refine (HA.out _ b1).mono ?_
  rintro e w5 ⟨vA, rfl, hvA, hb⟩
  clear hp_0 hp_1 hp_2 hp_3 hp_4 hp_5 hp_6 hq_0 hq_1 hq_2 hq_3 hq_4 hq_5 hq_6
  replace b1 := keep_below b1 hb
  replace hp := (hb.block _ (Array.getElem?_eq_some_iff.1 hp).1).trans hp
  replace hq := (hb.block _ (Array.getElem?_eq_some_iff.1 hq).1).trans hq
  clear hb
  obtain ⟨hp_0, hp_1, hp_2, hp_3, hp_4, hp_5, hp_6⟩ := And.intro (cell_of hp (k := 0) rfl) (And.intro (cell_of hp (k := 1) rfl) (And.intro (cell_of hp (k := 2) rfl) (And.intro (cell_of hp (k := 3) rfl) (And.intro (cell_of hp (k := 4) rfl) (And.intro (cell_of hp (k := 5) rfl) (cell_of hp (k := 6) rfl))))))
  obtain ⟨hq_0, hq_1, hq_2, hq_3, hq_4, hq_5, hq_6⟩ := And.intro (cell_of hq (k := 0) rfl) (And.intro (cell_of hq (k := 1) rfl) (And.intro (cell_of hq (k := 2) rfl) (And.intro (cell_of hq (k := 3) rfl) (And.intro (cell_of hq (k := 4) rfl) (And.intro (cell_of hq (k := 5) rfl) (cell_of hq (k := 6) rfl))))))
  go_wp2_with fail
  refine (HB.out _ b1).mono ?_
  rintro e w6 ⟨vB, rfl, hvB, hb⟩
  clear hp_0 hp_1 hp_2 hp_3 hp_4 hp_5 hp_6 hq_0 hq_1 hq_2 hq_3 hq_4 hq_5 hq_6
  replace b1 := keep_below b1 hb
  replace hp := (hb.block _ (Array.getElem?_eq_some_iff.1 hp).1).trans hp
  replace hq := (hb.block _ (Array.getElem?_eq_some_iff.1 hq).1).trans hq
  replace hvA := hvA.keep hb
  clear hb
  obtain ⟨hp_0, hp_1, hp_2, hp_3, hp_4, hp_5, hp_6⟩ := And.intro (cell_of hp (k := 0) rfl) (And.intro (cell_of hp (k := 1) rfl) (And.intro (cell_of hp (k := 2) rfl) (And.intro (cell_of hp (k := 3) rfl) (And.intro (cell_of hp (k := 4) rfl) (And.intro (cell_of hp (k := 5) rfl) (cell_of hp (k := 6) rfl))))))
  go_wp2_with fail
  refine (HO.out _ b1).mono ?_
  rintro e w7 ⟨vO, rfl, hvO, hb⟩
  clear hp_0 hp_1 hp_2 hp_3 hp_4 hp_5 hp_6
  replace b1 := keep_below b1 hb
  replace hp := (hb.block _ (Array.getElem?_eq_some_iff.1 hp).1).trans hp
  replace hq := (hb.block _ (Array.getElem?_eq_some_iff.1 hq).1).trans hq
  replace hvA := hvA.keep hb
  replace hvB := hvB.keep hb
  clear hb
  obtain ⟨aA, cA, rfl⟩ := SetAt.shape hvA
  obtain ⟨aB, cB, hvBe⟩ := SetAt.shape hvB
  subst hvBe
  rw [← hAB.out]
  go_wp2_with fail
  refine (among_at _ hvO hO2 _ _ hO).mono ?_
  rintro e w8 ⟨rfl, hb⟩
  replace b1 := keep_below b1 hb
  replace hp := (hb.block _ (Array.getElem?_eq_some_iff.1 hp).1).trans hp
  replace hq := (hb.block _ (Array.getElem?_eq_some_iff.1 hq).1).trans hq
  replace hvA := hvA.keep hb
  replace hvB := hvB.keep hb
  replace hvO := hvO.keep hb
  clear hb
  obtain ⟨n, hn⟩ : ∃ n, A.length = n := ⟨_, rfl⟩
  rw [hn]
  have HAn := Lib.hid hn
  have hn1000 : n ≤ 1000 := by have := HA2.out; omega
  have HVA := Lib.hid hvA
  have HVB := Lib.hid hvB
  have HP := Lib.hid hp
  have HQ := Lib.hid hq
  have HB1 := Lib.hid b1
  have g5 := cell_of hp (k := 5) rfl
  clear hn hvA hvB hvO hq hp
  go_wp2_with fail
  clear g5
  go_loopw [15] (fun i wr => ∃ k : Nat, k ≤ n ∧ i = .int .i64 k ∧ Below w8.heap.size w8 wr) (fun i _ => n - (intOf i).toNat)
  case atStart => exact ⟨0, Nat.zero_le _, rfl, Below.refl _ _⟩
  case round =>
    obtain ⟨k, hk, rfl, hbel⟩ := hrel
    by_cases hlt : k < n
    · have j1 : (k : Int) < (n : Int) := by omega
      obtain ⟨⟨s, b⟩, hx⟩ : ∃ p, A[k]? = some p := ⟨_, List.getElem?_eq_getElem (by rw [HAn.out]; exact hlt)⟩
      have hmem := List.mem_of_getElem? hx
      obtain ⟨gA, rfl, x0, x1⟩ := HVA.out.pos hx
      have c0 := keep_cell hbel x0
      have c1 := keep_cell hbel x1
      have KI := Lib.hid (HINV.out s b hmem)
      have HMEM := Lib.hid hmem
      have HX := Lib.hid (And.intro x0 x1)
      have HBEL := Lib.hid hbel
      obtain ⟨W8, hW8⟩ : ∃ W8, W8 = wr := ⟨_, rfl⟩
      subst hW8
      clear hx hmem x0 x1
      go_wp2_with fail
      refine (KI.out.2 _).mono ?_
      rintro e w9 ⟨rfl, hb⟩
      have HB9 := Lib.hid (keep_below HBEL.out hb)
      clear c0 c1 hb hbel HBEL
      go_wp2_with fail
      obtain ⟨W0, hW0⟩ : ∃ W0, w9.alloc (.cells #[.int .i64 (IV s b : Nat), .bool b] 28) = W0 := ⟨_, rfl⟩
      have hbk : W0.heap[w9.heap.size]? = some (.cells #[.int .i64 (IV s b : Nat), .bool b] 28 (0, 0)) := by rw [← hW0]; exact alloc_heap_new _ _
      have hb0 : Below w8.heap.size w8 W0 := by rw [← hW0]; exact HB9.out.alloc HB9.out.size _
      have HP0 := Lib.hid ((hb0.block _ (Array.getElem?_eq_some_iff.1 HP.out).1).trans HP.out)
      have HQ0 := Lib.hid ((hb0.block _ (Array.getElem?_eq_some_iff.1 HQ.out).1).trans HQ.out)
      have HX0 := Lib.hid (And.intro (keep_cell hb0 HX.out.1) (keep_cell hb0 HX.out.2))
      have HBK := Lib.hid hbk
      have HBW := Lib.hid (keep_below HB1.out hb0)
      have HB0 := Lib.hid hb0
      have HK := Lib.hid j1
      rw [hW0]
      have HM := HMRG.out s b HMEM.out
      have HS := HSET.out s b HMEM.out
      have HV := HVP.out s b HMEM.out
      obtain ⟨D, hD⟩ : ∃ D, MD s b = D := ⟨_, rfl⟩
      rw [hD] at HM HS HV
      replace HM := Lib.hid HM
      replace HS := Lib.hid HS
      replace HV := Lib.hid HV
      clear hW0 hbk hb0 hD HB9
      refine wp_region_boxes [.con (pcs p.id p.c p.r p.m p.s (.slice agp p.G.length gcp) (.slice amp p.M.length mcp)), .con (pcs q.id q.c q.r q.m q.s (.slice agq q.G.length gcq) (.slice amq q.M.length mcq)), .con (.slice (some ⟨gA, 0, none⟩) n cA), .con (.int .i64 (k : Nat)), .con (.pointer (some ⟨gA, k * 2, none⟩)), .con (st (s : Nat) b), .made 6 (PcT D), .made 6 (PcT D), .made 6 (PcR D), .con (.int .i64 0), .box (.cells #[.int .i64 0, .int .i64 0, .int .i64 0, .int .i64 0, .int .i64 0, .slice none 0 0, .slice none 0 0] 25), .sto 10 6 (PcO D), .con (.int .i64 0)] (by kernel_rfl) (by kernel_rfl) rfl ?_ ?_ ?_
      · repeat' (first | exact fun x hx => absurd hx List.not_mem_nil | refine List.forall_mem_cons.2 ⟨?_, ?_⟩)
        all_goals first | exact trivial | exact fun _ _ _ _ _ _ h => h | exact fun v lo hi W W' hk h => PcT.stable v lo hi W W' hk h | exact fun v lo hi W W' hk h => PcR.stable v lo hi W W' hk h | exact fun v lo hi W W' hk h => PcO.stable v lo hi W W' hk h
      · intro i o ho g a' W hGd hfr hdep
        have f3 : a'.tmps[3]?.getD undef = .pointer (some ⟨w.heap.size, 0, none⟩) := Array.getD_eq_getD_getElem?.symm.trans (hfr 3 rfl)
        have f4 : a'.tmps[4]?.getD undef = .pointer (some ⟨w.heap.size + 1, 0, none⟩) := Array.getD_eq_getD_getElem?.symm.trans (hfr 4 rfl)
        have f8 : a'.tmps[8]?.getD undef = .slice (some ⟨gA, 0, none⟩) n cA := Array.getD_eq_getD_getElem?.symm.trans (hfr 8 rfl)
        have f15 : a'.tmps[15]?.getD undef = .int .i64 (k : Nat) := Array.getD_eq_getD_getElem?.symm.trans (hfr 15 rfl)
        clear hfr
        have hi : i < 13 := by have := (List.getElem?_eq_some_iff.1 ho).1; simpa using this
        obtain rfl | rfl | rfl | rfl | rfl | rfl | rfl | rfl | rfl | rfl | rfl | rfl | rfl : i = 0 ∨ i = 1 ∨ i = 2 ∨ i = 3 ∨ i = 4 ∨ i = 5 ∨ i = 6 ∨ i = 7 ∨ i = 8 ∨ i = 9 ∨ i = 10 ∨ i = 11 ∨ i = 12 := by omega
        all_goals simp only [List.getElem?_cons_zero, List.getElem?_cons_succ, Option.some.injEq] at ho
        all_goals subst ho
        · have hpw := (hGd.block _ (Array.getElem?_eq_some_iff.1 HP0.out).1).trans HP0.out
          have c0 := cell_of hpw (k := 0) rfl
          have c1 := cell_of hpw (k := 1) rfl
          have c2 := cell_of hpw (k := 2) rfl
          have c3 := cell_of hpw (k := 3) rfl
          have c4 := cell_of hpw (k := 4) rfl
          have c5 := cell_of hpw (k := 5) rfl
          have c6 := cell_of hpw (k := 6) rfl
          clear hpw
          clear hdep
          refine kS_con rfl ?_
          go_simp
        · have hpw := (hGd.block _ (Array.getElem?_eq_some_iff.1 HQ0.out).1).trans HQ0.out
          have c0 := cell_of hpw (k := 0) rfl
          have c1 := cell_of hpw (k := 1) rfl
          have c2 := cell_of hpw (k := 2) rfl
          have c3 := cell_of hpw (k := 3) rfl
          have c4 := cell_of hpw (k := 4) rfl
          have c5 := cell_of hpw (k := 5) rfl
          have c6 := cell_of hpw (k := 6) rfl
          clear hpw
          clear hdep
          refine kS_con rfl ?_
          go_simp
        · clear hdep
          refine kS_con rfl ?_
          go_simp
        · clear hdep
          refine kS_con rfl ?_
          go_simp
        · have d2 : a'.tmps[106]?.getD undef = .slice (some ⟨gA, 0, none⟩) n cA := Array.getD_eq_getD_getElem?.symm.trans (hdep ⟨2, .data⟩ (by simp) rfl _ rfl).2
          have d3 : a'.tmps[107]?.getD undef = .int .i64 (k : Nat) := Array.getD_eq_getD_getElem?.symm.trans (hdep ⟨3, .data⟩ (by simp) rfl _ rfl).2
          have i1 : (k : Int) < (n : Int) := HK.out
          clear hdep
          refine kS_con rfl ?_
          go_simp
        · have d4 : a'.tmps[108]?.getD undef = .pointer (some ⟨gA, k * 2, none⟩) := Array.getD_eq_getD_getElem?.symm.trans (hdep ⟨4, .data⟩ (by simp) rfl _ rfl).2
          have c0 := keep_cell hGd HX0.out.1
          have c1 := keep_cell hGd HX0.out.2
          clear hdep
          refine kS_con rfl ?_
          go_simp
        · have d0 : a'.tmps[104]?.getD undef = pcs p.id p.c p.r p.m p.s (.slice agp p.G.length gcp) (.slice amp p.M.length mcp) := Array.getD_eq_getD_getElem?.symm.trans (hdep ⟨0, .data⟩ (by simp) rfl _ rfl).2
          have d1 : a'.tmps[105]?.getD undef = pcs q.id q.c q.r q.m q.s (.slice agq q.G.length gcq) (.slice amq q.M.length mcq) := Array.getD_eq_getD_getElem?.symm.trans (hdep ⟨1, .data⟩ (by simp) rfl _ rfl).2
          have d5 : a'.tmps[109]?.getD undef = st (s : Nat) b := Array.getD_eq_getD_getElem?.symm.trans (hdep ⟨5, .data⟩ (by simp) rfl _ rfl).2
          clear hdep
          refine kS_made_call (f := 27) (args := #[pcs p.id p.c p.r p.m p.s (.slice agp p.G.length gcp) (.slice amp p.M.length mcp), pcs q.id q.c q.r q.m q.s (.slice agq q.G.length gcq) (.slice amq q.M.length mcq), st (s : Nat) b]) rfl ?_ (HM.out W (keep_below HBW.out hGd))
          go_simp
        · obtain ⟨hL6, u6, hv6, hR6⟩ := (hdep ⟨6, .data⟩ (by simp) rfl _ rfl).2
          have d6 : a'.tmps[110]?.getD undef = .tuple #[u6, .int .i64 0] := Array.getD_eq_getD_getElem?.symm.trans hv6
          clear hdep
          refine kS_made (v := .tuple #[u6, .int .i64 0]) rfl (by decide) hL6 ?_ (⟨u6, rfl, hR6⟩)
          go_simp
        · obtain ⟨hL6, u7, hv7, hR7⟩ := (hdep ⟨7, .data⟩ (by simp) rfl _ rfl).2
          have d7 : a'.tmps[103]?.getD undef = .tuple #[u7, .int .i64 0] := Array.getD_eq_getD_getElem?.symm.trans hv7
          clear hdep
          refine kS_made (v := u7) rfl (by decide) hL6 ?_ (hR7)
          go_simp
        · obtain ⟨hL6, u7, hv7, hR7⟩ := (hdep ⟨7, .data⟩ (by simp) rfl _ rfl).2
          have d7 : a'.tmps[103]?.getD undef = .tuple #[u7, .int .i64 0] := Array.getD_eq_getD_getElem?.symm.trans hv7
          clear hdep
          refine kS_con rfl ?_
          go_simp
        · clear hdep
          refine kS_box rfl ?_
          go_simp
        · obtain ⟨hL6, vg8, vm8, hv8, hG8, hM8, hr8, hs8⟩ := (hdep ⟨8, .data⟩ (by simp) rfl _ rfl).2
          have d8 : a'.tmps[111]?.getD undef = pcs D.id D.c D.r D.m D.s vg8 vm8 := Array.getD_eq_getD_getElem?.symm.trans hv8
          obtain ⟨hv10, hh10, hL10⟩ := (hdep ⟨10, .data⟩ (by simp) rfl _ rfl).2
          have d10 : a'.tmps[18]?.getD undef = .pointer (some ⟨(g.r 10).1, 0, none⟩) := Array.getD_eq_getD_getElem?.symm.trans hv10
          clear hdep
          obtain ⟨ag8, gc8, rfl, -⟩ := _root_.id hG8
          obtain ⟨am8, mc8, rfl, -⟩ := _root_.id hM8
          refine ⟨hL6, hL10, rfl, ?_⟩
          intro ob hob hh hX hdis
          obtain rfl := hob _ rfl
          clear hv8 hv10 hh10 hL6 hL10
          generalize (g.r 10).1 = N at d10 hh hX hdis ⊢
          have c0 := cell_of hh (k := 0) rfl
          have c1 := cell_of hh (k := 1) rfl
          have c2 := cell_of hh (k := 2) rfl
          have c3 := cell_of hh (k := 3) rfl
          have c4 := cell_of hh (k := 4) rfl
          have c5 := cell_of hh (k := 5) rfl
          have c6 := cell_of hh (k := 6) rfl
          have f0 : W.frozen? ⟨N, 0, none⟩ = false := frozen_of hh
          have f1 : W.frozen? ⟨N, 1, none⟩ = false := frozen_of hh
          have f2 : W.frozen? ⟨N, 2, none⟩ = false := frozen_of hh
          have f3 : W.frozen? ⟨N, 3, none⟩ = false := frozen_of hh
          have f4 : W.frozen? ⟨N, 4, none⟩ = false := frozen_of hh
          have f5 : W.frozen? ⟨N, 5, none⟩ = false := frozen_of hh
          have f6 : W.frozen? ⟨N, 6, none⟩ = false := frozen_of hh
          refine ⟨_, _, ?_, set7_below hX, ?_, fun b hb => set7_other b hb, set7_heap hh, _, _, rfl, hG8.keeps (X := W0.heap.size) hr8 (fun b hb => set7_other b (by omega)), hM8.keeps (X := W0.heap.size) hs8 (fun b hb => set7_other b (by omega)), hr8, hs8⟩
          · go_simp
          · simp
        · have d9 : a'.tmps[112]?.getD undef = .int .i64 0 := Array.getD_eq_getD_getElem?.symm.trans (hdep ⟨9, .data⟩ (by simp) rfl _ rfl).2
          clear hdep
          refine kS_con rfl ?_
          go_simp
      · intro g W hGd hXg hS
        simp only [List.map_cons, List.map_nil, VQ]
        rintro _ rfl _ rfl _ rfl _ rfl _ rfl _ rfl _ ⟨-, u6, rfl, -⟩ _ ⟨-, u7, rfl, -⟩ _ ⟨-, vg8, vm8, rfl, -⟩ _ rfl _ ⟨rfl, hbox10, -⟩ _ rfl
        simp only [List.setIfInBounds_toArray, List.set_cons_zero, List.set_cons_succ]
        obtain ⟨vg, vm, hob, hGm, hMm, -, -⟩ := hS 11 10 6 _ (by decide) rfl
        obtain ⟨agm, gcm, rfl, -⟩ := _root_.id hGm
        obtain ⟨amm, mcm, rfl, -⟩ := _root_.id hMm
        rw [hob] at hbox10
        have hNX := hXg 10 (by decide)
        clear hS hXg hob
        generalize (g.r 10).1 = N at hbox10 hNX ⊢
        have hBW := Lib.hid (keep_below HBW.out hGd)
        have HBX := Lib.hid (keep_below HB0.out hGd)
        have HBOX := Lib.hid hbox10
        have HGM := Lib.hid hGm
        have HMM := Lib.hid hMm
        have HBK2 := Lib.hid ((hGd.block _ (Array.getElem?_eq_some_iff.1 HBK.out).1).trans HBK.out)
        have c0 := cell_of hbox10 (k := 0) rfl
        have c1 := cell_of hbox10 (k := 1) rfl
        have c2 := cell_of hbox10 (k := 2) rfl
        have c3 := cell_of hbox10 (k := 3) rfl
        have c4 := cell_of hbox10 (k := 4) rfl
        have c5 := cell_of hbox10 (k := 5) rfl
        have c6 := cell_of hbox10 (k := 6) rfl
        clear hbox10 hGm hMm hGd
        simp only [Exit.then]
        go_at_K
        go_wp2_with fail
        refine (HS.out _ _ _ hBW.out HGM.out HMM.out).mono ?_
        rintro e w10 ⟨vf, rfl, hvf, hb⟩
        clear c0 c1 c2 c3 c4 c5 c6
        have hbx := keep_below HBX.out hb
        have HBX2 := Lib.hid hbx
        have hbw := keep_below hBW.out hb
        have HBW2 := Lib.hid hbw
        have hbox := (hb.block _ (Array.getElem?_eq_some_iff.1 HBOX.out).1).trans HBOX.out
        have HBOX2 := Lib.hid hbox
        have HGM2 := Lib.hid (HGM.out.keep hb)
        have HMM2 := Lib.hid (HMM.out.keep hb)
        have hbk2 := (hb.block _ (Array.getElem?_eq_some_iff.1 HBK2.out).1).trans HBK2.out
        obtain ⟨aF, cF, rfl⟩ := SetAt.shape hvf
        have HVF := Lib.hid hvf
        have CB := among_at w10 (HVB.out.keep HBX2.out) hB2.out (IV s b) b KI.out.1
        rw [← hAB.out, HAn.out] at CB
        have k0 := cell_of hbk2 (k := 0) rfl
        have k1 := cell_of hbk2 (k := 1) rfl
        clear hb hvf hbx hbw hbox hbk2 HBX hBW HBOX HGM HMM HBK2
        go_wp2_with fail
        refine CB.mono ?_
        rintro e w11 ⟨rfl, hb⟩
        clear k0 k1 CB
        have HBX3 := Lib.hid (keep_below HBX2.out hb)
        have HBW3 := Lib.hid (keep_below HBW2.out hb)
        have hbox3 := (hb.block _ (Array.getElem?_eq_some_iff.1 HBOX2.out).1).trans HBOX2.out
        have HGM3 := Lib.hid (HGM2.out.keep hb)
        have HMM3 := Lib.hid (HMM2.out.keep hb)
        have HVF3 := Lib.hid (HVF.out.keep hb)
        have c0 := cell_of hbox3 (k := 0) rfl
        have c1 := cell_of hbox3 (k := 1) rfl
        have c2 := cell_of hbox3 (k := 2) rfl
        have c3 := cell_of hbox3 (k := 3) rfl
        have c4 := cell_of hbox3 (k := 4) rfl
        have c5 := cell_of hbox3 (k := 5) rfl
        have c6 := cell_of hbox3 (k := 6) rfl
        clear hbox3 hb HBX2 HBW2 HBOX2 HGM2 HMM2 HVF
        go_wp2_with fail
        refine (HV.out _ _ _ HGM3.out HMM3.out).mono ?_
        rintro e w12 ⟨rfl, hb⟩
        clear c0 c1 c2 c3 c4 c5 c6
        have HBX4 := Lib.hid (keep_below HBX3.out hb)
        have HBW4 := Lib.hid (keep_below HBW3.out hb)
        have HVF4 := Lib.hid (HVF3.out.keep hb)
        clear hb HBX3 HBW3 HGM3 HMM3 HVF3
        obtain ⟨m, hm⟩ : ∃ m, (FS s b).length = m := ⟨_, rfl⟩
        rw [hm]
        have HMl := Lib.hid hm
        have hm1000 : m ≤ 1000 := by have := HFS.out s b HMEM.out; omega
        clear hm
        go_wp2_with fail
        go_loopw [22] (fun i wr => ∃ k2 : Nat, k2 ≤ m ∧ i = .int .i64 k2 ∧ Below w12.heap.size w12 wr) (fun i _ => m - (intOf i).toNat)
        case atStart => exact ⟨0, Nat.zero_le _, rfl, Below.refl _ _⟩
        case round =>
          obtain ⟨k2, hk2, rfl, hbel⟩ := hrel
          by_cases hlt2 : k2 < m
          · have j2 : (k2 : Int) < (m : Int) := by omega
            obtain ⟨⟨t, c⟩, hx⟩ : ∃ p, (FS s b)[k2]? = some p := ⟨_, List.getElem?_eq_getElem (by rw [HMl.out]; exact hlt2)⟩
            have hmem := List.mem_of_getElem? hx
            obtain ⟨gF, rfl, x0, x1⟩ := HVF4.out.pos hx
            have HC := HCMP.out s b HMEM.out t c hmem
            have H1 := HF1.out s b HMEM.out t c hmem
            have H2 := HF2.out s b HMEM.out t c hmem
            obtain ⟨d, hd⟩ : ∃ d, (b != c) = d := ⟨_, rfl⟩
            obtain ⟨ld, hld⟩ : ∃ ld, LD s b t c = ld := ⟨_, rfl⟩
            rw [hd, hld] at HC H1
            replace HC := Lib.hid HC
            replace H1 := Lib.hid H1
            replace H2 := Lib.hid H2
            have HXF := Lib.hid (And.intro (keep_cell hbel x0) (keep_cell hbel x1))
            have hbx := keep_below HBX4.out hbel
            have HXA := Lib.hid (And.intro (keep_cell hbx HX.out.1) (keep_cell hbx HX.out.2))
            have HBX5 := Lib.hid hbx
            have HBW5 := Lib.hid (keep_below HBW4.out hbel)
            have HK1 := Lib.hid j1
            have HK2 := Lib.hid j2
            have HBE := Lib.hid hbel
            clear hx hmem x0 x1 hd hld hbx hbel
            go_wp2_with fail
            refine wp_region_boxes [.con (.slice (some ⟨gA, 0, none⟩) n cA), .con (.int .i64 (k : Nat)), .con (.pointer (some ⟨gA, k * 2, none⟩)), .con (st (s : Nat) b), .con (.slice (some ⟨gF, 0, none⟩) m cF), .con (.int .i64 (k2 : Nat)), .con (.pointer (some ⟨gF, k2 * 2, none⟩)), .con (st (t : Nat) c), .con (.int .i64 (p.G.length : Nat)), .con (.tuple #[st (ld : Nat) d, .int .i64 0]), .con (.tuple #[st (ld : Nat) d, .int .i64 0]), .con (st (ld : Nat) d), .con (.int .i64 0), .box (.cells #[.int .i64 0, .bool false] 28), .sto 13 11 (fun ob _ _ _ => ob = .cells #[.int .i64 (ld : Nat), .bool d] 28 (0, 0)), .con (.int .i64 0)] (by kernel_rfl) (by kernel_rfl) rfl ?_ ?_ ?_
            · repeat' (first | exact fun x hx => absurd hx List.not_mem_nil | refine List.forall_mem_cons.2 ⟨?_, ?_⟩)
              all_goals first | exact trivial | exact fun _ _ _ _ _ _ h => h
            · intro i o ho g a' W hGd hfr hdep
              have f8 : a'.tmps[8]?.getD undef = .slice (some ⟨gA, 0, none⟩) n cA := Array.getD_eq_getD_getElem?.symm.trans (hfr 8 rfl)
              have f15 : a'.tmps[15]?.getD undef = .int .i64 (k : Nat) := Array.getD_eq_getD_getElem?.symm.trans (hfr 15 rfl)
              have f20 : a'.tmps[20]?.getD undef = .slice (some ⟨gF, 0, none⟩) m cF := Array.getD_eq_getD_getElem?.symm.trans (hfr 20 rfl)
              have f22 : a'.tmps[22]?.getD undef = .int .i64 (k2 : Nat) := Array.getD_eq_getD_getElem?.symm.trans (hfr 22 rfl)
              have f14 : a'.tmps[14]?.getD undef = .int .i64 (p.G.length : Nat) := Array.getD_eq_getD_getElem?.symm.trans (hfr 14 rfl)
              clear hfr
              have hi : i < 16 := by have := (List.getElem?_eq_some_iff.1 ho).1; simpa using this
              obtain rfl | rfl | rfl | rfl | rfl | rfl | rfl | rfl | rfl | rfl | rfl | rfl | rfl | rfl | rfl | rfl : i = 0 ∨ i = 1 ∨ i = 2 ∨ i = 3 ∨ i = 4 ∨ i = 5 ∨ i = 6 ∨ i = 7 ∨ i = 8 ∨ i = 9 ∨ i = 10 ∨ i = 11 ∨ i = 12 ∨ i = 13 ∨ i = 14 ∨ i = 15 := by omega
              all_goals simp only [List.getElem?_cons_zero, List.getElem?_cons_succ, Option.some.injEq] at ho
              all_goals subst ho
              · clear hdep
                refine kS_con rfl ?_
                go_simp
              · clear hdep
                refine kS_con rfl ?_
                go_simp
              · have d0 : a'.tmps[147]?.getD undef = .slice (some ⟨gA, 0, none⟩) n cA := Array.getD_eq_getD_getElem?.symm.trans (hdep ⟨0, .data⟩ (by simp) rfl _ rfl).2
                have d1 : a'.tmps[148]?.getD undef = .int .i64 (k : Nat) := Array.getD_eq_getD_getElem?.symm.trans (hdep ⟨1, .data⟩ (by simp) rfl _ rfl).2
                have i1 : (k : Int) < (n : Int) := HK1.out
                clear hdep
                refine kS_con rfl ?_
                go_simp
              · have d2 : a'.tmps[149]?.getD undef = .pointer (some ⟨gA, k * 2, none⟩) := Array.getD_eq_getD_getElem?.symm.trans (hdep ⟨2, .data⟩ (by simp) rfl _ rfl).2
                have c0 := keep_cell hGd HXA.out.1
                have c1 := keep_cell hGd HXA.out.2
                clear hdep
                refine kS_con rfl ?_
                go_simp
              · clear hdep
                refine kS_con rfl ?_
                go_simp
              · clear hdep
                refine kS_con rfl ?_
                go_simp
              · have d4 : a'.tmps[151]?.getD undef = .slice (some ⟨gF, 0, none⟩) m cF := Array.getD_eq_getD_getElem?.symm.trans (hdep ⟨4, .data⟩ (by simp) rfl _ rfl).2
                have d5 : a'.tmps[152]?.getD undef = .int .i64 (k2 : Nat) := Array.getD_eq_getD_getElem?.symm.trans (hdep ⟨5, .data⟩ (by simp) rfl _ rfl).2
                have i1 : (k2 : Int) < (m : Int) := HK2.out
                clear hdep
                refine kS_con rfl ?_
                go_simp
              · have d6 : a'.tmps[153]?.getD undef = .pointer (some ⟨gF, k2 * 2, none⟩) := Array.getD_eq_getD_getElem?.symm.trans (hdep ⟨6, .data⟩ (by simp) rfl _ rfl).2
                have c0 := keep_cell hGd HXF.out.1
                have c1 := keep_cell hGd HXF.out.2
                clear hdep
                refine kS_con rfl ?_
                go_simp
              · clear hdep
                refine kS_con rfl ?_
                go_simp
              · have d3 : a'.tmps[150]?.getD undef = st (s : Nat) b := Array.getD_eq_getD_getElem?.symm.trans (hdep ⟨3, .data⟩ (by simp) rfl _ rfl).2
                have d7 : a'.tmps[154]?.getD undef = st (t : Nat) c := Array.getD_eq_getD_getElem?.symm.trans (hdep ⟨7, .data⟩ (by simp) rfl _ rfl).2
                have d8 : a'.tmps[155]?.getD undef = .int .i64 (p.G.length : Nat) := Array.getD_eq_getD_getElem?.symm.trans (hdep ⟨8, .data⟩ (by simp) rfl _ rfl).2
                clear hdep
                refine kS_call (f := 37) (args := #[st (s : Nat) b, st (t : Nat) c, .int .i64 (p.G.length : Nat)]) rfl ?_ (HC.out W)
                go_simp
              · have d9 : a'.tmps[156]?.getD undef = .tuple #[st (ld : Nat) d, .int .i64 0] := Array.getD_eq_getD_getElem?.symm.trans (hdep ⟨9, .data⟩ (by simp) rfl _ rfl).2
                clear hdep
                refine kS_con rfl ?_
                go_simp
              · have d10 : a'.tmps[146]?.getD undef = .tuple #[st (ld : Nat) d, .int .i64 0] := Array.getD_eq_getD_getElem?.symm.trans (hdep ⟨10, .data⟩ (by simp) rfl _ rfl).2
                clear hdep
                refine kS_con rfl ?_
                go_simp
              · have d10 : a'.tmps[146]?.getD undef = .tuple #[st (ld : Nat) d, .int .i64 0] := Array.getD_eq_getD_getElem?.symm.trans (hdep ⟨10, .data⟩ (by simp) rfl _ rfl).2
                clear hdep
                refine kS_con rfl ?_
                go_simp
              · clear hdep
                refine kS_box rfl ?_
                go_simp
              · have d11 : a'.tmps[157]?.getD undef = st (ld : Nat) d := Array.getD_eq_getD_getElem?.symm.trans (hdep ⟨11, .data⟩ (by simp) rfl _ rfl).2
                obtain ⟨hv13, hh13, hL13⟩ := (hdep ⟨13, .data⟩ (by simp) rfl _ rfl).2
                have d13 : a'.tmps[23]?.getD undef = .pointer (some ⟨(g.r 13).1, 0, none⟩) := Array.getD_eq_getD_getElem?.symm.trans hv13
                have hL11 := (hdep ⟨11, .data⟩ (by simp) rfl _ rfl).1
                clear hdep
                refine ⟨hL11, hL13, rfl, ?_⟩
                intro ob hob hh hX hdis
                obtain rfl := hob _ rfl
                clear hv13 hh13 hL11 hL13
                generalize (g.r 13).1 = N2 at d13 hh hX ⊢
                have c0 := cell_of hh (k := 0) rfl
                have c1 := cell_of hh (k := 1) rfl
                have f0 : W.frozen? ⟨N2, 0, none⟩ = false := frozen_of hh
                have f1 : W.frozen? ⟨N2, 1, none⟩ = false := frozen_of hh
                refine ⟨_, _, ?_, set2_below hX, ?_, fun b hb => set2_other b hb, set2_heap hh, rfl⟩
                · go_simp
                · simp
              · have d12 : a'.tmps[158]?.getD undef = .int .i64 0 := Array.getD_eq_getD_getElem?.symm.trans (hdep ⟨12, .data⟩ (by simp) rfl _ rfl).2
                clear hdep
                refine kS_con rfl ?_
                go_simp
            · intro g W hGd hXg hS
              simp only [List.map_cons, List.map_nil, VQ]
              rintro _ rfl _ rfl _ rfl _ rfl _ rfl _ rfl _ rfl _ rfl _ rfl _ rfl _ rfl _ rfl _ rfl _ ⟨rfl, hbox13, -⟩ _ rfl
              simp only [List.setIfInBounds_toArray, List.set_cons_zero, List.set_cons_succ]
              have hob : g.ob 13 = .cells #[.int .i64 (ld : Nat), .bool d] 28 (0, 0) := hS 14 13 11 _ (by decide) rfl
              rw [hob] at hbox13
              clear hS hXg hob
              generalize (g.r 13).1 = N2 at hbox13 ⊢
              have hbx := keep_below HBX5.out hGd
              have HBX6 := Lib.hid hbx
              have HBW6 := Lib.hid (keep_below HBW5.out hGd)
              have HBE6 := Lib.hid (keep_below HBE.out hGd)
              have hpw := (hbx.block _ (Array.getElem?_eq_some_iff.1 HP.out).1).trans HP.out
              have c0 := cell_of hpw (k := 0) rfl
              have c1 := cell_of hpw (k := 1) rfl
              have c2 := cell_of hpw (k := 2) rfl
              have c3 := cell_of hpw (k := 3) rfl
              have c4 := cell_of hpw (k := 4) rfl
              have c5 := cell_of hpw (k := 5) rfl
              have c6 := cell_of hpw (k := 6) rfl
              have k0 := cell_of hbox13 (k := 0) rfl
              have k1 := cell_of hbox13 (k := 1) rfl
              have HXF6 := Lib.hid (And.intro (keep_cell hGd HXF.out.1) (keep_cell hGd HXF.out.2))
              clear hpw hbox13 hbx hGd HBX5 HBW5 HBE
              simp only [Exit.then]
              go_at_K
              go_wp2_with fail
              refine (H1.out _ HBW6.out).mono ?_
              rintro e w13 ⟨rfl, hb⟩
              clear c0 c1 c2 c3 c4 c5 c6 k0 k1
              have hbx := keep_below HBX6.out hb
              have HBX7 := Lib.hid hbx
              have HBW7 := Lib.hid (keep_below HBW6.out hb)
              have HBE7 := Lib.hid (keep_below HBE6.out hb)
              have HQ7 := Lib.hid ((hbx.block _ (Array.getElem?_eq_some_iff.1 HQ.out).1).trans HQ.out)
              have HXF7 := Lib.hid (And.intro (keep_cell hb HXF6.out.1) (keep_cell hb HXF6.out.2))
              clear hb hbx HBX6 HBW6 HBE6
              go_wp2_with fail
              refine wp_region_boxes [.con (pcs q.id q.c q.r q.m q.s (.slice agq q.G.length gcq) (.slice amq q.M.length mcq)), .con (.slice la ln lcap), .con (.slice (some ⟨gF, 0, none⟩) m cF), .con (.int .i64 (k2 : Nat)), .con (.pointer (some ⟨gF, k2 * 2, none⟩)), .con (st (t : Nat) c), .con (.tuple #[.bool true, .int .i64 0]), .con (.tuple #[.bool true, .int .i64 0]), .con (.bool true), .con (.int .i64 0), .con (.bool true), .con (.int .i64 0)] (by kernel_rfl) (by kernel_rfl) rfl ?_ ?_ ?_
              · repeat' (first | exact fun x hx => absurd hx List.not_mem_nil | refine List.forall_mem_cons.2 ⟨?_, ?_⟩)
                all_goals first | exact trivial | exact fun _ _ _ _ _ _ h => h
              · intro i o ho g a' W hGd hfr hdep
                have f4 : a'.tmps[4]?.getD undef = .pointer (some ⟨w.heap.size + 1, 0, none⟩) := Array.getD_eq_getD_getElem?.symm.trans (hfr 4 rfl)
                have f2 : a'.tmps[2]?.getD undef = .slice la ln lcap := Array.getD_eq_getD_getElem?.symm.trans (hfr 2 rfl)
                have f20 : a'.tmps[20]?.getD undef = .slice (some ⟨gF, 0, none⟩) m cF := Array.getD_eq_getD_getElem?.symm.trans (hfr 20 rfl)
                have f22 : a'.tmps[22]?.getD undef = .int .i64 (k2 : Nat) := Array.getD_eq_getD_getElem?.symm.trans (hfr 22 rfl)
                clear hfr
                have hi : i < 12 := by have := (List.getElem?_eq_some_iff.1 ho).1; simpa using this
                obtain rfl | rfl | rfl | rfl | rfl | rfl | rfl | rfl | rfl | rfl | rfl | rfl : i = 0 ∨ i = 1 ∨ i = 2 ∨ i = 3 ∨ i = 4 ∨ i = 5 ∨ i = 6 ∨ i = 7 ∨ i = 8 ∨ i = 9 ∨ i = 10 ∨ i = 11 := by omega
                all_goals simp only [List.getElem?_cons_zero, List.getElem?_cons_succ, Option.some.injEq] at ho
                all_goals subst ho
                · have hpw := (hGd.block _ (Array.getElem?_eq_some_iff.1 HQ7.out).1).trans HQ7.out
                  have c0 := cell_of hpw (k := 0) rfl
                  have c1 := cell_of hpw (k := 1) rfl
                  have c2 := cell_of hpw (k := 2) rfl
                  have c3 := cell_of hpw (k := 3) rfl
                  have c4 := cell_of hpw (k := 4) rfl
                  have c5 := cell_of hpw (k := 5) rfl
                  have c6 := cell_of hpw (k := 6) rfl
                  clear hpw
                  clear hdep
                  refine kS_con rfl ?_
                  go_simp
                · clear hdep
                  refine kS_con rfl ?_
                  go_simp
                · clear hdep
                  refine kS_con rfl ?_
                  go_simp
                · clear hdep
                  refine kS_con rfl ?_
                  go_simp
                · have d2 : a'.tmps[169]?.getD undef = .slice (some ⟨gF, 0, none⟩) m cF := Array.getD_eq_getD_getElem?.symm.trans (hdep ⟨2, .data⟩ (by simp) rfl _ rfl).2
                  have d3 : a'.tmps[170]?.getD undef = .int .i64 (k2 : Nat) := Array.getD_eq_getD_getElem?.symm.trans (hdep ⟨3, .data⟩ (by simp) rfl _ rfl).2
                  have i1 : (k2 : Int) < (m : Int) := HK2.out
                  clear hdep
                  refine kS_con rfl ?_
                  go_simp
                · have d4 : a'.tmps[171]?.getD undef = .pointer (some ⟨gF, k2 * 2, none⟩) := Array.getD_eq_getD_getElem?.symm.trans (hdep ⟨4, .data⟩ (by simp) rfl _ rfl).2
                  have c0 := keep_cell hGd HXF7.out.1
                  have c1 := keep_cell hGd HXF7.out.2
                  clear hdep
                  refine kS_con rfl ?_
                  go_simp
                · have d0 : a'.tmps[167]?.getD undef = pcs q.id q.c q.r q.m q.s (.slice agq q.G.length gcq) (.slice amq q.M.length mcq) := Array.getD_eq_getD_getElem?.symm.trans (hdep ⟨0, .data⟩ (by simp) rfl _ rfl).2
                  have d1 : a'.tmps[168]?.getD undef = .slice la ln lcap := Array.getD_eq_getD_getElem?.symm.trans (hdep ⟨1, .data⟩ (by simp) rfl _ rfl).2
                  have d5 : a'.tmps[172]?.getD undef = st (t : Nat) c := Array.getD_eq_getD_getElem?.symm.trans (hdep ⟨5, .data⟩ (by simp) rfl _ rfl).2
                  clear hdep
                  refine kS_call (f := 12) (args := #[pcs q.id q.c q.r q.m q.s (.slice agq q.G.length gcq) (.slice amq q.M.length mcq), .slice la ln lcap, st (t : Nat) c]) rfl ?_ (H2.out W (keep_below HBW7.out hGd))
                  go_simp
                · have d6 : a'.tmps[173]?.getD undef = .tuple #[.bool true, .int .i64 0] := Array.getD_eq_getD_getElem?.symm.trans (hdep ⟨6, .data⟩ (by simp) rfl _ rfl).2
                  clear hdep
                  refine kS_con rfl ?_
                  go_simp
                · have d7 : a'.tmps[166]?.getD undef = .tuple #[.bool true, .int .i64 0] := Array.getD_eq_getD_getElem?.symm.trans (hdep ⟨7, .data⟩ (by simp) rfl _ rfl).2
                  clear hdep
                  refine kS_con rfl ?_
                  go_simp
                · have d7 : a'.tmps[166]?.getD undef = .tuple #[.bool true, .int .i64 0] := Array.getD_eq_getD_getElem?.symm.trans (hdep ⟨7, .data⟩ (by simp) rfl _ rfl).2
                  clear hdep
                  refine kS_con rfl ?_
                  go_simp
                · have d8 : a'.tmps[174]?.getD undef = .bool true := Array.getD_eq_getD_getElem?.symm.trans (hdep ⟨8, .data⟩ (by simp) rfl _ rfl).2
                  clear hdep
                  refine kS_con rfl ?_
                  go_simp
                · have d9 : a'.tmps[175]?.getD undef = .int .i64 0 := Array.getD_eq_getD_getElem?.symm.trans (hdep ⟨9, .data⟩ (by simp) rfl _ rfl).2
                  clear hdep
                  refine kS_con rfl ?_
                  go_simp
              · intro g W hGd hXg hS
                simp only [List.map_cons, List.map_nil, VQ]
                rintro _ rfl _ rfl _ rfl _ rfl _ rfl _ rfl _ rfl _ rfl _ rfl _ rfl _ rfl _ rfl
                simp only [List.setIfInBounds_toArray, List.set_cons_zero, List.set_cons_succ]
                clear hS hXg
                have hbe := keep_below HBE7.out hGd
                clear hGd
                simp only [Exit.then]
                go_at_K
                go_wp2
                exact ⟨⟨k2 + 1, by omega, by simp, hbe⟩, by simp [intOf]; omega⟩
          · obtain rfl : k2 = m := by omega
            have hbe := keep_below HBX4.out hbel
            go_wp2
            exact ⟨⟨k + 1, by omega, by simp, hbe⟩, by simp [intOf]; omega⟩
    · obtain rfl : k = n := by omega
      have hbe := keep_below HB1.out hbel
      go_wp2
      go_ret
      exact ⟨rfl, hbe⟩

end Go.Proofs.YtiommdfelnkibaaGreat

/- GlassOne: law 9 for every two pieces and every outline. -/
namespace Go.Proofs.YtiommdfelnkibaaGreat
open Go Go.RowKit Go.Proofs Go.Abs

theorem oneLaw_any (p q : PcD) (L : List (Int × Int)) (vg vm vg' vm' pv : Value) (w : World) (hG : SlG w vg p.G) (hM : SlM w vm p.M) (hG' : SlG w vg' q.G) (hM' : SlM w vm' q.M) (hL : SlV w pv L) :
    Calls Tryz.prog 9 #[pcs p.id p.c p.r p.m p.s vg vm, pcs q.id q.c q.r q.m q.s vg' vm', pv] w fun e w' => e = .returned (.bool true) ∧ Below w.heap.size w w' := by
  obtain ⟨agp, gcp, rfl, -⟩ := _root_.id hG
  obtain ⟨amp, mcp, rfl, -⟩ := _root_.id hM
  obtain ⟨agq, gcq, rfl, -⟩ := _root_.id hG'
  obtain ⟨amq, mcq, rfl, -⟩ := _root_.id hM'
  obtain ⟨la, ln, lcap, hpv⟩ : ∃ la ln lcap, pv = .slice la ln lcap := by
    obtain ⟨a, cap, rfl, -⟩ := _root_.id hL
    exact ⟨_, _, _, rfl⟩
  have K1 := fun W (hW : Below w.heap.size w W) => refValidPiece_any p.id p.c p.r p.m p.s _ _ p.G p.M W (hG.keep hW) (hM.keep hW)
  have K2 := fun W (hW : Below w.heap.size w W) => refValidPiece_any q.id q.c q.r q.m q.s _ _ q.G q.M W (hG'.keep hW) (hM'.keep hW)
  have K3 := fun W (hW : Below w.heap.size w W) => refOut_sl (hL.keep hW)
  have e1 : vP p.id p.c p.r p.m p.s p.G p.M = p.ok := rfl
  have e2 : vP q.id q.c q.r q.m q.s q.G q.M = q.ok := rfl
  rw [e1] at K1
  rw [e2] at K2
  cases hc : (p.ok && q.ok && vOut L)
  · exact oneLaw_bad p q pv la ln lcap hpv agp amp agq amq gcp mcp gcq mcq w p.ok q.ok (vOut L) hc (Lib.hid K1) (Lib.hid K2) (Lib.hid K3)
  · simp only [Bool.and_eq_true] at hc
    obtain ⟨⟨hp, hq⟩, ho⟩ := hc
    rw [hp] at K1
    rw [hq] at K2
    rw [ho] at K3
    subst hpv
    have eA : agE p q = 0 := by unfold agE; rw [if_pos ⟨hp, hq⟩]
    have eB : agE q p = 0 := by unfold agE; rw [if_pos ⟨hq, hp⟩]
    have eO : agE p p = 0 := by unfold agE; rw [if_pos ⟨hp, hp⟩]
    refine oneLaw_good p q la ln lcap agp amp agq amq gcp mcp gcq mcq w (agS p q) (agS q p) (agS p p) (iv p.G.length) (fun s b => mgD (rsD p s b) q) (fun s b => setsV true (mgD (rsD p s b) q).G L) (fun s _ t c => ld p.G.length t c s)
      (Lib.hid (agS_len_eq p q)) (agS_len p q) (Lib.hid (agS_len q p)) (agS_self hp) (agS_len p p) (Lib.hid K1) (Lib.hid K2) (Lib.hid K3) (Lib.hid ?_) (Lib.hid ?_) (Lib.hid ?_) (Lib.hid ?_) (Lib.hid ?_) (Lib.hid ?_) (Lib.hid ?_) (Lib.hid ?_) (Lib.hid ?_) (Lib.hid ?_) (Lib.hid ?_)
    · intro W hW
      have := agree25_any p q _ _ _ _ W (hG.keep hW) (hM.keep hW) (hG'.keep hW) (hM'.keep hW)
      rwa [eA] at this
    · intro W hW
      have := agree25_any q p _ _ _ _ W (hG'.keep hW) (hM'.keep hW) (hG.keep hW) (hM.keep hW)
      rwa [eB] at this
    · intro W hW
      have := agree25_any p p _ _ _ _ W (hG.keep hW) (hM.keep hW) (hG.keep hW) (hM.keep hW)
      rwa [eO] at this
    · intro s b hm
      obtain ⟨h1, h2⟩ := agS_back hm
      refine ⟨h2, fun W => ?_⟩
      have := inverse_any (s : Int) (p.G.length : Int) b W (agS_merge hm).1
      rwa [h1] at this
    · intro s b hm W hW
      obtain ⟨h1, h2, h3, h4, h5⟩ := agS_merge hm
      have := merge27_any p q (s : Int) b _ _ _ _ W (hG.keep hW) (hM.keep hW) (hG'.keep hW) (hM'.keep hW)
      rw [h2, h3] at this
      refine this.mono ?_
      rintro e w' ⟨v, rfl, hv, hb⟩
      exact ⟨_, rfl, ⟨v, rfl, hv.toR⟩, hb⟩
    · intro s b hm W vg vm hW h1 h2
      have hok := (agS_merge hm).2.2.2.1
      have := settings14_any (mgD (rsD p s b) q).id (mgD (rsD p s b) q).c (mgD (rsD p s b) q).r (mgD (rsD p s b) q).m (mgD (rsD p s b) q).s vg vm (.slice la ln lcap) _ _ L W h1 h2 (hL.keep hW)
      have e : vP (mgD (rsD p s b) q).id (mgD (rsD p s b) q).c (mgD (rsD p s b) q).r (mgD (rsD p s b) q).m (mgD (rsD p s b) q).s (mgD (rsD p s b) q).G (mgD (rsD p s b) q).M = true := hok
      have e4 : setsE true L = 0 := by unfold setsE; simp [ho]
      rwa [e, e4] at this
    · intro s b hm W vg vm h1 h2
      have hok := (agS_merge hm).2.2.2.1
      have := validPiece_any (mgD (rsD p s b) q).id (mgD (rsD p s b) q).c (mgD (rsD p s b) q).r (mgD (rsD p s b) q).m (mgD (rsD p s b) q).s vg vm _ _ W h1 h2
      have e : vP (mgD (rsD p s b) q).id (mgD (rsD p s b) q).c (mgD (rsD p s b) q).r (mgD (rsD p s b) q).m (mgD (rsD p s b) q).s (mgD (rsD p s b) q).G (mgD (rsD p s b) q).M = true := hok
      rwa [e] at this
    · intro s b _
      exact setsV_len _ _ _
    · intro s b hm t c hf W
      obtain ⟨h1, h2, -⟩ := agS_fits hm hf
      have := compose_any (s : Int) (t : Int) (p.G.length : Int) b c W (agS_merge hm).1 h1
      rwa [h2] at this
    · intro s b hm t c hf W hW
      obtain ⟨-, -, h3, h4, -, -⟩ := agS_fits hm hf
      have := fits12_any p.id p.c p.r p.m p.s _ _ (.slice la ln lcap) p.G p.M L (ld p.G.length t c s : Nat) (b != c) W (hG.keep hW) (hM.keep hW) (hL.keep hW)
      rwa [e1, h3, h4] at this
    · intro s b hm t c hf W hW
      obtain ⟨-, -, -, -, h5, h6⟩ := agS_fits hm hf
      have := fits12_any q.id q.c q.r q.m q.s _ _ (.slice la ln lcap) q.G q.M L (t : Nat) c W (hG'.keep hW) (hM'.keep hW) (hL.keep hW)
      rwa [e2, h5, h6] at this

end Go.Proofs.YtiommdfelnkibaaGreat
