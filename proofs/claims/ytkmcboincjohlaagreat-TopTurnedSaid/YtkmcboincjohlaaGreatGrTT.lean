/- The abstract machine, part GrTT. -/
import Derived.Test.YtkmcboincjohlaaGreatZA
import Derived.Test.YtkmcboincjohlaaGreatGrRH
import Derived.Test.YtkmcboincjohlaaGreatGrLP
import Derived.Test.YtkmcboincjohlaaGreatGrTB
/- A piece described again from a setting that fits (plain): what the law TopTurned says of it. -/
namespace Go.Proofs.YtkmcboincjohlaaGreat
open Go Go.RowKit Go.Proofs Go.Abs

theorem PcD.ext' {a b : PcD} (h1 : a.id = b.id) (h2 : a.c = b.c) (h3 : a.r = b.r) (h4 : a.m = b.m) (h5 : a.s = b.s) (h6 : a.G = b.G) (h7 : a.M = b.M) : a = b := by
  obtain ⟨_, _, _, _, _, _, _⟩ := a
  obtain ⟨_, _, _, _, _, _, _⟩ := b
  simp only at h1 h2 h3 h4 h5 h6 h7
  subst h1 h2 h3 h4 h5 h6 h7
  rfl

theorem ok_parts {d : PcD} (h : d.ok = true) : (3 ≤ d.G.length ∧ d.G.length ≤ 24) ∧ vGs d.G = true ∧ vMs 0 ((d.G.length : Int) - 1) d.M = true := by
  obtain ⟨h1, h2⟩ := vP_marks h
  have h3 := vGs_ok h1
  exact ⟨⟨h3.1, h3.2.1⟩, h1, h2⟩

theorem rsD_ok {d : PcD} {s : Nat} (b : Bool) (h : d.ok = true) (hs : s < d.G.length) : (rsD d s b).ok = true := by
  obtain ⟨-, hg, hm⟩ := ok_parts h
  have g2 := layL_ok d.G b hg hs
  have m2 := shM_ok (s := (s : Int)) b (by omega) (by omega) hm
  unfold PcD.ok vP rsD at *
  simp only [Bool.and_eq_true] at h ⊢
  obtain ⟨⟨⟨⟨⟨⟨i1, i2⟩, i3⟩, i4⟩, i5⟩, i6⟩, i7⟩ := h
  rw [layL_len]
  cases b
  · exact ⟨⟨⟨⟨⟨⟨i1, i2⟩, i3⟩, i4⟩, i5⟩, g2⟩, m2⟩
  · exact ⟨⟨⟨⟨⟨⟨i1, i3⟩, i2⟩, i4⟩, i5⟩, g2⟩, m2⟩

theorem rsD_len (d : PcD) (s : Nat) (b : Bool) : (rsD d s b).G.length = d.G.length := layL_len _ _ _ _

theorem rsD_zero {d : PcD} (h : d.ok = true) : rsD d 0 false = d := by
  obtain ⟨-, -, hm⟩ := ok_parts h
  refine PcD.ext' rfl rfl rfl rfl rfl ?_ ?_
  · exact layL_zero d.G rfl
  · exact shM_zero (vMs_rises hm) (vMs_range hm)

theorem resD_ok {d : PcD} {sh : Int} (b : Bool) (h : d.ok = true) (hs : vset sh d.G.length = true) : resD d sh b = rsD d sh.toNat b := by
  unfold resD
  rw [if_pos (by rw [h, hs]; rfl)]

theorem vset_of {s n : Nat} (h3 : 3 ≤ n ∧ n ≤ 24) (h : s < n) : vset (s : Nat) (n : Nat) = true := by
  simp only [vset, Bool.and_eq_true, decide_eq_true_eq]
  omega

theorem fits_zero {d : PcD} {L : List (Int × Int)} {s : Nat} {b : Bool} (hs : s < d.G.length) (hn : d.G.length = L.length) (h : fitP d.G L L.length s b = true) : fitP (rsD d s b).G L L.length 0 false = true := by
  show fitP (layL d.G d.G.length s b) L L.length 0 false = true
  rw [hn] at hs ⊢
  rw [fit_lay d.G L b false hs (by omega)]
  have e : ld L.length 0 false s = s := by
    have := layL_lay d.G (n := L.length) (s := s) (t := 0) (x := 0) b false hs (by omega) (by omega)
    unfold ld fw
    simp only [Bool.false_eq_true, if_false]
    first | omega | (rw [Nat.add_zero, Nat.mod_eq_of_lt hs]) | (rw [Nat.zero_add, Nat.mod_eq_of_lt hs]) | (simp; omega)
  rw [e]
  cases b <;> exact h

/-- What the law asks of each setting of the list. -/
theorem turned_facts {d : PcD} {L : List (Int × Int)} {s : Nat} {b : Bool} (hm : (s, b) ∈ setsV d.ok d.G L) :
    d.ok = true ∧ vset (s : Int) d.G.length = true ∧ resD d s b = rsD d s b ∧ (rsD d s b).ok = true ∧ vset 0 (rsD d s b).G.length = true ∧
      fitsV (rsD d s b).ok (rsD d s b).G L 0 false = true ∧ fitsE (rsD d s b).ok (rsD d s b).G L 0 = 0 ∧ resD (rsD d s b) 0 false = rsD d s b := by
  unfold setsV at hm
  split at hm
  · rename_i hc
    obtain ⟨hok, hv, hn⟩ := hc
    rw [List.mem_filter] at hm
    have hs : s < d.G.length := by rw [hn]; exact allS_lt _ hm.1
    obtain ⟨h3, -, -⟩ := ok_parts hok
    have hq := rsD_ok b hok hs
    have v1 : vset (s : Int) d.G.length = true := vset_of h3 hs
    have v2 : vset 0 (rsD d s b).G.length = true := by
      rw [rsD_len]
      exact vset_of (s := 0) h3 (by omega)
    have hf := fits_zero hs hn hm.2
    refine ⟨hok, v1, resD_ok (sh := (s : Int)) b hok v1, hq, v2, ?_, ?_, ?_⟩
    · unfold fitsV
      rw [hq, v2, hv, rsD_len, hn]
      simpa using hf
    · unfold fitsE
      rw [if_pos hq, if_pos ⟨v2, hv⟩]
    · rw [resD_ok (sh := 0) false hq v2]
      exact rsD_zero hq
  · cases hm

end Go.Proofs.YtkmcboincjohlaaGreat

/- The law TopTurned: pieces and marks that lie in a range of blocks. -/
namespace Go.Proofs.YtkmcboincjohlaaGreat
open Go Go.RowKit Go.Proofs Go.Abs

def Rg (lo hi : Nat) (v : Value) : Prop := ∀ a n c, v = .slice (some a) (n + 1) c → lo ≤ a.block ∧ a.block < hi

/-- The piece D as a value whose lists lie in the blocks from lo to hi. -/
def PcR (D : PcD) (v : Value) (lo hi : Nat) (W : World) : Prop := ∃ vg vm, v = pcs D.id D.c D.r D.m D.s vg vm ∧ SlG W vg D.G ∧ SlM W vm D.M ∧ Rg lo hi vg ∧ Rg lo hi vm
def PcT (D : PcD) (v : Value) (lo hi : Nat) (W : World) : Prop := ∃ u, v = .tuple #[u, .int .i64 0] ∧ PcR D u lo hi W
def PcO (D : PcD) (ob : Obj) (lo hi : Nat) (W : World) : Prop := ∃ vg vm, ob = .cells #[.int .i64 D.id, .int .i64 D.c, .int .i64 D.r, .int .i64 D.m, .int .i64 D.s, vg, vm] 40 (0, 0) ∧ SlG W vg D.G ∧ SlM W vm D.M ∧ Rg lo hi vg ∧ Rg lo hi vm

theorem SlG.keeps {W W' : World} {X lo hi : Nat} {v : Value} {G : List G5} (h : SlG W v G) (hr : Rg lo hi v) (hk : Keeps X lo hi W W') : SlG W' v G := by
  obtain ⟨a, cap, rfl, hl, hc⟩ := h
  refine ⟨a, cap, rfl, hl, fun k hk2 => ?_⟩
  obtain ⟨b, off, rfl, h0, h1, h2, h3, h4⟩ := hc k hk2
  obtain ⟨m, hm⟩ : ∃ m, G.length = m + 1 := ⟨G.length - 1, by omega⟩
  have hb : W'.heap[b]? = W.heap[b]? := hk b (.inr (hr ⟨b, off, none⟩ m cap (by rw [hm])))
  exact ⟨b, off, rfl, (World.cell?_of_block (w := W) hb).trans h0, (World.cell?_of_block (w := W) hb).trans h1, (World.cell?_of_block (w := W) hb).trans h2, (World.cell?_of_block (w := W) hb).trans h3, (World.cell?_of_block (w := W) hb).trans h4⟩

theorem SlM.keeps {W W' : World} {X lo hi : Nat} {v : Value} {M : List M3} (h : SlM W v M) (hr : Rg lo hi v) (hk : Keeps X lo hi W W') : SlM W' v M := by
  obtain ⟨a, cap, rfl, hl, hc⟩ := h
  refine ⟨a, cap, rfl, hl, fun k hk2 => ?_⟩
  obtain ⟨b, off, rfl, h0, h1, h2⟩ := hc k hk2
  obtain ⟨m, hm⟩ : ∃ m, M.length = m + 1 := ⟨M.length - 1, by omega⟩
  have hb : W'.heap[b]? = W.heap[b]? := hk b (.inr (hr ⟨b, off, none⟩ m cap (by rw [hm])))
  exact ⟨b, off, rfl, (World.cell?_of_block (w := W) hb).trans h0, (World.cell?_of_block (w := W) hb).trans h1, (World.cell?_of_block (w := W) hb).trans h2⟩

theorem PcR.stable {D : PcD} {X : Nat} (v : Value) (lo hi : Nat) (W W' : World) (hk : Keeps X lo hi W W') (h : PcR D v lo hi W) : PcR D v lo hi W' := by
  obtain ⟨vg, vm, h1, h2, h3, h4, h5⟩ := h
  exact ⟨vg, vm, h1, h2.keeps h4 hk, h3.keeps h5 hk, h4, h5⟩
theorem PcT.stable {D : PcD} {X : Nat} (v : Value) (lo hi : Nat) (W W' : World) (hk : Keeps X lo hi W W') (h : PcT D v lo hi W) : PcT D v lo hi W' := by
  obtain ⟨u, h1, h2⟩ := h
  exact ⟨u, h1, h2.stable _ _ _ _ _ hk⟩
theorem PcO.stable {D : PcD} {X : Nat} (v : Obj) (lo hi : Nat) (W W' : World) (hk : Keeps X lo hi W W') (h : PcO D v lo hi W) : PcO D v lo hi W' := by
  obtain ⟨vg, vm, h1, h2, h3, h4, h5⟩ := h
  exact ⟨vg, vm, h1, h2.keeps h4 hk, h3.keeps h5 hk, h4, h5⟩

theorem cell_lt {W : World} {p : Addr} {v : Value} (h : W.cell? p = some v) : p.block < W.heap.size := by
  unfold World.cell? at h
  by_cases hp : p.block < W.heap.size
  · exact hp
  · rw [Array.getElem?_eq_none (by omega)] at h
    cases h

theorem PcV.toR {W : World} {B : Nat} {v : Value} {D : PcD} (h : PcV W B v D) : PcR D v B W.heap.size W := by
  obtain ⟨vg, vm, h1, h2, h3, h4, h5⟩ := h
  refine ⟨vg, vm, h1, h2, h3, fun a n c e => ⟨h4 a _ c e, ?_⟩, fun a n c e => ⟨h5 a _ c e, ?_⟩⟩
  · obtain ⟨a', cap, e2, -, hc⟩ := h2
    rw [e] at e2
    injection e2 with e3 e4 e5
    obtain ⟨b, off, e6, h0, -⟩ := hc 0 (by omega)
    rw [← e3] at e6
    cases e6
    exact cell_lt h0
  · obtain ⟨a', cap, e2, -, hc⟩ := h3
    rw [e] at e2
    injection e2 with e3 e4 e5
    obtain ⟨b, off, e6, h0, -⟩ := hc 0 (by omega)
    rw [← e3] at e6
    cases e6
    exact cell_lt h0

theorem SetAt.shape {W : World} {v : Value} {F : List (Nat × Bool)} (h : SetAt W v F) : ∃ a cap, v = .slice a F.length cap := by
  rcases h with ⟨rfl, rfl⟩ | ⟨g, cap, rfl, -⟩
  · exact ⟨_, _, rfl⟩
  · exact ⟨_, _, rfl⟩

theorem SetAt.pos {W : World} {a : Option Addr} {cap : Nat} {F : List (Nat × Bool)} (h : SetAt W (.slice a F.length cap) F) {i : Nat} {p : Nat × Bool} (hp : F[i]? = some p) :
    ∃ g, a = some ⟨g, 0, none⟩ ∧ W.cell? ⟨g, i * 2, none⟩ = some (.int .i64 p.1) ∧ W.cell? ⟨g, i * 2 + 1, none⟩ = some (.bool p.2) := by
  rcases h with ⟨rfl, -⟩ | ⟨g, cap', e, hr⟩
  · simp at hp
  · simp only [Value.slice.injEq] at e
    obtain ⟨rfl, _, rfl⟩ := e
    exact ⟨g, rfl, hr.cell hp⟩

/-- Marks as a value that lies in the blocks from lo to hi. -/
def MkR (M : List M3) (v : Value) (lo hi : Nat) (W : World) : Prop := SlM W v M ∧ Rg lo hi v
def MkT (M : List M3) (v : Value) (lo hi : Nat) (W : World) : Prop := ∃ u, v = .tuple #[u, .int .i64 0] ∧ MkR M u lo hi W

def MkU (M : List M3) (v : Value) (lo hi : Nat) (W : World) : Prop := ∃ u, v = u ∧ MkR M u lo hi W

theorem MkR.stable {M : List M3} {X : Nat} (v : Value) (lo hi : Nat) (W W' : World) (hk : Keeps X lo hi W W') (h : MkR M v lo hi W) : MkR M v lo hi W' := ⟨h.1.keeps h.2 hk, h.2⟩
theorem MkT.stable {M : List M3} {X : Nat} (v : Value) (lo hi : Nat) (W W' : World) (hk : Keeps X lo hi W W') (h : MkT M v lo hi W) : MkT M v lo hi W' := by
  obtain ⟨u, h1, h2⟩ := h
  exact ⟨u, h1, h2.stable _ _ _ _ _ hk⟩

theorem MkU.stable {M : List M3} {X : Nat} (v : Value) (lo hi : Nat) (W W' : World) (hk : Keeps X lo hi W W') (h : MkU M v lo hi W) : MkU M v lo hi W' := by
  obtain ⟨u, h1, h2⟩ := h
  exact ⟨u, h1, h2.stable _ _ _ _ _ hk⟩

set_option maxRecDepth 100000 in
set_option maxHeartbeats 4000000 in
theorem marks16_fr (d : PcD) (vg vm : Value) (s : Nat) (b : Bool) (w : World) (hG : SlG w vg d.G) (hM : SlM w vm d.M) (hok : d.ok = true) (hs : vset (s : Int) d.G.length = true) :
    Calls Tryz.prog 16 #[pcs d.id d.c d.r d.m d.s vg vm, st (s : Nat) b] w fun e w' => ∃ v, e = .returned v ∧ MkT (rsD d s b).M v w.heap.size w'.heap.size w' ∧ Below w.heap.size w w' := by
  have P0 := PcSt.new w d.id d.c d.r d.m d.s vg vm (s : Int) b
  have CS := checkSet_any d.id d.c d.r d.m d.s vg vm d.G d.M (s : Int) b _ (hG.keep P0.bel) (hM.keep P0.bel)
  have ep : vP d.id d.c d.r d.m d.s d.G d.M = true := hok
  rw [ep, hs] at CS
  obtain ⟨ag, gcap, hvg⟩ := hG.shape
  have CR : ∀ W, Below w.heap.size w W → Calls Tryz.prog 32 #[pcs d.id d.c d.r d.m d.s vg vm, st (s : Nat) b] W fun e w' => ∃ v', e = .returned v' ∧ MkR (rsD d s b).M v' W.heap.size w'.heap.size w' ∧ Below W.heap.size W w' := fun W hW => by
    rw [hvg]
    refine (resetMarks_any d.id d.c d.r d.m d.s ag d.G.length gcap vm d.M (s : Int) b W (hM.keep hW) hs (vP_marks ep).2).mono ?_
    rintro e w' ⟨v', he, h3, hb, hf⟩
    refine ⟨v', he, ⟨h3, fun a n c e2 => ⟨hf a _ c e2, ?_⟩⟩, hb⟩
    obtain ⟨a', cap, e3, -, hc⟩ := h3
    rw [e2] at e3
    injection e3 with e4 e5 e6
    obtain ⟨bb, off, e7, h0, -⟩ := hc 0 (by omega)
    rw [← e4] at e7
    cases e7
    exact cell_lt h0
  clear hvg
  obtain ⟨ag, gcap, rfl, -, -⟩ := hG
  obtain ⟨am, mcap, rfl, -, -⟩ := hM
  have HCR := Lib.hid CR
  clear CR hok hs ep
  obtain ⟨R, hR⟩ : ∃ R : Value → Nat → Nat → World → Prop, R = MkR (rsD d s b).M := ⟨_, rfl⟩
  have e2 : MkT (rsD d s b).M = fun v lo hi W => ∃ u, v = .tuple #[u, .int .i64 0] ∧ R u lo hi W := by rw [hR]; rfl
  rw [e2]
  have HCR' : Hid (∀ W, Below w.heap.size w W → Calls Tryz.prog 32 #[pcs d.id d.c d.r d.m d.s (.slice ag d.G.length gcap) (.slice am d.M.length mcap), st (s : Nat) b] W fun e w' => ∃ v', e = .returned v' ∧ R v' W.heap.size w'.heap.size w' ∧ Below W.heap.size W w') := Lib.hid (by rw [hR]; exact HCR.out)
  have HM : Hid (∀ v lo lo' hi W, lo' ≤ lo → R v lo hi W → R v lo' hi W) := Lib.hid (fun v lo lo' hi W hl h => by rw [hR] at h ⊢; exact ⟨h.1, fun a n c e => ⟨Nat.le_trans hl (h.2 a n c e).1, (h.2 a n c e).2⟩⟩)
  clear HCR e2 hR
  generalize d.G.length = n at P0 CS HCR' ⊢
  generalize d.M.length = l at P0 CS HCR' ⊢
  obtain ⟨W0, hW0⟩ : ∃ W0, (w.alloc (pcsObj d.id d.c d.r d.m d.s (.slice ag n gcap) (.slice am l mcap))).alloc (stObj (s : Int) b) = W0 := ⟨_, rfl⟩
  rw [hW0] at P0 CS
  obtain ⟨bw0, -, c0, c1, c2, c3, c4, c5, c6, s0, s1⟩ := _root_.id P0
  go_enter Tryz.func16, Tryz.ntmps16
  go_wp2_with (first
    | (go_at_call 30; with_reducible refine CS.mono ?_; rintro e w1 ⟨rfl, hb⟩
       have P1 := P0.keep hb
       obtain ⟨b1, -, d0, d1, d2, d3, d4, d5, d6, t0, t1⟩ := P1)
    | (go_at_call 32; with_reducible refine (HCR'.out _ b1).mono ?_; rintro e w2 ⟨v2, rfl, hv2, hb2⟩))
  go_ret2
  exact ⟨_, rfl, ⟨v2, rfl, HM.out _ _ _ _ _ b1.size hv2⟩, keep_below b1 hb2⟩

end Go.Proofs.YtkmcboincjohlaaGreat
