/- Walks: the reference's holding. -/
import Derived.Test.YtdnljbdngbphnaaGreatF4
import Derived.Lib.AppendZeros
namespace Go.Proofs.YtdnljbdngbphnaaGreat
open Go Go.RowKit Go.Proofs Go.Reads

def Lss (L : List H5) (n : Int) (q : Nat) : Prop := ∀ j, j < q → (hq L j).n < n

set_option maxRecDepth 100000 in
set_option maxHeartbeats 8000000 in
theorem holding_any (v : Value) (L : List H5) (h : H5) (hl : L.length ≤ 10000) (w : World) (hs : SlH w v L) :
    Calls Tryz.prog 14 #[v, agH h] w fun e w' => ∃ v', e = .returned v' ∧ SlH w' v' (hold L h) ∧ Below w.heap.size w w' := by
  have HS := Lib.hid hs
  obtain ⟨a, cap, rfl, ⟨hz, hlc⟩, hd⟩ := hs
  obtain ⟨hn, hp, hcc, hsh, hbk⟩ := h
  have HK := Lib.hid (fun q h1 h2 h3 => hk_spec L ⟨hn, hp, hcc, hsh, hbk⟩ q h1 h2 h3)
  obtain ⟨M, hM⟩ : ∃ M, L.length = M := ⟨_, rfl⟩
  have HM := Lib.hid hM
  rw [hM] at hd hl hlc HS HK ⊢
  have HD := Lib.hid hd
  clear hd hM
  unfold agH
  dsimp only at HK ⊢
  have B0 : Below w.heap.size w (w.alloc (.cells #[.int .i64 hn, .int .i64 hp, .int .i64 hcc, .int .i64 hsh, .bool hbk] 64)) := (Below.refl _ w).alloc (Nat.le_refl _) _
  have R0 : (w.alloc (.cells #[.int .i64 hn, .int .i64 hp, .int .i64 hcc, .int .i64 hsh, .bool hbk] 64)).heap[w.heap.size]? = some (.cells #[.int .i64 hn, .int .i64 hp, .int .i64 hcc, .int .i64 hsh, .bool hbk] 64 (0, 0)) := alloc_heap_new w _
  have HBZ := Lib.hid (And.intro B0 R0)
  clear B0 R0
  go_enter Tryz.func14, Tryz.ntmps14
  go_wp2_with fail
  go_loopw [5] (fun i wr => ∃ q : Nat, q ≤ M ∧ i = .int .i64 q ∧ Below w.heap.size w wr ∧ wr.heap[w.heap.size]? = some (.cells #[.int .i64 hn, .int .i64 hp, .int .i64 hcc, .int .i64 hsh, .bool hbk] 64 (0, 0)) ∧ Lss L hn q) (fun i _ => M - (intOf i).toNat)
  case atStart => exact ⟨0, by omega, rfl, HBZ.out.1, HBZ.out.2, fun j hj => by omega⟩
  case round =>
    clear HBZ
    obtain ⟨q, hq0, rfl, hbel, hbx, hls⟩ := hrel
    have b0 : wr.cell? ⟨w.heap.size, 0, none⟩ = some (.int .i64 hn) := cell_of hbx rfl
    have hbxH := Lib.hid hbx
    have hsz := (Array.getElem?_eq_some_iff.1 hbx).1
    replace hls := Lib.hid hls
    clear hbx
    by_cases hqn : q < M
    · obtain ⟨b, off, rfl, hc⟩ := HD.out (by omega)
      have c0 := ((hc q hqn).keep hbel).c0
      have HLq : Hid ((hq L q).n < hn → Lss L hn (q + 1)) := Lib.hid (fun h j hj => by
        by_cases e : j < q
        · exact hls.out j e
        · have : j = q := by omega
          rw [this]; exact h)
      obtain ⟨xn, hx⟩ : ∃ x, (hq L q).n = x := ⟨_, rfl⟩
      rw [hx] at c0 HLq
      replace hx := Lib.hid hx
      have j1 : decide ((q : Int) < (M : Int)) = true := by simp; omega
      have p0 : (q : Int) < (M : Int) := by omega
      have k1 := w64 ((q : Int) + 1) (by omega)
      replace hbel := Lib.hid hbel
      clear hc
      by_cases he : xn < hn
      · have j2 : decide (xn < hn) = true := by simpa using he
        go_wp2_with fail
        go_quiet (fail)
        go_wp2_with fail
        refine ⟨⟨q + 1, hqn, by simp, below_drewN hbel.out _, hbxH.out, HLq.out he⟩, by simp [intOf]; omega⟩
      · have j2 : decide (xn < hn) = false := by simpa using he
        have hKq := Lib.hid (HK.out q hq0 hls.out (fun _ => by rw [hx.out]; omega))
        go_wp2_with fail
        go_quiet (fail)
        obtain ⟨w1, hw_w1⟩ : ∃ x, wr.drewN nq = x := ⟨_, rfl⟩
        rw [hw_w1]
        have hb_w1 : Below wr.heap.size wr w1 := by rw [← hw_w1]; exact below_drewN (Below.refl _ _) _
        have hx_w1 : w1.heap[w.heap.size]? = some (.cells #[.int .i64 hn, .int .i64 hp, .int .i64 hcc, .int .i64 hsh, .bool hbk] 64 (0, 0)) := by rw [← hw_w1]; exact hbxH.out
        clear hw_w1
        have hbel1 := Lib.hid (hbel.out.trans (hb_w1.mono hbel.out.size))
        have b1 : w1.cell? ⟨w.heap.size, 0, none⟩ = some (.int .i64 hn) := cell_of hx_w1 rfl
        have c1 := keep_cell hb_w1 c0
        have hbxH := Lib.hid hx_w1
        clear hb_w1 hx_w1 b0 c0 hbel
        have hbel := hbel1
        clear hbel1
        have b0 := b1
        by_cases hee : xn = hn
        · have j3 : ((xn : Int) == hn) = true := by simpa using hee
          have fin : Hid (∀ W', Below w1.heap.size w1 W' → SlH W' (.slice (some ⟨b, off, none⟩) M cap) (hold L ⟨hn, hp, hcc, hsh, hbk⟩)) := Lib.hid (fun W' hb' => by
            unfold hold
            rw [if_pos ⟨by rw [hKq.out, HM.out]; exact hqn, by rw [hKq.out, hx.out]; exact hee⟩]
            exact HS.out.keep (hbel.out.trans (hb'.mono hbel.out.size)))
          clear HS HK HD HM
          go_wp2_with fail
          go_quiet (fail)
          go_wp2_with fail
          go_ret
          exact ⟨_, rfl, fin.out _ (below_drewN (Below.refl _ _) _), below_drewN hbel.out _⟩
        · have j3 : ((xn : Int) == hn) = false := by simpa using hee
          have hno : Hid (¬ (hk L ⟨hn, hp, hcc, hsh, hbk⟩ < L.length ∧ (hq L (hk L ⟨hn, hp, hcc, hsh, hbk⟩)).n = hn)) := Lib.hid (fun h => hee (by have := h.2; rw [hKq.out, hx.out] at this; exact this))
          go_wp2_with fail
          go_quiet (fail)
          obtain ⟨W, hw_W⟩ : ∃ x, w1.drewN nq = x := ⟨_, rfl⟩
          rw [hw_W]
          have hb_W : Below w1.heap.size w1 W := by rw [← hw_W]; exact below_drewN (Below.refl _ _) _
          have hx_W : W.heap[w.heap.size]? = some (.cells #[.int .i64 hn, .int .i64 hp, .int .i64 hcc, .int .i64 hsh, .bool hbk] 64 (0, 0)) := by rw [← hw_W]; exact hbxH.out
          clear hw_W
          have hbW := Lib.hid (hbel.out.trans (hb_W.mono hbel.out.size))
          have hxW := hx_W
          clear hb_W hx_W b1 c1
          obtain ⟨a3, h3, RS⟩ := slice_lo5 (k := q) HM.out HS.out (by omega)
          skip
          have h1 : SlH W (.slice (some ⟨b, off, none⟩) q cap) (L.take q) := by
            obtain ⟨a', c', e, ⟨g1, g2⟩, g3⟩ := HS.out.keep hbW.out
            simp only [Value.slice.injEq] at e
            obtain ⟨rfl, -, rfl⟩ := e
            have hlen : (L.take q).length = q := by rw [List.length_take, HM.out]; omega
            refine ⟨_, _, by rw [hlen], ⟨g1, by rw [hlen]; omega⟩, fun hp => ?_⟩
            rw [hlen] at hp
            obtain ⟨b', off', eb, hh⟩ := g3 (by rw [HM.out]; omega)
            refine ⟨b', off', eb, fun i hi => ?_⟩
            rw [hlen] at hi
            have e2 : hq (L.take q) i = hq L i := by simp [hq, List.getD, List.getElem?_take_of_lt hi]
            rw [e2]
            exact hh i (by rw [HM.out]; omega)
          obtain ⟨v1, W2, v2, W4, v3, W5, r1, r2, r3, o5, hb2, -, hb5, ⟨e1, e2, e3, rfl⟩, ⟨f1, f2, f3, rfl⟩⟩ := splice_h (w := W) ⟨hn, hp, hcc, hsh, hbk⟩ h1 (h3 W hbW.out) (by rw [List.length_take, List.length_drop, HM.out]; omega)
          have fin : Hid (SlH W5 v3 (hold L ⟨hn, hp, hcc, hsh, hbk⟩) ∧ Below w.heap.size w W5) := Lib.hid (by
            refine ⟨?_, hbW.out.trans (hb5.mono hbW.out.size)⟩
            unfold hold
            rw [if_neg hno.out, hKq.out]
            exact own_SlH o5)
          have hszW := (Array.getElem?_eq_some_iff.1 hxW).1
          have hx2 : W2.heap[w.heap.size]? = some (.cells #[.int .i64 hn, .int .i64 hp, .int .i64 hcc, .int .i64 hsh, .bool hbk] 64 (0, 0)) := (hb2.block _ hszW).trans hxW
          have d0 : W2.cell? ⟨w.heap.size, 0, none⟩ = some (.int .i64 hn) := cell_of hx2 rfl
          have d1 : W2.cell? ⟨w.heap.size, 1, none⟩ = some (.int .i64 hp) := cell_of hx2 rfl
          have d2 : W2.cell? ⟨w.heap.size, 2, none⟩ = some (.int .i64 hcc) := cell_of hx2 rfl
          have d3 : W2.cell? ⟨w.heap.size, 3, none⟩ = some (.int .i64 hsh) := cell_of hx2 rfl
          have d4 : W2.cell? ⟨w.heap.size, 4, none⟩ = some (.bool hbk) := cell_of hx2 rfl
          have hqc : (q : Int) ≤ (cap : Int) := by omega
          have hqc2 : q ≤ cap := by omega
          dsimp only at r2
          clear o5 hb2 hb5 h1 h3 hxW hx2 hszW hbW hno hKq HS HM HK hls hbel b0 hbxH 
          have t1 : True := trivial
          have t2 : True := trivial
          go_wp2_with (at_builtin; first | (have _t := t1; refine Lib.wpList_append_run _ rfl _ _ _ _ rfl _ _ rfl rfl _ _ r1 ?_; clear t1) | (have _t := t2; refine Lib.wpList_append_run _ rfl _ _ _ _ rfl _ _ rfl rfl _ _ r2 ?_; clear t2) | refine Lib.wpList_append_run _ rfl _ _ _ _ rfl _ _ rfl rfl _ _ r3 ?_)
          go_ret
          exact ⟨_, rfl, fin.out⟩
    · have hqM : q = M := by omega
      subst hqM
      have j1 : decide ((q : Int) < (q : Int)) = false := by simp
      have hKq := Lib.hid (HK.out q hq0 hls.out (fun h => absurd h (Nat.lt_irrefl _)))
      have hno : Hid (¬ (hk L ⟨hn, hp, hcc, hsh, hbk⟩ < L.length ∧ (hq L (hk L ⟨hn, hp, hcc, hsh, hbk⟩)).n = hn)) := Lib.hid (fun h => by have := h.1; rw [hKq.out, HM.out] at this; exact Nat.lt_irrefl _ this)
      replace hbel := Lib.hid hbel
      clear hz HD
      go_wp2_with fail
      go_quiet (fail)
      obtain ⟨w1, hw_w1⟩ : ∃ x, wr.drewN nq = x := ⟨_, rfl⟩
      rw [hw_w1]
      have hb_w1 : Below wr.heap.size wr w1 := by rw [← hw_w1]; exact below_drewN (Below.refl _ _) _
      have hx_w1 : w1.heap[w.heap.size]? = some (.cells #[.int .i64 hn, .int .i64 hp, .int .i64 hcc, .int .i64 hsh, .bool hbk] 64 (0, 0)) := by rw [← hw_w1]; exact hbxH.out
      clear hw_w1
      have hbel1 := Lib.hid (hbel.out.trans (hb_w1.mono hbel.out.size))
      have hbxH := Lib.hid hx_w1
      clear hb_w1 hx_w1 hbel
      have hbel := hbel1
      clear hbel1
      go_wp2_with fail
      go_quiet (fail)
      obtain ⟨W, hw_W⟩ : ∃ x, w1.drewN nq = x := ⟨_, rfl⟩
      rw [hw_W]
      have hb_W : Below w1.heap.size w1 W := by rw [← hw_W]; exact below_drewN (Below.refl _ _) _
      have hx_W : W.heap[w.heap.size]? = some (.cells #[.int .i64 hn, .int .i64 hp, .int .i64 hcc, .int .i64 hsh, .bool hbk] 64 (0, 0)) := by rw [← hw_W]; exact hbxH.out
      clear hw_W
      have hbW := Lib.hid (hbel.out.trans (hb_W.mono hbel.out.size))
      have hxW := hx_W
      clear hb_W hx_W
      obtain ⟨a3, h3, RS⟩ := slice_lo5 (k := q) HM.out HS.out (by omega)
      simp only [Nat.sub_self] at h3 RS
      have h1 : SlH W (.slice a q cap) (L.take q) := by
        obtain ⟨a', c', e, ⟨g1, g2⟩, g3⟩ := HS.out.keep hbW.out
        simp only [Value.slice.injEq] at e
        obtain ⟨rfl, -, rfl⟩ := e
        have hlen : (L.take q).length = q := by rw [List.length_take, HM.out]; omega
        refine ⟨_, _, by rw [hlen], ⟨g1, by rw [hlen]; omega⟩, fun hp => ?_⟩
        rw [hlen] at hp
        obtain ⟨b', off', eb, hh⟩ := g3 (by rw [HM.out]; omega)
        refine ⟨b', off', eb, fun i hi => ?_⟩
        rw [hlen] at hi
        have e2 : hq (L.take q) i = hq L i := by simp [hq, List.getD, List.getElem?_take_of_lt hi]
        rw [e2]
        exact hh i (by rw [HM.out]; omega)
      obtain ⟨v1, W2, v2, W4, v3, W5, r1, r2, r3, o5, hb2, -, hb5, ⟨e1, e2, e3, rfl⟩, ⟨f1, f2, f3, rfl⟩⟩ := splice_h (w := W) ⟨hn, hp, hcc, hsh, hbk⟩ h1 (h3 W hbW.out) (by rw [List.length_take, List.length_drop, HM.out]; omega)
      have fin : Hid (SlH W5 v3 (hold L ⟨hn, hp, hcc, hsh, hbk⟩) ∧ Below w.heap.size w W5) := Lib.hid (by
        refine ⟨?_, hbW.out.trans (hb5.mono hbW.out.size)⟩
        unfold hold
        rw [if_neg hno.out, hKq.out]
        exact own_SlH o5)
      have hszW := (Array.getElem?_eq_some_iff.1 hxW).1
      have hx2 : W2.heap[w.heap.size]? = some (.cells #[.int .i64 hn, .int .i64 hp, .int .i64 hcc, .int .i64 hsh, .bool hbk] 64 (0, 0)) := (hb2.block _ hszW).trans hxW
      have d0 : W2.cell? ⟨w.heap.size, 0, none⟩ = some (.int .i64 hn) := cell_of hx2 rfl
      have d1 : W2.cell? ⟨w.heap.size, 1, none⟩ = some (.int .i64 hp) := cell_of hx2 rfl
      have d2 : W2.cell? ⟨w.heap.size, 2, none⟩ = some (.int .i64 hcc) := cell_of hx2 rfl
      have d3 : W2.cell? ⟨w.heap.size, 3, none⟩ = some (.int .i64 hsh) := cell_of hx2 rfl
      have d4 : W2.cell? ⟨w.heap.size, 4, none⟩ = some (.bool hbk) := cell_of hx2 rfl
      have hqc : (q : Int) ≤ (cap : Int) := by omega
      have hqc2 : q ≤ cap := by omega
      dsimp only at r2
      clear o5 hb2 hb5 h1 h3 hxW hx2 hszW hbW hno hKq HS HM HK hls hbel b0 hbxH hsz
      have t1 : True := trivial
      have t2 : True := trivial
      go_wp2_with (at_builtin; first | (have _t := t1; refine Lib.wpList_append_run _ rfl _ _ _ _ rfl _ _ rfl rfl _ _ r1 ?_; clear t1) | (have _t := t2; refine Lib.wpList_append_run _ rfl _ _ _ _ rfl _ _ rfl rfl _ _ r2 ?_; clear t2) | refine Lib.wpList_append_run _ rfl _ _ _ _ rfl _ _ rfl rfl _ _ r3 ?_)
      go_ret
      exact ⟨_, rfl, fin.out⟩

end Go.Proofs.YtdnljbdngbphnaaGreat
