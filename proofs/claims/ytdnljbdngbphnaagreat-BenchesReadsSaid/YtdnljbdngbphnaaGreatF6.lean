/- Walks: the reference's Found. -/
import Derived.Test.YtdnljbdngbphnaaGreatF5
namespace Go.Proofs.YtdnljbdngbphnaaGreat
open Go Go.RowKit Go.Proofs Go.Reads

/-- What panes hold, of the first q places. -/
def pre (L : List W7) (q : Nat) : List H5 := foundR (inP (L.take q))
def post (Z : List H5) (N : List H5) (q : Nat) : List H5 := (N.take q).foldl hold Z

theorem pre_succ {L : List W7} {q : Nat} (h : q < L.length) : pre L (q + 1) = if (wq L q).k = 3 then hold (pre L q) (conv (wq L q)) else pre L q := by
  unfold pre inP foundR
  have e : wq L q = L[q] := by simp [wq, List.getD, h]
  rw [List.take_succ_eq_append_getElem h, List.filter_append, List.map_append, List.foldl_append, ← e]
  by_cases hk : (wq L q).k = 3 <;> simp [hk]

theorem post_succ {Z N : List H5} {q : Nat} (h : q < N.length) : post Z N (q + 1) = hold (post Z N q) (hq N q) := by
  unfold post
  have e : hq N q = N[q] := by simp [hq, List.getD, h]
  rw [List.take_succ_eq_append_getElem h, List.foldl_append, ← e]
  rfl

theorem hold_len (l : List H5) (h : H5) : (hold l h).length ≤ l.length + 1 := by
  unfold hold
  split
  · omega
  · rw [List.length_append, List.length_append, List.length_take, List.length_drop, List.length_singleton]
    have := hk_le l h
    omega

theorem pre_len {L : List W7} : ∀ q, q ≤ L.length → (pre L q).length ≤ q
  | 0, _ => by simp [pre, inP, foundR]
  | q + 1, h => by
    have ih := pre_len (L := L) q (by omega)
    rw [pre_succ (by omega)]
    split
    · have := hold_len (pre L q) (conv (wq L q)); omega
    · omega

theorem post_len {Z N : List H5} : ∀ q, q ≤ N.length → (post Z N q).length ≤ Z.length + q
  | 0, _ => by simp [post]
  | q + 1, h => by
    have ih := post_len (Z := Z) (N := N) q (by omega)
    rw [post_succ (by omega)]
    have := hold_len (post Z N q) (hq N q); omega

theorem found_all (L : List W7) (N : List H5) : post (pre L L.length) N N.length = foundR (inP L ++ N) := by
  unfold post pre foundR
  rw [List.take_length, List.take_length, List.foldl_append]

set_option maxRecDepth 100000 in
set_option maxHeartbeats 8000000 in
theorem found9_any (vw vn : Value) (L : List W7) (N : List H5) (hl : L.length ≤ 1000) (hn : N.length ≤ 1000) (w : World) (hs : SlW w vw L) (hs' : SlH w vn N) :
    Calls Tryz.prog 9 #[regV vw vn] w fun e w' => ∃ v', e = .returned v' ∧ SlH w' v' (foundR (inP L ++ N)) ∧ Below w.heap.size w w' := by
  have HP := Lib.hid (fun q (h : q < L.length) => pre_succ h)
  have HPL := Lib.hid (fun q (h : q ≤ L.length) => pre_len (L := L) q h)
  have HPM := Lib.hid (pre_len (L := L) L.length (Nat.le_refl _))
  have HQ := Lib.hid (fun q (h : q < N.length) => post_succ (Z := pre L L.length) h)
  have HQL := Lib.hid (fun q (h : q ≤ N.length) => post_len (Z := pre L L.length) (N := N) q h)
  have HA := Lib.hid (found_all L N)
  obtain ⟨a, cap, rfl, hd⟩ := hs
  obtain ⟨a', cap', rfl, -, hd'⟩ := hs'
  obtain ⟨M, hM⟩ : ∃ M, L.length = M := ⟨_, rfl⟩
  obtain ⟨K, hK⟩ : ∃ K, N.length = K := ⟨_, rfl⟩
  rw [hM] at hd hl HP HPL HPM HQ HQL HA ⊢
  rw [hK] at hd' hn HQ HQL HA ⊢
  have HD := Lib.hid hd
  have HD' := Lib.hid hd'
  clear hd hd' hM hK
  unfold regV
  have B0 : Below w.heap.size w (w.alloc (.cells #[.slice none 0 0, .slice a M cap, .slice a' K cap', .slice none 0 0, .slice none 0 0, .slice none 0 0] 30)) := (Below.refl _ w).alloc (Nat.le_refl _) _
  have R0 : (w.alloc (.cells #[.slice none 0 0, .slice a M cap, .slice a' K cap', .slice none 0 0, .slice none 0 0, .slice none 0 0] 30)).heap[w.heap.size]? = some (.cells #[.slice none 0 0, .slice a M cap, .slice a' K cap', .slice none 0 0, .slice none 0 0, .slice none 0 0] 30 (0, 0)) := alloc_heap_new w _
  have HBZ := Lib.hid (And.intro B0 R0)
  clear B0 R0
  go_enter Tryz.func9, Tryz.ntmps9
  go_wp2_with fail
  go_loopw [3, 4] (fun s i wr => ∃ q : Nat, q ≤ M ∧ i = .int .i64 q ∧ Below w.heap.size w wr ∧ wr.heap[w.heap.size]? = some (.cells #[.slice none 0 0, .slice a M cap, .slice a' K cap', .slice none 0 0, .slice none 0 0, .slice none 0 0] 30 (0, 0)) ∧ SlH wr s (pre L q)) (fun _ i _ => M - (intOf i).toNat)
  case atStart => exact ⟨0, by omega, rfl, HBZ.out.1, HBZ.out.2, ⟨none, 0, by simp [pre, inP, foundR], ⟨fun _ => rfl, by simp [pre, inP, foundR]⟩, fun h => by simp [pre, inP, foundR] at h⟩⟩
  case round =>
    clear HBZ
    obtain ⟨q, hq0, rfl, hbel, hbx, hsl⟩ := hrel
    have r1 : wr.cell? ⟨w.heap.size, 1, none⟩ = some (.slice a M cap) := cell_of hbx rfl
    have r2 : wr.cell? ⟨w.heap.size, 2, none⟩ = some (.slice a' K cap') := cell_of hbx rfl
    have hsz := (Array.getElem?_eq_some_iff.1 hbx).1
    by_cases hqn : q < M
    · obtain ⟨b, off, rfl, hc⟩ := HD.out (by omega)
      obtain ⟨c0, c1, c2, c3, c4, c5, c6⟩ := (hc q hqn).keep hbel
      have HPq := Lib.hid (HP.out q hqn)
      have HLq := Lib.hid (HPL.out q hq0)
      have hslH := Lib.hid hsl
      obtain ⟨sa, sc, rfl, -, -⟩ := hsl
      generalize wq L q = x at c0 c1 c2 c3 c4 c5 c6 HPq
      obtain ⟨xp, xk, xa, xsh, xbk, xtb, xtn⟩ := x
      dsimp only at c0 c1 c2 c3 c4 c5 c6
      have j1 : decide ((q : Int) < (M : Int)) = true := by simp; omega
      have p0 : (q : Int) < (M : Int) := by omega
      have k1 := w64 ((q : Int) + 1) (by omega)
      have al : Below wr.heap.size wr (wr.alloc (.cells #[.int .i64 xp, .int .i64 xk, .int .i64 xa, .int .i64 xsh, .bool xbk, .int .i64 xtb, .int .i64 xtn] 36)) := (Below.refl _ _).alloc (Nat.le_refl _) _
      have hb1 := Lib.hid (hbel.trans (al.mono hbel.size))
      have hx1 : Hid ((wr.alloc (.cells #[.int .i64 xp, .int .i64 xk, .int .i64 xa, .int .i64 xsh, .bool xbk, .int .i64 xtb, .int .i64 xtn] 36)).heap[w.heap.size]? = some (.cells #[.slice none 0 0, .slice (some ⟨b, off, none⟩) M cap, .slice a' K cap', .slice none 0 0, .slice none 0 0, .slice none 0 0] 30 (0, 0))) := Lib.hid ((alloc_heap_old _ _ hsz).trans hbx)
      have hs1 := Lib.hid (hslH.out.keep al)
      obtain ⟨Y, hY⟩ : ∃ Y, pre L q = Y := ⟨_, rfl⟩
      rw [hY] at HPq HLq hslH hs1
      obtain ⟨ny, hny⟩ : ∃ n, Y.length = n := ⟨_, rfl⟩
      replace hY := Lib.hid hY
      have hnyH := Lib.hid hny
      by_cases he : xk = 3
      · subst he
        have HH := Lib.hid (holding_any (.slice sa Y.length sc) Y ⟨xa, xp, 0, xsh, xbk⟩ (by have := HLq.out; omega) _ hs1.out)
        rw [hny] at HH hs1
        rw [hY.out, hny]
        unfold agH at HH
        dsimp only at HH
        clear hbel hbx hc al hsz hny hslH HD HD' HP HPL HQ HQL HA
        go_wp2_with fail
        refine HH.out.mono ?_
        rintro e w2 ⟨v2, rfl, hs2, hb2⟩
        have hfin := Lib.hid (And.intro (hb1.out.trans (hb2.mono hb1.out.size)) (And.intro ((hb2.block _ (Array.getElem?_eq_some_iff.1 hx1.out).1).trans hx1.out) (show SlH w2 v2 (pre L (q + 1)) from by rw [HPq.out]; simpa [conv] using hs2)))
        clear hs2 hb2 HH hb1 hx1 hs1
        go_wp2_with fail
        exact ⟨⟨q + 1, hqn, by simp, hfin.out.1, hfin.out.2.1, hfin.out.2.2⟩, by simp [intOf]; omega⟩
      · have j2 : ((xk : Int) == 3) = false := by simpa using he
        have hfin : Hid (SlH (wr.alloc (.cells #[.int .i64 xp, .int .i64 xk, .int .i64 xa, .int .i64 xsh, .bool xbk, .int .i64 xtb, .int .i64 xtn] 36)) (.slice sa Y.length sc) (pre L (q + 1))) := Lib.hid (by rw [HPq.out, if_neg he]; exact hs1.out)
        rw [hny] at hfin
        rw [hY.out, hny]
        clear hbel hbx hc al hsz hny hslH HD HD' HP HPL HQ HQL HA hs1
        go_wp2_with fail
        exact ⟨⟨q + 1, hqn, by simp, hb1.out, hx1.out, hfin.out⟩, by simp [intOf]; omega⟩
    · have hqM : q = M := by omega
      subst hqM
      have j1 : decide ((q : Int) < (q : Int)) = false := by simp
      replace hbel := Lib.hid hbel
      replace hbx := Lib.hid hbx
      replace hsl := Lib.hid hsl
      clear HD HP hsz HPL
      obtain ⟨W1, hW1⟩ : ∃ W1, W1 = wr := ⟨_, rfl⟩
      subst hW1
      have hsl0 := hsl.out
      obtain ⟨sa, sc, rfl, -, -⟩ := hsl0
      obtain ⟨Z, hZ⟩ : ∃ Z, pre L q = Z := ⟨_, rfl⟩
      rw [hZ] at hsl HQ HQL HA HPM
      have HZ : Hid (Z.length ≤ 1000) := Lib.hid (by have := HPM.out; omega)
      rw [hZ]
      replace hZ := Lib.hid hZ
      go_wp2_with fail
      go_loopw [3, 6] (fun s i wr => ∃ p : Nat, p ≤ K ∧ i = .int .i64 p ∧ Below w.heap.size w wr ∧ wr.heap[w.heap.size]? = some (.cells #[.slice none 0 0, .slice a q cap, .slice a' K cap', .slice none 0 0, .slice none 0 0, .slice none 0 0] 30 (0, 0)) ∧ SlH wr s (post Z N p)) (fun _ i _ => K - (intOf i).toNat)
      case atStart => exact ⟨0, by omega, rfl, hbel.out, hbx.out, by simpa [post] using hsl.out⟩
      case round =>
        clear hbel hbx hsl r1 r2
        obtain ⟨p, hp0, rfl, hbel, hbx, hsl⟩ := hrel
        have r2 : wr.cell? ⟨w.heap.size, 2, none⟩ = some (.slice a' K cap') := cell_of hbx rfl
        have hsz := (Array.getElem?_eq_some_iff.1 hbx).1
        by_cases hpn : p < K
        · obtain ⟨b, off, rfl, hc⟩ := HD'.out (by omega)
          obtain ⟨c0, c1, c2, c3, c4⟩ := (hc p hpn).keep hbel
          have HQp := Lib.hid (HQ.out p hpn)
          have HLp := Lib.hid (HQL.out p hp0)
          have hslH := Lib.hid hsl
          obtain ⟨ta, tc, rfl, -, -⟩ := hsl
          generalize hq N p = x at c0 c1 c2 c3 c4 HQp
          obtain ⟨xn, xp, xc, xsh, xbk⟩ := x
          dsimp only at c0 c1 c2 c3 c4
          have j1 : decide ((p : Int) < (K : Int)) = true := by simp; omega
          have p0 : (p : Int) < (K : Int) := by omega
          have k1 := w64 ((p : Int) + 1) (by omega)
          have HH := Lib.hid (holding_any _ (post Z N p) ⟨xn, xp, xc, xsh, xbk⟩ (by have := HLp.out; have := HZ.out; omega) _ hslH.out)
          obtain ⟨Y, hY⟩ : ∃ Y, post Z N p = Y := ⟨_, rfl⟩
          rw [hY] at HQp HLp hslH HH ⊢
          obtain ⟨ny, hny⟩ : ∃ n, Y.length = n := ⟨_, rfl⟩
          rw [hny] at HH ⊢
          unfold agH at HH
          dsimp only at HH
          have hb1 := Lib.hid hbel
          have hx1 := Lib.hid hbx
          replace hY := Lib.hid hY
          clear hbel hbx hc hny hslH HD' HQ HQL HA hsz
          go_wp2_with fail
          refine HH.out.mono ?_
          rintro e w2 ⟨v2, rfl, hs2, hb2⟩
          have hfin := Lib.hid (And.intro (hb1.out.trans (hb2.mono hb1.out.size)) (And.intro ((hb2.block _ (Array.getElem?_eq_some_iff.1 hx1.out).1).trans hx1.out) (show SlH w2 v2 (post Z N (p + 1)) from by rw [HQp.out]; exact hs2)))
          clear hs2 hb2 HH hb1 hx1
          go_wp2_with fail
          exact ⟨⟨p + 1, hpn, by simp, hfin.out.1, hfin.out.2.1, hfin.out.2.2⟩, by simp [intOf]; omega⟩
        · have hpK : p = K := by omega
          subst hpK
          have j1 : decide ((p : Int) < (p : Int)) = false := by simp
          rw [HA.out] at hsl
          have hslH := Lib.hid hsl
          obtain ⟨ta, tc, rfl, -, -⟩ := hsl
          replace hbel := Lib.hid hbel
          clear hbx hsz HD' HQ HQL HA
          go_wp2_with fail
          go_ret
          exact ⟨_, rfl, hslH.out, hbel.out⟩

end Go.Proofs.YtdnljbdngbphnaaGreat
