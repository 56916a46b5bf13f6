/- Walks: the program's Found. -/
import Derived.Test.YtdnljbdngbphnaaGreatF7
import Derived.Lib.AppendZeros
namespace Go.Proofs.YtdnljbdngbphnaaGreat
open Go Go.RowKit Go.Proofs Go.Reads Go.Maps

def prA (L : List W7) (q : Nat) : List H5 := inP (L.take q)
theorem prA_succ {L : List W7} {q : Nat} (h : q < L.length) : prA L (q + 1) = if (wq L q).k = 3 then prA L q ++ [conv (wq L q)] else prA L q := by
  unfold prA inP
  have e : wq L q = L[q] := by simp [wq, List.getD, h]
  rw [List.take_succ_eq_append_getElem h, List.filter_append, List.map_append, ← e]
  by_cases hk : (wq L q).k = 3 <;> simp [hk]
theorem prA_len {L : List W7} : ∀ q, q ≤ L.length → (prA L q).length ≤ q
  | 0, _ => by simp [prA, inP]
  | q + 1, h => by
    have ih := prA_len (L := L) q (by omega)
    rw [prA_succ (by omega)]
    split
    · rw [List.length_append]; simp; omega
    · omega
theorem take_mpD {l : List H5} {q : Nat} (h : q < l.length) : mpD (l.take (q + 1)) = if has (mpD (l.take q)) (kl (hq l q).n) then mpD (l.take q) else (mpD (l.take q)).put (kl (hq l q).n) (dh (hq l q)) := by
  have e : hq l q = l[q] := by simp [hq, List.getD, h]
  rw [List.take_succ_eq_append_getElem h, mpD_snoc, ← e]

theorem own_keep {base e size n : Nat} {W W' : World} {v : Value} {xs : List Value} (h : W.ownsRow base e size v n xs) (hb : Below W.heap.size W W') : W'.ownsRow base e size v n xs := by
  refine h.kept (row := none) ⟨hb.os, hb.tape, hb.output, hb.size, fun k hk _ => hb.block k hk⟩ ?_
  cases hv : v.ownBlock with
  | none => exact .inl rfl
  | some _ => exact .inr (by simp)

theorem map_keep {W W' : World} {b n : Nat} {D : DataW Unit} (h : W.ownsMap Tryz.prog 3 RH b n D) (hb : Below W.heap.size W W') : W'.ownsMap Tryz.prog 3 RH b n D :=
  h.kept (row := none) ⟨hb.os, hb.tape, hb.output, hb.size, fun k hk _ => hb.block k hk⟩ (by simp)

theorem own_slice {base e size n : Nat} {W : World} {v : Value} {xs : List Value} (h : W.ownsRow base e size v n xs) : ∃ a c, v = .slice a n c := by
  rcases h.2 with ⟨e, h0⟩ | ⟨g, cap, cur, e, -⟩
  · exact ⟨none, 0, by rw [e, h0]⟩
  · exact ⟨_, _, e⟩

def PBox (w wr : World) (vw vn : Value) : Prop := wr.heap[w.heap.size]? = some (.cells #[.slice none 0 0, vw, vn, .slice none 0 0, .slice none 0 0, .slice none 0 0] 30 (0, 0))

set_option maxRecDepth 100000 in
set_option maxHeartbeats 16000000 in
theorem found8_any (vw vn : Value) (L : List W7) (N : List H5) (hl : L.length ≤ 1000) (hn : N.length ≤ 1000) (hwL : ∀ x ∈ L, Wfi x.a) (hwN : ∀ x ∈ N, Wfi x.n) (w : World) (hs : SlW w vw L) (hs' : SlH w vn N) :
    Calls Tryz.prog 8 #[regV vw vn] w fun e w' => ∃ v', e = .returned v' ∧ SlH w' v' (foundR (inP L ++ N)) ∧ Below w.heap.size w w' := by
  have hmm := @run_makeMap Tryz.prog
  have hwA : ∀ x ∈ inP L ++ N, Wfi x.n := by
    intro x hx
    rcases List.mem_append.1 hx with h | h
    · unfold inP at h
      rw [List.mem_map] at h
      obtain ⟨y, hy, rfl⟩ := h
      exact hwL y (List.mem_filter.1 hy).1
    · exact hwN x h
  have HW := Lib.hid hwA
  have HP := Lib.hid (fun q (h : q < L.length) => prA_succ h)
  have HPL := Lib.hid (fun q (h : q ≤ L.length) => prA_len (L := L) q h)
  have HPA : Hid (prA L L.length = inP L) := Lib.hid (by unfold prA; rw [List.take_length])
  have HS' := Lib.hid hs'
  obtain ⟨a, cap, rfl, hd⟩ := hs
  obtain ⟨a', cap', rfl, -, -⟩ := hs'
  obtain ⟨M, hM⟩ : ∃ M, L.length = M := ⟨_, rfl⟩
  obtain ⟨K, hK⟩ : ∃ K, N.length = K := ⟨_, rfl⟩
  have HK := Lib.hid hK
  rw [hM] at hd hl HP HPL HPA ⊢
  rw [hK] at hn HS' ⊢
  have HD := Lib.hid hd
  clear hd hM hK hwA hwL hwN
  unfold regV
  have B0 : Below w.heap.size w (w.alloc (.cells #[.slice none 0 0, .slice a M cap, .slice a' K cap', .slice none 0 0, .slice none 0 0, .slice none 0 0] 30)) := (Below.refl _ w).alloc (Nat.le_refl _) _
  have R0 : PBox w (w.alloc (.cells #[.slice none 0 0, .slice a M cap, .slice a' K cap', .slice none 0 0, .slice none 0 0, .slice none 0 0] 30)) (.slice a M cap) (.slice a' K cap') := alloc_heap_new w _
  have HBZ := Lib.hid (And.intro B0 R0)
  clear B0 R0
  go_enter Tryz.func8, Tryz.ntmps8
  go_wp2_with fail
  go_loopw [3, 17] (fun s i wr => ∃ q : Nat, q ≤ M ∧ i = .int .i64 q ∧ Below w.heap.size w wr ∧ PBox w wr (.slice a M cap) (.slice a' K cap') ∧ wr.ownsRow (w.heap.size + 1) 64 5 s (prA L q).length (hc (prA L q))) (fun _ i _ => M - (intOf i).toNat)
  case atStart => exact ⟨0, by omega, rfl, HBZ.out.1, HBZ.out.2, by simpa [prA, inP, hc] using World.ownsRow_nil _ _ 64 5⟩
  case round =>
    clear HBZ
    obtain ⟨q, hq0, rfl, hbel, hbx, hown⟩ := hrel
    have hsz := (Array.getElem?_eq_some_iff.1 hbx).1
    by_cases hqn : q < M
    · obtain ⟨b, off, rfl, hcd⟩ := HD.out (by omega)
      obtain ⟨c0, c1, c2, c3, c4, c5, c6⟩ := (hcd q hqn).keep hbel
      have HPq := Lib.hid (HP.out q hqn)
      have HLq := Lib.hid (HPL.out q hq0)
      generalize wq L q = x at c0 c1 c2 c3 c4 c5 c6 HPq
      obtain ⟨xp, xk, xa, xsh, xbk, xtb, xtn⟩ := x
      dsimp only at c0 c1 c2 c3 c4 c5 c6
      have j1 : decide ((q : Int) < (M : Int)) = true := by simp; omega
      have p0 : (q : Int) < (M : Int) := by omega
      have k1 := w64 ((q : Int) + 1) (by omega)
      have al : Below wr.heap.size wr (wr.alloc (.cells #[.int .i64 xp, .int .i64 xk, .int .i64 xa, .int .i64 xsh, .bool xbk, .int .i64 xtb, .int .i64 xtn] 36)) := (Below.refl _ _).alloc (Nat.le_refl _) _
      have hx1 : Hid (PBox w (wr.alloc (.cells #[.int .i64 xp, .int .i64 xk, .int .i64 xa, .int .i64 xsh, .bool xbk, .int .i64 xtb, .int .i64 xtn] 36)) (.slice (some ⟨b, off, none⟩) M cap) (.slice a' K cap')) := Lib.hid ((alloc_heap_old _ _ hsz).trans hbx)
      have hb1 := Lib.hid (hbel.trans (al.mono hbel.size))
      have ho1 := own_keep hown al
      by_cases he : xk = 3
      · subst he
        have al2 : Below (wr.alloc (.cells #[.int .i64 xp, .int .i64 3, .int .i64 xa, .int .i64 xsh, .bool xbk, .int .i64 xtb, .int .i64 xtn] 36)).heap.size (wr.alloc (.cells #[.int .i64 xp, .int .i64 3, .int .i64 xa, .int .i64 xsh, .bool xbk, .int .i64 xtb, .int .i64 xtn] 36)) ((wr.alloc (.cells #[.int .i64 xp, .int .i64 3, .int .i64 xa, .int .i64 xsh, .bool xbk, .int .i64 xtb, .int .i64 xtn] 36)).alloc (.cells #[.int .i64 xa, .int .i64 xp, .int .i64 0, .int .i64 xsh, .bool xbk] 64)) := (Below.refl _ _).alloc (Nat.le_refl _) _
        have ho2 := own_keep ho1 al2
        have hone := one_SlH (wr.alloc (.cells #[.int .i64 xp, .int .i64 3, .int .i64 xa, .int .i64 xsh, .bool xbk, .int .i64 xtb, .int .i64 xtn] 36)) ⟨xa, xp, 0, xsh, xbk⟩
        dsimp only at hone
        have hb2 := hb1.out.trans (al2.mono hb1.out.size)
        obtain ⟨v', W', r1, o1, g1, -⟩ := push_h _ (Nat.le_trans (show w.heap.size + 1 ≤ wr.heap.size from hsz) (Nat.le_trans al.size al2.size)) ho2 hone (by have := HLq.out; simp; omega)
        have hfin : Hid (Below w.heap.size w W' ∧ PBox w W' (.slice (some ⟨b, off, none⟩) M cap) (.slice a' K cap') ∧ W'.ownsRow (w.heap.size + 1) 64 5 v' (prA L (q + 1)).length (hc (prA L (q + 1)))) := Lib.hid (by
          refine ⟨hb2.grown g1 hb2.size (fun j e => by have := (ho2.lt j e).1; omega), ?_, ?_⟩
          · have h1 : w.heap.size < ((wr.alloc (.cells #[.int .i64 xp, .int .i64 3, .int .i64 xa, .int .i64 xsh, .bool xbk, .int .i64 xtb, .int .i64 xtn] 36)).alloc (.cells #[.int .i64 xa, .int .i64 xp, .int .i64 0, .int .i64 xsh, .bool xbk] 64)).heap.size := by simp; omega
            refine (g1.block _ h1 (fun e => by have := (ho2.lt _ e.symm).1; omega)).trans ?_
            exact (alloc_heap_old _ _ (by simp; omega)).trans hx1.out
          · rw [HPq.out]
            exact o1)
        rw [World.size_alloc] at r1
        obtain ⟨sa, sc, rfl⟩ := own_slice hown
        obtain ⟨sa', sc', rfl⟩ := own_slice o1
        obtain ⟨n1, hn1⟩ : ∃ n, (prA L q ++ [({ n := xa, p := xp, c := 0, sh := xsh, bk := xbk } : H5)]).length = n := ⟨_, rfl⟩
        obtain ⟨n0, hn0⟩ : ∃ n, (prA L q).length = n := ⟨_, rfl⟩
        rw [hn1] at r1 hfin
        rw [hn0] at r1 ⊢
        clear hbel hbx hcd al al2 hsz ho1 ho2 hone hb2 o1 g1 hown hn1 hn0 HD HP HPL HPA HW HS' hb1 hx1
        go_wp2_with (at_builtin; refine Lib.wpList_append_run _ rfl _ _ _ _ rfl _ _ rfl rfl _ _ r1 ?_)
        exact ⟨⟨q + 1, hqn, by simp, hfin.out.1, hfin.out.2.1, hfin.out.2.2⟩, by simp [intOf]; omega⟩
      · have j2 : ((xk : Int) == 3) = false := by simpa using he
        obtain ⟨sa, sc, rfl⟩ := own_slice hown
        have hfin : Hid ((wr.alloc (.cells #[.int .i64 xp, .int .i64 xk, .int .i64 xa, .int .i64 xsh, .bool xbk, .int .i64 xtb, .int .i64 xtn] 36)).ownsRow (w.heap.size + 1) 64 5 (.slice sa (prA L q).length sc) (prA L (q + 1)).length (hc (prA L (q + 1)))) := Lib.hid (by rw [HPq.out, if_neg he]; exact ho1)
        obtain ⟨n0, hn0⟩ : ∃ n, (prA L q).length = n := ⟨_, rfl⟩
        rw [hn0] at hfin ⊢
        clear hbel hbx hcd al hsz ho1 hown hn0 HD HP HPL HPA HW HS'
        go_wp2_with fail
        exact ⟨⟨q + 1, hqn, by simp, hb1.out, hx1.out, hfin.out⟩, by simp [intOf]; omega⟩
    · have hqM : q = M := by omega
      subst hqM
      have j1 : decide ((q : Int) < (q : Int)) = false := by simp
      rw [HPA.out] at hown
      have r2 : (wr.alloc (.map #[] 0)).cell? ⟨w.heap.size, 2, none⟩ = some (.slice a' K cap') := cell_of ((alloc_heap_old _ _ hsz).trans hbx) rfl
      have al : Below wr.heap.size wr (wr.alloc (.map #[] 0)) := (Below.refl _ _).alloc (Nat.le_refl _) _
      have hm0 := World.ownsMap_made wr Tryz.prog 3 RH
      have ho1 := own_keep hown al
      have hbA := hbel.trans (al.mono hbel.size)
      have hlen : (inP L).length ≤ q := by have := HPL.out q (Nat.le_refl _); rw [HPA.out] at this; exact this
      obtain ⟨v9, W3, r1, o3, g3, hv9⟩ := push_h _ (Nat.le_trans (show w.heap.size + 1 ≤ wr.heap.size from hsz) al.size) ho1 (HS'.out.keep hbA) (by rw [HK.out]; omega)
      have hb3 := Lib.hid (hbA.grown g3 hbA.size (fun j e => by have := (ho1.lt j e).1; omega))
      obtain ⟨B, hB⟩ : ∃ B, wr.heap.size = B := ⟨_, rfl⟩
      have hm3 : W3.ownsMap Tryz.prog 3 RH B 0 (.map []) := by
        rw [← hB]
        exact hm0.kept g3 (fun e => by have := (hown.lt _ e.symm).2; omega)
      obtain ⟨All, hAll⟩ : ∃ A, inP L ++ N = A := ⟨_, rfl⟩
      rw [hAll] at o3 HW
      have HAll := Lib.hid hAll
      have HBlt : Hid (w.heap.size ≤ B) := Lib.hid (by rw [← hB]; exact hbel.size)
      have hs3 := Lib.hid (own_SlH o3)
      replace hm3 := Lib.hid hm3
      obtain ⟨sa, sc, rfl⟩ := own_slice hown
      obtain ⟨ra, rc, rfl⟩ := own_slice o3
      have hT2 : Hid (All.length ≤ 2000) := Lib.hid (by rw [← hAll, List.length_append, HK.out]; omega)
      obtain ⟨T, hT⟩ : ∃ n, All.length = n := ⟨_, rfl⟩
      have HT := Lib.hid hT
      rw [hT] at r1 hs3 hT2
      obtain ⟨n0, hn0⟩ : ∃ n, (inP L).length = n := ⟨_, rfl⟩
      rw [hn0] at r1
      have hTn := hT2.out
      rw [hn0]
      obtain ⟨W1, hW1⟩ : ∃ W1, W1 = wr := ⟨_, rfl⟩
      subst hW1
      clear hbel hbx hown hsz al hm0 ho1 hbA o3 g3 hv9 hlen hn0 hT HD HP HPL HPA HS' hAll
      go_wp2_with (at_builtin; refine Lib.wpList_append_run _ rfl _ _ _ _ rfl _ _ rfl rfl _ _ r1 ?_)
      clear r1 r2
      clear hB
      go_loopw [41] (fun i wr => ∃ p : Nat, p ≤ T ∧ i = .int .i64 p ∧ Below w.heap.size w wr ∧ wr.ownsMap Tryz.prog 3 RH B p (mpD (All.take p)) ∧ SlH wr (.slice ra T rc) All) (fun i _ => T - (intOf i).toNat)
      case atStart => exact ⟨0, by omega, rfl, hb3.out, by simpa [mpD] using hm3.out, hs3.out⟩
      case round =>
        clear hb3 hm3 hs3
        obtain ⟨p, hp0, rfl, hbel, hmp, hsl⟩ := hrel
        by_cases hpn : p < T
        · obtain ⟨a2, c2, e2, ⟨-, -⟩, hh⟩ := _root_.id hsl
          simp only [Value.slice.injEq] at e2
          obtain ⟨rfl, -, rfl⟩ := e2
          obtain ⟨b, off, eb, hcd⟩ := hh (by rw [HT.out]; omega)
          subst eb
          obtain ⟨c0, c1, c2, c3, c4⟩ := hcd p (by rw [HT.out]; exact hpn)
          have hwf : Wfi (hq All p).n := HW.out _ (hq_mem (by rw [HT.out]; exact hpn))
          have HMq := Lib.hid (take_mpD (l := All) (q := p) (by rw [HT.out]; exact hpn))
          generalize hq All p = x at c0 c1 c2 c3 c4 hwf HMq
          obtain ⟨xn, xp, xc, xsh, xbk⟩ := x
          dsimp only at c0 c1 c2 c3 c4 hwf
          have j1 : decide ((p : Int) < (T : Int)) = true := by simp; omega
          have p0 : (p : Int) < (T : Int) := by omega
          have k1 := w64 ((p : Int) + 1) (by omega)
          have al : Below wr.heap.size wr (wr.alloc (.cells #[.int .i64 xn, .int .i64 xp, .int .i64 xc, .int .i64 xsh, .bool xbk] 64)) := (Below.refl _ _).alloc (Nat.le_refl _) _
          have hb1 := hbel.trans (al.mono hbel.size)
          have hm1 := map_keep hmp al
          have hs1 := hsl.keep al
          obtain ⟨y, LK⟩ := look_ok hm1 hwf
          obtain ⟨yn, yp, yc, ysh, ybk⟩ := y
          unfold agH at LK
          dsimp only at LK
          have al2 : Below (wr.alloc (.cells #[.int .i64 xn, .int .i64 xp, .int .i64 xc, .int .i64 xsh, .bool xbk] 64)).heap.size (wr.alloc (.cells #[.int .i64 xn, .int .i64 xp, .int .i64 xc, .int .i64 xsh, .bool xbk] 64)) ((wr.alloc (.cells #[.int .i64 xn, .int .i64 xp, .int .i64 xc, .int .i64 xsh, .bool xbk] 64)).alloc (.cells #[.int .i64 yn, .int .i64 yp, .int .i64 yc, .int .i64 ysh, .bool ybk] 64)) := (Below.refl _ _).alloc (Nat.le_refl _) _
          have hb2 := Lib.hid (hb1.trans (al2.mono hb1.size))
          have hm2 := map_keep hm1 al2
          have hs2 := Lib.hid (hs1.keep al2)
          cases hb : has (mpD (All.take p)) (kl xn) with
          | true =>
            rw [hb] at LK
            have hfin : Hid (((wr.alloc (.cells #[.int .i64 xn, .int .i64 xp, .int .i64 xc, .int .i64 xsh, .bool xbk] 64)).alloc (.cells #[.int .i64 yn, .int .i64 yp, .int .i64 yc, .int .i64 ysh, .bool ybk] 64)).ownsMap Tryz.prog 3 RH B (p + 1) (mpD (All.take (p + 1)))) := Lib.hid (by rw [HMq.out, if_pos hb]; exact hm2.mono (Nat.le_succ p))
            clear hbel hmp hsl hh hcd al hb1 hm1 hs1 al2 hm2 hb hwf
            go_wp2_with fail
            exact ⟨⟨p + 1, hpn, by simp, hb2.out, hfin.out, hs2.out⟩, by simp [intOf]; omega⟩
          | false =>
            rw [hb] at LK
            have hfin : Hid (∀ W' : World, W'.ownsMap Tryz.prog 3 RH B (p + 1) ((mpD (All.take p)).put (kl xn) (dh ⟨xn, xp, xc, xsh, xbk⟩)) → W'.ownsMap Tryz.prog 3 RH B (p + 1) (mpD (All.take (p + 1)))) := Lib.hid (fun W' h => by rw [HMq.out, if_neg (by rw [hb]; simp)]; exact h)
            have hkey := Lib.hid (key3 hwf)
            have hm2H := Lib.hid hm2
            clear hbel hmp hsl hh hcd al hb1 hm1 hs1 al2 hm2 hb hwf
            go_wp2_with (at_mapUpdate; refine wpList_mapUpdate_own _ rfl _ _ _ 65 rfl 3 64 K3 Tryz.underlying65 RH B p _ rfl hm2H.out (by unfold maxLen; omega) _ _ (kl xn) rfl rfl hkey.out (dh ⟨xn, xp, xc, xsh, xbk⟩) [] (RH_ag ⟨xn, xp, xc, xsh, xbk⟩) ?_; intro w9 hown9 hgrow9)
            exact ⟨⟨p + 1, hpn, by simp, hb2.out.grown hgrow9 hb2.out.size (fun j e => by cases e; exact HBlt.out), hfin.out _ hown9, hs2.out.keepM hm2H.out hgrow9⟩, by simp [intOf]; omega⟩
        · have hpT : p = T := by omega
          subst hpT
          have j1 : decide ((p : Int) < (p : Int)) = false := by simp
          have htk : All.take p = All := by rw [← HT.out, List.take_length]
          rw [htk] at hmp
          obtain ⟨W2, hW2⟩ : ∃ W2, W2 = wr := ⟨_, rfl⟩
          subst hW2
          have hsz : size (mpD All) ≤ p := by rw [← HT.out]; exact size_mpD HW.out
          have HKy := Lib.hid (keys13 (some B) W2)
          have HSo := Lib.hid (sorted12 B p (mpD All) RH W2 hmp (Nat.le_trans hsz (by unfold maxLen; omega)) (by omega))
          have al : Below W2.heap.size W2 (W2.alloc (.cells #[.map (some B)] 65)) := (Below.refl _ _).alloc (Nat.le_refl _) _
          have hb5 := Lib.hid (hbel.trans (al.mono hbel.size))
          have hm5 := Lib.hid (map_keep hmp al)
          have e5 : Hid ((W2.alloc (.cells #[.map (some B)] 65)).heap.size = W2.heap.size + 1) := Lib.hid (by simp)
          clear hbel hmp hsl htk hsz al
          go_wp2_with fail
          refine HKy.out.mono ?_
          rintro e w5 ⟨rfl, rfl⟩
          go_wp2_with fail
          refine HSo.out.mono ?_
          rintro e w6 ⟨v6, ss, rfl, hperm, hrow, hb6⟩
          obtain ⟨hS1, hS2⟩ := keys_of HW.out hperm
          have hfk := Lib.hid (found_keys hS1 hS2)
          have hS2H := Lib.hid hS2
          have hSl : (ss.mergeSort (fun x y => decide (x ≤ y))).length = ss.length := (List.mergeSort_perm ss _).length_eq
          have hssl : ss.length ≤ 2000 := by
            have h1 := hperm.length_eq
            have h2 : (Go.intKeys (mpD All)).length = size (mpD All) := by
              obtain ⟨es, e⟩ := (mpD_ok All HW.out).tidy.isMap
              rw [e]
              simp [Go.intKeys, size]
            have h3 := size_mpD HW.out
            have h4 := HT.out
            have h5 := hT2.out
            omega
          obtain ⟨S, hSS⟩ : ∃ S, ss.mergeSort (fun x y => decide (x ≤ y)) = S := ⟨_, rfl⟩
          rw [hSS] at hfk hS2H hSl hrow
          rw [← e5.out] at hb6
          have hb7 := Lib.hid (hb5.out.trans (hb6.mono hb5.out.size))
          have hm6 := Lib.hid (map_keep hm5.out hb6)
          have HKC : Hid (∀ i, i < ss.length → ∃ g, (∃ cp, v6 = .slice (some ⟨g, 0, none⟩) ss.length cp) ∧ w6.cell? ⟨g, i, none⟩ = some (.int .i64 (S.getD i 0))) := Lib.hid (fun i hi => by
            rcases hrow.2 with ⟨e, h0⟩ | ⟨g, cp, cur, e, -⟩
            · omega
            · subst e
              refine ⟨g, ⟨_, rfl⟩, ?_⟩
              rw [hrow.cellAt i (by omega), List.getElem?_map, List.getElem?_eq_getElem (by omega)]
              simp [List.getD, show i < S.length by omega])
          obtain ⟨ka, kc, rfl⟩ := own_slice hrow
          obtain ⟨s, hs⟩ : ∃ n, ss.length = n := ⟨_, rfl⟩
          rw [hs] at HKC hSl hssl
          have hSlH := Lib.hid hSl
          rw [hs]
          have HFr : Hid (foundR (inP L ++ N) = S.map (fun n => (fst All n).getD Reads.h0)) := Lib.hid (by rw [HAll.out]; exact hfk.out.symm)
          clear hperm hrow hb6 hS1 hS2 hSS hs hSl hb5 hm5 e5 HSo HKy hfk
          obtain ⟨F, hF⟩ : ∃ F : Int → H5, F = fun n => (fst All n).getD Reads.h0 := ⟨_, rfl⟩
          have HF : Hid (∀ n, (∃ x ∈ All, x.n = n) → fst All n = some (F n)) := Lib.hid (fun n h => by
            rw [hF]
            cases hf : fst All n with
            | none => obtain ⟨x, hx, e⟩ := h; exact absurd e (fst_none.1 hf x hx)
            | some y => simp [hf])
          rw [← hF] at HFr
          clear hF
          go_wp2_with fail
          go_loopw [11, 63] (fun o i wr => ∃ r : Nat, r ≤ s ∧ i = .int .i64 r ∧ Below w6.heap.size w6 wr ∧ wr.ownsRow w6.heap.size 64 5 o ((S.take r).map F).length (hc ((S.take r).map F))) (fun _ i _ => s - (intOf i).toNat)
          case atStart => exact ⟨0, by omega, rfl, Below.refl _ _, by simpa [hc] using World.ownsRow_nil _ _ 64 5⟩
          case round =>
            obtain ⟨r, hr0, rfl, hbel, hown⟩ := hrel
            by_cases hrn : r < s
            · obtain ⟨g, ⟨cp, hg⟩, kc0⟩ := HKC.out r hrn
              simp only [Value.slice.injEq] at hg
              obtain ⟨rfl, -, -⟩ := hg
              obtain ⟨k, hk⟩ : ∃ k, S.getD r 0 = k := ⟨_, rfl⟩
              have hkS : k ∈ S := by
                rw [← hk, List.getD_eq_getElem?_getD, List.getElem?_eq_getElem (by rw [hSlH.out]; exact hrn)]
                exact List.getElem_mem _
              obtain ⟨x, hxA, hxn⟩ := (hS2H.out k).1 hkS
              have hwf : Wfi k := by rw [← hxn]; exact HW.out x hxA
              have hF1 := HF.out k ⟨x, hxA, hxn⟩
              have hsucc := Lib.hid (show (S.take (r + 1)).map F = (S.take r).map F ++ [F k] by
                rw [List.take_succ_eq_append_getElem (by rw [hSlH.out]; exact hrn), List.map_append]
                have : S[r]'(by rw [hSlH.out]; exact hrn) = k := by rw [← hk, List.getD_eq_getElem?_getD, List.getElem?_eq_getElem (by rw [hSlH.out]; exact hrn)]; rfl
                rw [this]
                rfl)
              rw [hk] at kc0
              replace kc0 := keep_cell hbel kc0
              have LK := look_at HW.out (map_keep hm6.out hbel) hwf hF1
              generalize F k = y at LK hsucc
              obtain ⟨yn, yp, yc, ysh, ybk⟩ := y
              unfold agH at LK
              dsimp only at LK
              have al : Below wr.heap.size wr (wr.alloc (.cells #[.int .i64 yn, .int .i64 yp, .int .i64 yc, .int .i64 ysh, .bool ybk] 64)) := (Below.refl _ _).alloc (Nat.le_refl _) _
              have ho1 := own_keep hown al
              have hone := one_SlH wr ⟨yn, yp, yc, ysh, ybk⟩
              dsimp only at hone
              have hb1 := hbel.trans (al.mono hbel.size)
              obtain ⟨v', W', r1, o1, g1, -⟩ := push_h _ hb1.size ho1 hone (by simp; omega)
              have hfin : Hid (Below w6.heap.size w6 W' ∧ W'.ownsRow w6.heap.size 64 5 v' ((S.take (r + 1)).map F).length (hc ((S.take (r + 1)).map F))) := Lib.hid ⟨hb1.grown g1 hb1.size (fun j e => (ho1.lt j e).1), by rw [hsucc.out]; exact o1⟩
              obtain ⟨oa, oc, rfl⟩ := own_slice hown
              obtain ⟨oa', oc', rfl⟩ := own_slice o1
              obtain ⟨n1, hn1⟩ : ∃ n, ((S.take r).map F ++ [({ n := yn, p := yp, c := yc, sh := ysh, bk := ybk } : H5)]).length = n := ⟨_, rfl⟩
              obtain ⟨n2, hn2⟩ : ∃ n, ((S.take r).map F).length = n := ⟨_, rfl⟩
              rw [hn1] at r1 hfin
              rw [hn2] at r1 ⊢
              have j1 : decide ((r : Int) < (s : Int)) = true := by simp; omega
              have p0 : (r : Int) < (s : Int) := by omega
              have k1 := w64 ((r : Int) + 1) (by omega)
              clear hbel hown al ho1 hone hb1 o1 g1 hn1 hn2 hk hkS hxA hxn hwf hF1 hsucc HKC
              go_wp2_with (at_builtin; refine Lib.wpList_append_run _ rfl _ _ _ _ rfl _ _ rfl rfl _ _ r1 ?_)
              exact ⟨⟨r + 1, hrn, by simp, hfin.out.1, hfin.out.2⟩, by simp [intOf]; omega⟩
            · have hrs : r = s := by omega
              subst hrs
              have j1 : decide ((r : Int) < (r : Int)) = false := by simp
              have htk : S.take r = S := by rw [← hSlH.out, List.take_length]
              rw [htk, ← HFr.out] at hown
              have hfin := Lib.hid (And.intro (own_SlH hown) (hb7.out.trans (hbel.mono hb7.out.size)))
              obtain ⟨oa, oc, rfl⟩ := own_slice hown
              clear hbel hown htk
              go_wp2_with fail
              go_ret
              exact ⟨_, rfl, hfin.out.1, hfin.out.2⟩

end Go.Proofs.YtdnljbdngbphnaaGreat
