/- Walks: the law BenchesReads. -/
import Derived.Test.YtdnljbdngbphnaaGreatF2
import Derived.Test.YtdnljbdngbphnaaGreatF6
import Derived.Test.YtdnljbdngbphnaaGreatF8
import Derived.Test.YtdnljbdngbphnaaGreatVG
namespace Go.Proofs.YtdnljbdngbphnaaGreat
open Go Go.RowKit Go.Proofs Go.Reads Go.Abs

def RdV (vw vn : Value) (x : W7) (e : Int) (F : List H5) : Nat → Value → World → Prop
  | 0, v, _ => v = agW x
  | 1, v, _ => v = agW x
  | 4, v, _ => v = .int .i64 e
  | 5, v, _ => v = .int .i64 e
  | 9, v, _ => v = regV vw vn
  | 10, v, W => SlH W v F
  | 11, v, _ => v = regV vw vn
  | 12, v, W => SlH W v F
  | _, v, _ => v = .bool true

theorem RdV.keep {vw vn : Value} {x : W7} {e : Int} {F : List H5} : ∀ i v W W', RdV vw vn x e F i v W → Below W.heap.size W W' → RdV vw vn x e F i v W'
  | 0, _, _, _, h, _ => h
  | 1, _, _, _, h, _ => h
  | 2, _, _, _, h, _ => h
  | 3, _, _, _, h, _ => h
  | 4, _, _, _, h, _ => h
  | 5, _, _, _, h, _ => h
  | 6, _, _, _, h, _ => h
  | 7, _, _, _, h, _ => h
  | 8, _, _, _, h, _ => h
  | 9, _, _, _, h, _ => h
  | 10, _, _, _, h, hb => SlH.keep h hb
  | 11, _, _, _, h, _ => h
  | 12, _, _, _, h, hb => SlH.keep h hb
  | _ + 13, _, _, _, h, _ => h

def RgAt (w : World) (b : Nat) (vw vn : Value) : Prop := w.heap[b]? = some (.cells #[.slice none 0 0, vw, vn, .slice none 0 0, .slice none 0 0, .slice none 0 0] 30 (0, 0))
def WbAt (w : World) (b : Nat) (x : W7) : Prop := w.heap[b]? = some (.cells #[.int .i64 x.p, .int .i64 x.k, .int .i64 x.a, .int .i64 x.sh, .bool x.bk, .int .i64 x.tb, .int .i64 x.tn] 36 (0, 0))

set_option maxRecDepth 100000 in
set_option maxHeartbeats 16000000 in
theorem reads_law (v0 v1 : Value) (L : List W7) (N : List H5) (n : Int) (w : World) (hs : SlW w v0 L) (hs' : SlH w v1 N) (hwL : ∀ x ∈ L, Wfi x.a) (hwN : ∀ x ∈ N, Wfi x.n)
    (AW : Hid (∀ W, Calls Tryz.prog 4 #[] W fun e w' => e = .returned (.bool true) ∧ Below W.heap.size W w')) :
    Calls Tryz.prog 3 #[v0, v1, .int .i64 n] w fun e w' => e = .returned (.bool true) ∧ Below w.heap.size w w' := by
  have HS := Lib.hid hs
  have HS' := Lib.hid hs'
  obtain ⟨a0, c0, rfl, -⟩ := hs
  obtain ⟨a1, c1, rfl, -, -⟩ := hs'
  by_cases l1 : (L.length : Int) > 1000
  · have j1 : decide ((L.length : Int) > 1000) = true := by simp; omega
    obtain ⟨M, hM⟩ : ∃ M, L.length = M := ⟨_, rfl⟩
    rw [hM] at j1 ⊢
    clear hM l1 HS HS' hwL hwN
    go_enter Tryz.func3, Tryz.ntmps3
    go_wp2_with fail
    refine (AW.out _).mono ?_
    rintro e w1 ⟨rfl, hb⟩
    go_wp2
    go_ret
    exact ⟨rfl, hb⟩
  · by_cases l2 : (N.length : Int) > 1000
    · have j1 : decide ((L.length : Int) > 1000) = false := by simp; omega
      have j2 : decide ((N.length : Int) > 1000) = true := by simp; omega
      obtain ⟨M, hM⟩ : ∃ M, L.length = M := ⟨_, rfl⟩
      obtain ⟨K, hK⟩ : ∃ M, N.length = M := ⟨_, rfl⟩
      rw [hM] at j1 ⊢
      rw [hK] at j2 ⊢
      clear hM hK l1 l2 HS HS' hwL hwN
      go_enter Tryz.func3, Tryz.ntmps3
      go_wp2_with fail
      refine (AW.out _).mono ?_
      rintro e w1 ⟨rfl, hb⟩
      go_wp2
      go_ret
      exact ⟨rfl, hb⟩
    · have j1 : decide ((L.length : Int) > 1000) = false := by simp; omega
      have j2 : decide ((N.length : Int) > 1000) = false := by simp; omega
      have hL : L.length ≤ 1000 := by omega
      have hN : N.length ≤ 1000 := by omega
      obtain ⟨vw, hvw⟩ : ∃ v, Value.slice a0 L.length c0 = v := ⟨_, rfl⟩
      obtain ⟨vn, hvn⟩ : ∃ v, Value.slice a1 N.length c1 = v := ⟨_, rfl⟩
      have C5 := Lib.hid (fun W (hb : Below w.heap.size w W) => where5_any vw vn L n hL W (by rw [← hvw]; exact HS.out.keep hb))
      have C6 := Lib.hid (fun W (hb : Below w.heap.size w W) => where6_any vw vn L n hL W (by rw [← hvw]; exact HS.out.keep hb))
      have C8 := Lib.hid (fun W (hb : Below w.heap.size w W) => found8_any vw vn L N hL hN hwL hwN W (by rw [← hvw]; exact HS.out.keep hb) (by rw [← hvn]; exact HS'.out.keep hb))
      have C9 := Lib.hid (fun W (hb : Below w.heap.size w W) => found9_any vw vn L N hL hN W (by rw [← hvw]; exact HS.out.keep hb) (by rw [← hvn]; exact HS'.out.keep hb))
      have hFl : Hid ((foundR (inP L ++ N)).length ≤ 100000) := Lib.hid (by
        have h1 := found_all L N
        rw [← h1]
        have h2 := post_len (Z := pre L L.length) (N := N) N.length (Nat.le_refl _)
        have h3 := pre_len (L := L) L.length (Nat.le_refl _)
        omega)
      obtain ⟨F, hF⟩ : ∃ F, foundR (inP L ++ N) = F := ⟨_, rfl⟩
      rw [hF] at C8 C9 hFl
      obtain ⟨x, hx⟩ : ∃ x, (wfind L n).1 = x := ⟨_, rfl⟩
      obtain ⟨ee, hee⟩ : ∃ x, (wfind L n).2 = x := ⟨_, rfl⟩
      rw [hx, hee] at C5 C6
      obtain ⟨M, hM⟩ : ∃ M, L.length = M := ⟨_, rfl⟩
      obtain ⟨K, hK⟩ : ∃ M, N.length = M := ⟨_, rfl⟩
      rw [hM] at j1 hvw ⊢
      rw [hK] at j2 hvn ⊢
      subst hvw
      subst hvn
      clear hM hK l1 l2 HS HS' hwL hwN hL hN hF hx hee
      have al1 : Below w.heap.size w (w.alloc (.cells #[.slice none 0 0, .slice a0 M c0, .slice a1 K c1, .slice none 0 0, .slice none 0 0, .slice none 0 0] 30)) := (Below.refl _ _).alloc (Nat.le_refl _) _
      have R1 : RgAt (w.alloc (.cells #[.slice none 0 0, .slice a0 M c0, .slice a1 K c1, .slice none 0 0, .slice none 0 0, .slice none 0 0] 30)) w.heap.size (.slice a0 M c0) (.slice a1 K c1) := alloc_heap_new w _
      have C5a := Lib.hid (C5.out _ al1)
      replace al1 := Lib.hid al1
      replace R1 := Lib.hid R1
      unfold regV agW at C5a
      go_enter Tryz.func3, Tryz.ntmps3
      go_wp2_with fail
      refine C5a.out.mono ?_
      rintro e w1 ⟨rfl, hb1⟩
      have al2 : Below w1.heap.size w1 (w1.alloc (.cells #[.int .i64 x.p, .int .i64 x.k, .int .i64 x.a, .int .i64 x.sh, .bool x.bk, .int .i64 x.tb, .int .i64 x.tn] 36)) := (Below.refl _ _).alloc (Nat.le_refl _) _
      have hbw1 := al1.out.trans (hb1.mono al1.out.size)
      have hbw2 := hbw1.trans (al2.mono hbw1.size)
      have hR1lt := (Array.getElem?_eq_some_iff.1 R1.out).1
      have R2 : RgAt (w1.alloc (.cells #[.int .i64 x.p, .int .i64 x.k, .int .i64 x.a, .int .i64 x.sh, .bool x.bk, .int .i64 x.tb, .int .i64 x.tn] 36)) w.heap.size (.slice a0 M c0) (.slice a1 K c1) := (al2.block _ (Nat.lt_of_lt_of_le hR1lt hb1.size)).trans ((hb1.block _ hR1lt).trans R1.out)
      have P2 : WbAt (w1.alloc (.cells #[.int .i64 x.p, .int .i64 x.k, .int .i64 x.a, .int .i64 x.sh, .bool x.bk, .int .i64 x.tb, .int .i64 x.tn] 36)) w1.heap.size x := alloc_heap_new w1 _
      have C6a := Lib.hid (C6.out _ hbw2)
      have r0 : (w1.alloc (.cells #[.int .i64 x.p, .int .i64 x.k, .int .i64 x.a, .int .i64 x.sh, .bool x.bk, .int .i64 x.tb, .int .i64 x.tn] 36)).cell? ⟨w.heap.size, 0, none⟩ = some (.slice none 0 0) := cell_of R2 rfl
      have r1 : (w1.alloc (.cells #[.int .i64 x.p, .int .i64 x.k, .int .i64 x.a, .int .i64 x.sh, .bool x.bk, .int .i64 x.tb, .int .i64 x.tn] 36)).cell? ⟨w.heap.size, 1, none⟩ = some (.slice a0 M c0) := cell_of R2 rfl
      have r2 : (w1.alloc (.cells #[.int .i64 x.p, .int .i64 x.k, .int .i64 x.a, .int .i64 x.sh, .bool x.bk, .int .i64 x.tb, .int .i64 x.tn] 36)).cell? ⟨w.heap.size, 2, none⟩ = some (.slice a1 K c1) := cell_of R2 rfl
      have r3 : (w1.alloc (.cells #[.int .i64 x.p, .int .i64 x.k, .int .i64 x.a, .int .i64 x.sh, .bool x.bk, .int .i64 x.tb, .int .i64 x.tn] 36)).cell? ⟨w.heap.size, 3, none⟩ = some (.slice none 0 0) := cell_of R2 rfl
      have r4 : (w1.alloc (.cells #[.int .i64 x.p, .int .i64 x.k, .int .i64 x.a, .int .i64 x.sh, .bool x.bk, .int .i64 x.tb, .int .i64 x.tn] 36)).cell? ⟨w.heap.size, 4, none⟩ = some (.slice none 0 0) := cell_of R2 rfl
      have r5 : (w1.alloc (.cells #[.int .i64 x.p, .int .i64 x.k, .int .i64 x.a, .int .i64 x.sh, .bool x.bk, .int .i64 x.tb, .int .i64 x.tn] 36)).cell? ⟨w.heap.size, 5, none⟩ = some (.slice none 0 0) := cell_of R2 rfl
      replace R2 := Lib.hid R2
      replace P2 := Lib.hid P2
      replace hbw2 := Lib.hid hbw2
      unfold regV agW at C6a
      clear al2 hbw1 hR1lt hb1 R1 al1 C5a C5 C6
      go_wp2_with fail
      refine C6a.out.mono ?_
      rintro e w2 ⟨rfl, hb2⟩
      have al3 : Below w2.heap.size w2 (w2.alloc (.cells #[.int .i64 x.p, .int .i64 x.k, .int .i64 x.a, .int .i64 x.sh, .bool x.bk, .int .i64 x.tb, .int .i64 x.tn] 36)) := (Below.refl _ _).alloc (Nat.le_refl _) _
      have hbw3 := hbw2.out.trans (hb2.mono hbw2.out.size)
      have hb0 := Lib.hid (hbw3.trans (al3.mono hbw3.size))
      have l2R := (Array.getElem?_eq_some_iff.1 R2.out).1
      have l2P := (Array.getElem?_eq_some_iff.1 P2.out).1
      have hR := Lib.hid (And.intro (show RgAt (w2.alloc (.cells #[.int .i64 x.p, .int .i64 x.k, .int .i64 x.a, .int .i64 x.sh, .bool x.bk, .int .i64 x.tb, .int .i64 x.tn] 36)) w.heap.size (.slice a0 M c0) (.slice a1 K c1) from (al3.block _ (Nat.lt_of_lt_of_le l2R hb2.size)).trans ((hb2.block _ l2R).trans R2.out)) (Nat.lt_of_lt_of_le (Nat.lt_of_lt_of_le l2R hb2.size) al3.size))
      have hP := Lib.hid (And.intro (show WbAt (w2.alloc (.cells #[.int .i64 x.p, .int .i64 x.k, .int .i64 x.a, .int .i64 x.sh, .bool x.bk, .int .i64 x.tb, .int .i64 x.tn] 36)) w1.heap.size x from (al3.block _ (Nat.lt_of_lt_of_le l2P hb2.size)).trans ((hb2.block _ l2P).trans P2.out)) (Nat.lt_of_lt_of_le (Nat.lt_of_lt_of_le l2P hb2.size) al3.size))
      have hQ := Lib.hid (And.intro (show WbAt (w2.alloc (.cells #[.int .i64 x.p, .int .i64 x.k, .int .i64 x.a, .int .i64 x.sh, .bool x.bk, .int .i64 x.tb, .int .i64 x.tn] 36)) w2.heap.size x from alloc_heap_new w2 _) (show w2.heap.size < (w2.alloc (.cells #[.int .i64 x.p, .int .i64 x.k, .int .i64 x.a, .int .i64 x.sh, .bool x.bk, .int .i64 x.tb, .int .i64 x.tn] 36)).heap.size by simp))
      have H8 := Lib.hid (fun W (hb : Below (w2.alloc (.cells #[.int .i64 x.p, .int .i64 x.k, .int .i64 x.a, .int .i64 x.sh, .bool x.bk, .int .i64 x.tb, .int .i64 x.tn] 36)).heap.size (w2.alloc (.cells #[.int .i64 x.p, .int .i64 x.k, .int .i64 x.a, .int .i64 x.sh, .bool x.bk, .int .i64 x.tb, .int .i64 x.tn] 36)) W) => C8.out W (hb0.out.trans (hb.mono hb0.out.size)))
      have H9 := Lib.hid (fun W (hb : Below (w2.alloc (.cells #[.int .i64 x.p, .int .i64 x.k, .int .i64 x.a, .int .i64 x.sh, .bool x.bk, .int .i64 x.tb, .int .i64 x.tn] 36)).heap.size (w2.alloc (.cells #[.int .i64 x.p, .int .i64 x.k, .int .i64 x.a, .int .i64 x.sh, .bool x.bk, .int .i64 x.tb, .int .i64 x.tn] 36)) W) => C9.out W (hb0.out.trans (hb.mono hb0.out.size)))
      clear al3 hbw3 l2R l2P hb2 R2 P2 hbw2 C6a C8 C9 r0 r1 r2 r3 r4 r5
      go_wp2_with fail
      generalize w2.alloc (.cells #[.int .i64 x.p, .int .i64 x.k, .int .i64 x.a, .int .i64 x.sh, .bool x.bk, .int .i64 x.tb, .int .i64 x.tn] 36) = w3 at hb0 hR hP hQ H8 H9 ⊢
      generalize w.heap.size = bR at hR ⊢
      generalize w1.heap.size = bP at hP ⊢
      generalize w2.heap.size = bQ at hQ ⊢
      obtain ⟨vw, hvw⟩ : ∃ v, Value.slice a0 M c0 = v := ⟨_, rfl⟩
      obtain ⟨vn, hvn⟩ : ∃ v, Value.slice a1 K c1 = v := ⟨_, rfl⟩
      rw [hvw] at hR H8 H9
      rw [hvn] at hR H8 H9
      clear hvw hvn j1 j2
      refine wp_region_valsG (RdV vw vn x ee F) (by kernel_rfl) (by kernel_rfl) RdV.keep ?_ ?_ ?_
      · intro i o g bb ho hg v W hv
        have hi : i < 19 := by have := (List.getElem?_eq_some_iff.1 ho).1; simpa using this
        obtain rfl | rfl | rfl | rfl | rfl | rfl | rfl | rfl | rfl | rfl | rfl | rfl | rfl | rfl | rfl | rfl | rfl | rfl | rfl : i = 0 ∨ i = 1 ∨ i = 2 ∨ i = 3 ∨ i = 4 ∨ i = 5 ∨ i = 6 ∨ i = 7 ∨ i = 8 ∨ i = 9 ∨ i = 10 ∨ i = 11 ∨ i = 12 ∨ i = 13 ∨ i = 14 ∨ i = 15 ∨ i = 16 ∨ i = 17 ∨ i = 18 := by omega
        all_goals simp only [List.getElem?_cons_zero, List.getElem?_cons_succ, Option.some.injEq] at ho
        all_goals subst ho
        all_goals simp only [Option.some.injEq, Prod.mk.injEq, reduceCtorEq] at hg
        all_goals (obtain ⟨rfl, rfl⟩ := hg; exact hv)
      · intro i o ho a' W hW hfr hdep
        have f7 : a'.tmps[7]?.getD undef = .pointer (some ⟨bR, 0, none⟩) := Array.getD_eq_getD_getElem?.symm.trans (hfr 7 rfl)
        have f8 : a'.tmps[8]?.getD undef = .pointer (some ⟨bP, 0, none⟩) := Array.getD_eq_getD_getElem?.symm.trans (hfr 8 rfl)
        have f10 : a'.tmps[10]?.getD undef = .pointer (some ⟨bQ, 0, none⟩) := Array.getD_eq_getD_getElem?.symm.trans (hfr 10 rfl)
        have f9 : a'.tmps[9]?.getD undef = .int .i64 ee := Array.getD_eq_getD_getElem?.symm.trans (hfr 9 rfl)
        have f11 : a'.tmps[11]?.getD undef = .int .i64 ee := Array.getD_eq_getD_getElem?.symm.trans (hfr 11 rfl)
        clear hfr
        have gR := (hW.block _ hR.out.2).trans hR.out.1
        have gP := (hW.block _ hP.out.2).trans hP.out.1
        have gQ := (hW.block _ hQ.out.2).trans hQ.out.1
        have gR0 : W.cell? ⟨bR, 0, none⟩ = some (.slice none 0 0) := cell_of gR rfl
        have gR1 : W.cell? ⟨bR, 1, none⟩ = some (vw) := cell_of gR rfl
        have gR2 : W.cell? ⟨bR, 2, none⟩ = some (vn) := cell_of gR rfl
        have gR3 : W.cell? ⟨bR, 3, none⟩ = some (.slice none 0 0) := cell_of gR rfl
        have gR4 : W.cell? ⟨bR, 4, none⟩ = some (.slice none 0 0) := cell_of gR rfl
        have gR5 : W.cell? ⟨bR, 5, none⟩ = some (.slice none 0 0) := cell_of gR rfl
        have gP0 : W.cell? ⟨bP, 0, none⟩ = some (.int .i64 x.p) := cell_of gP rfl
        have gP1 : W.cell? ⟨bP, 1, none⟩ = some (.int .i64 x.k) := cell_of gP rfl
        have gP2 : W.cell? ⟨bP, 2, none⟩ = some (.int .i64 x.a) := cell_of gP rfl
        have gP3 : W.cell? ⟨bP, 3, none⟩ = some (.int .i64 x.sh) := cell_of gP rfl
        have gP4 : W.cell? ⟨bP, 4, none⟩ = some (.bool x.bk) := cell_of gP rfl
        have gP5 : W.cell? ⟨bP, 5, none⟩ = some (.int .i64 x.tb) := cell_of gP rfl
        have gP6 : W.cell? ⟨bP, 6, none⟩ = some (.int .i64 x.tn) := cell_of gP rfl
        have gQ0 : W.cell? ⟨bQ, 0, none⟩ = some (.int .i64 x.p) := cell_of gQ rfl
        have gQ1 : W.cell? ⟨bQ, 1, none⟩ = some (.int .i64 x.k) := cell_of gQ rfl
        have gQ2 : W.cell? ⟨bQ, 2, none⟩ = some (.int .i64 x.a) := cell_of gQ rfl
        have gQ3 : W.cell? ⟨bQ, 3, none⟩ = some (.int .i64 x.sh) := cell_of gQ rfl
        have gQ4 : W.cell? ⟨bQ, 4, none⟩ = some (.bool x.bk) := cell_of gQ rfl
        have gQ5 : W.cell? ⟨bQ, 5, none⟩ = some (.int .i64 x.tb) := cell_of gQ rfl
        have gQ6 : W.cell? ⟨bQ, 6, none⟩ = some (.int .i64 x.tn) := cell_of gQ rfl
        have RE := run_eqlW x.p x.k x.a x.sh x.bk x.tb x.tn
        clear gR gP gQ
        have hi : i < 19 := by have := (List.getElem?_eq_some_iff.1 ho).1; simpa using this
        obtain rfl | rfl | rfl | rfl | rfl | rfl | rfl | rfl | rfl | rfl | rfl | rfl | rfl | rfl | rfl | rfl | rfl | rfl | rfl : i = 0 ∨ i = 1 ∨ i = 2 ∨ i = 3 ∨ i = 4 ∨ i = 5 ∨ i = 6 ∨ i = 7 ∨ i = 8 ∨ i = 9 ∨ i = 10 ∨ i = 11 ∨ i = 12 ∨ i = 13 ∨ i = 14 ∨ i = 15 ∨ i = 16 ∨ i = 17 ∨ i = 18 := by omega
        all_goals simp only [List.getElem?_cons_zero, List.getElem?_cons_succ, Option.some.injEq] at ho
        all_goals subst ho
        · clear hdep
          refine .inl ⟨_, W, ?_, Below.refl _ _, rfl⟩
          unfold agW
          go_simp
        · clear hdep
          refine .inl ⟨_, W, ?_, Below.refl _ _, rfl⟩
          unfold agW
          go_simp
        · have d0 : a'.tmps[36]?.getD undef = .agg #[.int .i64 x.p, .int .i64 x.k, .int .i64 x.a, .int .i64 x.sh, .bool x.bk, .int .i64 x.tb, .int .i64 x.tn] := Array.getD_eq_getD_getElem?.symm.trans (hdep ⟨0, .data⟩ (by simp) rfl 36 rfl)
          have d1 : a'.tmps[37]?.getD undef = .agg #[.int .i64 x.p, .int .i64 x.k, .int .i64 x.a, .int .i64 x.sh, .bool x.bk, .int .i64 x.tb, .int .i64 x.tn] := Array.getD_eq_getD_getElem?.symm.trans (hdep ⟨1, .data⟩ (by simp) rfl 37 rfl)
          clear hdep
          refine .inl ⟨_, W, ?_, Below.refl _ _, rfl⟩
          go_simp
        · have d2 : a'.tmps[38]?.getD undef = .bool true := Array.getD_eq_getD_getElem?.symm.trans (hdep ⟨2, .data⟩ (by simp) rfl 38 rfl)
          clear hdep
          refine .inl ⟨_, W, ?_, Below.refl _ _, rfl⟩
          go_simp
        · clear hdep
          refine .inl ⟨_, W, ?_, Below.refl _ _, rfl⟩
          go_simp
        · clear hdep
          refine .inl ⟨_, W, ?_, Below.refl _ _, rfl⟩
          go_simp
        · have d4 : a'.tmps[40]?.getD undef = .int .i64 ee := Array.getD_eq_getD_getElem?.symm.trans (hdep ⟨4, .data⟩ (by simp) rfl 40 rfl)
          have d5 : a'.tmps[41]?.getD undef = .int .i64 ee := Array.getD_eq_getD_getElem?.symm.trans (hdep ⟨5, .data⟩ (by simp) rfl 41 rfl)
          clear hdep
          refine .inl ⟨_, W, ?_, Below.refl _ _, rfl⟩
          go_simp
        · have d3 : a'.tmps[39]?.getD undef = .bool true := Array.getD_eq_getD_getElem?.symm.trans (hdep ⟨3, .data⟩ (by simp) rfl 39 rfl)
          have d6 : a'.tmps[42]?.getD undef = .bool true := Array.getD_eq_getD_getElem?.symm.trans (hdep ⟨6, .data⟩ (by simp) rfl 42 rfl)
          clear hdep
          refine .inl ⟨_, W, ?_, Below.refl _ _, rfl⟩
          go_simp
        · have d7 : a'.tmps[43]?.getD undef = .bool true := Array.getD_eq_getD_getElem?.symm.trans (hdep ⟨7, .data⟩ (by simp) rfl 43 rfl)
          clear hdep
          refine .inl ⟨_, W, ?_, Below.refl _ _, rfl⟩
          go_simp
        · clear hdep
          refine .inl ⟨_, W, ?_, Below.refl _ _, rfl⟩
          unfold regV
          go_simp
        · have d9 : a'.tmps[45]?.getD undef = regV vw vn := Array.getD_eq_getD_getElem?.symm.trans (hdep ⟨9, .data⟩ (by simp) rfl 45 rfl)
          clear hdep
          refine .inr ⟨8, #[regV vw vn], W, ?_, Below.refl _ _, (H8.out W hW).mono ?_⟩
          · go_simp
          · rintro e W' ⟨v', rfl, hs, hb⟩
            exact ⟨_, rfl, hb, hs⟩
        · clear hdep
          refine .inl ⟨_, W, ?_, Below.refl _ _, rfl⟩
          unfold regV
          go_simp
        · have d11 : a'.tmps[47]?.getD undef = regV vw vn := Array.getD_eq_getD_getElem?.symm.trans (hdep ⟨11, .data⟩ (by simp) rfl 47 rfl)
          clear hdep
          refine .inr ⟨9, #[regV vw vn], W, ?_, Below.refl _ _, (H9.out W hW).mono ?_⟩
          · go_simp
          · rintro e W' ⟨v', rfl, hs, hb⟩
            exact ⟨_, rfl, hb, hs⟩
        · have d10 : SlH W (a'.tmps[46]?.getD undef) F := by have := hdep ⟨10, .data⟩ (by simp) rfl 46 rfl; rw [← Array.getD_eq_getD_getElem?]; exact this
          have d12 : SlH W (a'.tmps[48]?.getD undef) F := by have := hdep ⟨12, .data⟩ (by simp) rfl 48 rfl; rw [← Array.getD_eq_getD_getElem?]; exact this
          clear hdep
          refine .inr ⟨7, #[a'.tmps[46]?.getD undef, a'.tmps[48]?.getD undef], W, ?_, Below.refl _ _, (same7_any _ _ F hFl.out W d10 d12).mono ?_⟩
          · go_simp
          · rintro e W' ⟨rfl, hb⟩
            exact ⟨_, rfl, hb, rfl⟩
        · have d8 : a'.tmps[44]?.getD undef = .bool true := Array.getD_eq_getD_getElem?.symm.trans (hdep ⟨8, .data⟩ (by simp) rfl 44 rfl)
          have d13 : a'.tmps[49]?.getD undef = .bool true := Array.getD_eq_getD_getElem?.symm.trans (hdep ⟨13, .data⟩ (by simp) rfl 49 rfl)
          clear hdep
          refine .inl ⟨_, W, ?_, Below.refl _ _, rfl⟩
          go_simp
        · have d14 : a'.tmps[50]?.getD undef = .bool true := Array.getD_eq_getD_getElem?.symm.trans (hdep ⟨14, .data⟩ (by simp) rfl 50 rfl)
          clear hdep
          refine .inl ⟨_, W, ?_, Below.refl _ _, rfl⟩
          go_simp
        · clear hdep
          refine .inr ⟨4, #[], W, ?_, Below.refl _ _, (AW.out W).mono ?_⟩
          · go_simp
          · rintro e W' ⟨rfl, hb⟩
            exact ⟨_, rfl, hb, rfl⟩
        · have d15 : a'.tmps[51]?.getD undef = .bool true := Array.getD_eq_getD_getElem?.symm.trans (hdep ⟨15, .data⟩ (by simp) rfl 51 rfl)
          have d16 : a'.tmps[52]?.getD undef = .bool true := Array.getD_eq_getD_getElem?.symm.trans (hdep ⟨16, .data⟩ (by simp) rfl 52 rfl)
          clear hdep
          refine .inl ⟨_, W, ?_, Below.refl _ _, rfl⟩
          go_simp
        · have d17 : a'.tmps[53]?.getD undef = .bool true := Array.getD_eq_getD_getElem?.symm.trans (hdep ⟨17, .data⟩ (by simp) rfl 53 rfl)
          clear hdep
          refine .inl ⟨_, W, ?_, Below.refl _ _, rfl⟩
          go_simp
      · intro W hW
        simp only [List.map_cons, List.map_nil, VQG, RdV]
        rintro _ rfl _ rfl _ rfl _ rfl _ rfl _ rfl _ rfl _ rfl _ rfl _ rfl v10 s10 _ rfl v12 s12 _ rfl _ rfl _ rfl _ rfl _ rfl _ rfl
        simp only [List.setIfInBounds_toArray, List.set_cons_succ, List.set_cons_zero]
        have hfin := Lib.hid (hb0.out.trans (hW.mono hb0.out.size))
        clear hW s10 s12 H8 H9 hR hP hQ AW hb0
        go_wp2
        go_ret
        exact ⟨rfl, hfin.out⟩


end Go.Proofs.YtdnljbdngbphnaaGreat
