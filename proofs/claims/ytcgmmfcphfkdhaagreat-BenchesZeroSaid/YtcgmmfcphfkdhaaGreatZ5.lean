/- Walks: the law BenchesZero. -/
import Derived.Test.YtcgmmfcphfkdhaaGreatZ4
import Derived.Test.YtcgmmfcphfkdhaaGreatZ3
import Derived.Test.YtcgmmfcphfkdhaaGreatZ2
import Derived.Test.YtcgmmfcphfkdhaaGreatVH
import Derived.Test.YtcgmmfcphfkdhaaGreatB4
import Derived.Test.YtcgmmfcphfkdhaaGreatD8a
namespace Go.Proofs.YtcgmmfcphfkdhaaGreat
open Go Go.RowKit Go.Proofs Go.Torn Go.Abs

def ZV (A n c0 : Nat) (a0 : Option Addr) (D : List Nat) : Nat → Value → World → Prop
  | 0, v, _ => v = .pointer (some ⟨A, 0, none⟩)
  | 1, v, _ => v = .slice a0 n c0
  | 2, v, _ => v = .int .i64 0
  | 3, v, _ => v = .bool false
  | 4, v, _ => v = .bool false
  | 5, v, _ => v = .pointer (some ⟨A, 0, none⟩)
  | 6, v, W => SlB W v D
  | 7, v, _ => v = .string (strB D)
  | 8, v, _ => v = .slice a0 n c0
  | 9, v, _ => v = .string (strB D)
  | 10, v, _ => v = .bool false
  | 11, v, _ => v = .bool false
  | 12, v, _ => v = .bool false
  | 13, v, _ => v = .pointer (some ⟨A, 0, none⟩)
  | 14, v, _ => v = .int .i64 (n : Nat)
  | 15, v, _ => v = .slice a0 n c0
  | 16, v, _ => v = .int .i64 (n : Nat)
  | 17, v, _ => v = .bool false
  | _, v, _ => v = .bool false

theorem ZV.pure {A n c0 : Nat} {a0 : Option Addr} {D : List Nat} : ∀ i v W W', i ≠ 6 → ZV A n c0 a0 D i v W → ZV A n c0 a0 D i v W'
  | 0, _, _, _, _, h => h
  | 1, _, _, _, _, h => h
  | 2, _, _, _, _, h => h
  | 3, _, _, _, _, h => h
  | 4, _, _, _, _, h => h
  | 5, _, _, _, _, h => h
  | 6, _, _, _, hn, _ => absurd rfl hn
  | 7, _, _, _, _, h => h
  | 8, _, _, _, _, h => h
  | 9, _, _, _, _, h => h
  | 10, _, _, _, _, h => h
  | 11, _, _, _, _, h => h
  | 12, _, _, _, _, h => h
  | 13, _, _, _, _, h => h
  | 14, _, _, _, _, h => h
  | 15, _, _, _, _, h => h
  | 16, _, _, _, _, h => h
  | 17, _, _, _, _, h => h
  | _ + 18, _, _, _, _, h => h

def ZR (A : Nat) (D : List Nat) (j : Nat) (W W' : World) : Prop := if j = 2 then (∃ v', PD A W' A v' D 0) ∧ Below A W W' else Below W.heap.size W W'

structure ZG (A : Nat) (D : List Nat) (w2 : World) (listed : Array Bool) (W : World) : Prop where
  up : isIn listed 2 = false → ∀ i, 2 ≤ i → isIn listed i = false
  lo : A < W.heap.size
  bel : Below A w2 W
  yes : isIn listed 2 = true → ∃ v', PD A W A v' D 0
  no : isIn listed 2 = false → PD A W A (.slice none 0 0) [] 0

theorem ZR.same {A : Nat} {D : List Nat} {j : Nat} {W : World} (h : j ≠ 2) : ZR A D j W W := by
  unfold ZR; rw [if_neg h]; exact Below.refl _ _
theorem ZR.low {A : Nat} {D : List Nat} {j : Nat} {W W' : World} (h : j ≠ 2) (hb : Below W.heap.size W W') : ZR A D j W W' := by
  unfold ZR; rw [if_neg h]; exact hb

theorem ZG.step {A : Nat} {D : List Nat} {w2 W W' : World} {listed : Array Bool} {j : Nat} (hl : j < listed.size) (h : ZG A D w2 listed W) (hj : isIn listed 2 = false → j ≤ 2) (hR : ZR A D j W W') : ZG A D w2 (listed.setIfInBounds j true) W' := by
  unfold ZR at hR
  by_cases e : j = 2
  · subst e
    rw [if_pos rfl] at hR
    have y : isIn (listed.setIfInBounds 2 true) 2 = true := by rw [isIn_set hl]; simp
    refine ⟨fun n => ?_, Nat.lt_of_lt_of_le h.lo hR.2.size, h.bel.trans hR.2, fun _ => hR.1, fun n => ?_⟩
    · rw [y] at n; cases n
    · rw [y] at n; cases n
  · rw [if_neg e] at hR
    have s : isIn (listed.setIfInBounds j true) 2 = isIn listed 2 := by rw [isIn_set hl]; simp [Ne.symm e]
    refine ⟨fun n i hi => ?_, Nat.lt_of_lt_of_le h.lo hR.size, h.bel.trans (hR.mono (Nat.le_of_lt h.lo)), fun y => ?_, fun n => ?_⟩
    · rw [s] at n
      have := hj n
      rw [isIn_set hl, h.up n i hi]
      simp; omega
    · rw [s] at y
      obtain ⟨v', hv⟩ := h.yes y
      exact ⟨v', hv.low hR⟩
    · rw [s] at n
      exact (h.no n).low hR

theorem lcf_of {W : World} {b o n : Nat} (c : Array Value) (hn : c.size = n) (h : ∀ j v, c[j]? = some v → W.cell? ⟨b, o + j, none⟩ = some v) : (loadCellsFrom ⟨b, o, none⟩ 0 n #[]).run Tryz.prog W = .ok c W := by
  subst hn
  have := run_loadCells_list (P := Tryz.prog) (w := W) ⟨b, o, none⟩ c.toList (fun j v hv => by
    have hadd : (⟨b, o, none⟩ : Addr).add j = ⟨b, o + j, none⟩ := by unfold Addr.add; split <;> simp_all
    rw [hadd]
    exact h j v (by simpa using hv))
  simpa [loadCells] using this

theorem alloc_old (w : World) (o : Obj) {k : Nat} (h : k < w.heap.size) : (w.alloc o).heap[k]? = w.heap[k]? := by
  show (w.heap.push o)[k]? = _
  rw [Array.getElem?_push, if_neg (by omega)]

theorem cell_at {w : World} {b k : Nat} {c : Array Value} {t : TypeId} {fr : Nat × Nat} {v : Value} (h : w.heap[b]? = some (.cells c t fr)) (hv : c[k]? = some v) : w.cell? ⟨b, k, none⟩ = some v := by
  unfold World.cell?
  simp [h, hv]

set_option maxRecDepth 100000 in
set_option maxHeartbeats 16000000 in
theorem zero_law (u0 : Value) (D : List Nat) (keep flip : Int) (E : Array Value) (eb : Int) (hE : E.size = 35) (hE1 : E[1]? = some (.int .i64 eb)) (p4 : Option Addr) (l4 c4 : Nat) (w : World) (hs : SlB w u0 D) (hy : By D)
    (AW : Hid (∀ W, Calls Tryz.prog 10 #[] W fun e w' => e = .returned (.bool true) ∧ Below W.heap.size W w')) :
    Calls Tryz.prog 9 #[u0, .int .i64 keep, .int .i64 flip, .agg E, .slice p4 l4 c4] w fun e w' => e = .returned (.bool true) ∧ Below w.heap.size w w' := by
  have HS := Lib.hid hs
  obtain ⟨a0, c0, rfl, -, -⟩ := hs
  obtain ⟨n, hn⟩ : ∃ n, D.length = n := ⟨_, rfl⟩
  have HN := Lib.hid hn
  rw [hn] at HS ⊢
  clear hn
  have b1 := ((Below.refl w.heap.size w).alloc (Nat.le_refl _) (Obj.cells E 73))
  by_cases l1 : (n : Int) > 1000
  · have j1 : decide ((n : Int) > 1000) = true := by simp; omega
    have B1 := Lib.hid b1
    clear b1 hy l1 hE1
    go_enter Tryz.func9, Tryz.ntmps9
    go_wp2_with fail
    refine (AW.out _).mono ?_
    rintro e w1 ⟨rfl, hb⟩
    have hfin := Lib.hid (B1.out.trans (hb.mono B1.out.size))
    clear hb
    go_wp2
    go_ret
    exact ⟨rfl, hfin.out⟩
  · have j1 : decide ((n : Int) > 1000) = false := by simp; omega
    by_cases l2 : (l4 : Int) > 100
    · have j2 : decide ((l4 : Int) > 100) = true := by simp; omega
      have B1 := Lib.hid b1
      clear b1 hy l1 l2 hE1
      go_enter Tryz.func9, Tryz.ntmps9
      go_wp2_with fail
      refine (AW.out _).mono ?_
      rintro e w1 ⟨rfl, hb⟩
      have hfin := Lib.hid (B1.out.trans (hb.mono B1.out.size))
      clear hb
      go_wp2
      go_ret
      exact ⟨rfl, hfin.out⟩
    · have j2 : decide ((l4 : Int) > 100) = false := by simp; omega
      have B1 := Lib.hid b1
      have L1 := Lib.hid l1
      have HE1 := Lib.hid hE1
      clear b1 l1 l2 hE1
      have HY := Lib.hid hy
      clear hy
      have hz := zA_run
      obtain ⟨m, hm, hs40⟩ : ∃ m, 29 = m ∧ ∀ w, (sizeOf 40).run Tryz.prog w = .ok m w := ⟨29, rfl, Tryz.sizeOf40⟩
      have HDO : Hid (∀ (a : Array Value) (v : Value) (w : World), a.size = 29 → NoB w v → Calls Tryz.prog 42 #[v, .agg a] w fun e w' => e = .returned (.tuple #[.agg zA, .int .i64 1]) ∧ Below w.heap.size w w') := Lib.hid (fun a v w h1 h2 => do42 a h1 w h2)
      have HSM : Hid (∀ W, Calls Tryz.prog 23 #[.agg zA, .agg zA] W fun e w' => e = .returned (.bool true) ∧ Below W.heap.size W w') := Lib.hid (fun W => same23 W)
      obtain ⟨Z, hZ, kz1, kz2⟩ : ∃ Z, zA = Z ∧ Z.size = 29 ∧ Z.all (·.oneCell') = true := ⟨_, rfl, by kernel_rfl, by kernel_rfl⟩
      rw [hZ] at hz HDO HSM
      rw [hm] at HDO kz1
      clear hZ
      obtain ⟨N, hN⟩ : ∃ N, E.extract 6 35 = N := ⟨_, rfl⟩
      have kn : N.size = m := by rw [← hN, Array.size_extract, hE, ← hm]; rfl
      have HI40 : Hid ((Tryz.prog.info? 40).map (·.size) = some m) := Lib.hid (by rw [← hm]; kernel_rfl)
      have hm0 : ¬ m = 0 := by omega
      have hm1 : 0 < m := by omega
      have hm2 : m ≤ 16777216 := by omega
      clear hm
      have HNE : Hid (∀ j v, N[j]? = some v → E[6 + j]? = some v) := Lib.hid (fun j v h => by
        rw [← hN, Array.getElem?_extract] at h
        split at h
        · exact h
        · cases h)
      clear hN
      go_enter Tryz.func9, Tryz.ntmps9
      go_wp2_with fail
      refine (nsync33 _).mono ?_
      rintro e w1 ⟨rfl, rfl⟩
      go_wp2_with fail
      refine (nwrite31 _).mono ?_
      rintro e w1 ⟨rfl, rfl⟩
      go_wp2_with fail
      refine (nread39 _).mono ?_
      rintro e w1 ⟨rfl, rfl⟩
      go_wp2_with fail
      refine (npending37 _).mono ?_
      rintro e w1 ⟨rfl, rfl⟩
      go_wp2_with fail
      refine (ncrash35 _ _ _).mono ?_
      rintro e w1 ⟨rfl, rfl⟩
      go_wp2_with fail
      obtain ⟨W1, hW⟩ : ∃ W1, w.alloc (Obj.cells E 73) = W1 := ⟨_, rfl⟩
      have hA : w.heap.size + 1 = W1.heap.size := by rw [← hW]; show _ = (w.heap.push _).size; rw [Array.size_push]
      have hEv : W1.heap[w.heap.size]? = some (.cells E 73 (0, 0)) := by rw [← hW]; exact World.alloc_heap_new w _
      rw [hW] at B1 ⊢
      clear hW
      rw [hA]
      have hlt : w.heap.size < W1.heap.size := by omega
      clear hA
      obtain ⟨A, hA⟩ : ∃ A, W1.heap.size = A := ⟨_, rfl⟩
      rw [hA] at hlt
      have HEc : Hid (∀ W, Below A W1 W → W.heap[w.heap.size]? = some (.cells E 73 (0, 0))) := Lib.hid (fun W hb => by rw [hb.block _ hlt]; exact hEv)
      obtain ⟨W2, hW2⟩ : ∃ W2, W1.alloc (Obj.cells #[Value.slice none 0 0, Value.int IntKind.i64 0] 75) = W2 := ⟨_, rfl⟩
      have hbx : Bx W2 A 75 (.slice none 0 0) (.int .i64 ((0 : Nat) : Int)) := by rw [← hW2, ← hA]; exact bx_new W1 75 _ _
      have hb12 : Below A W1 W2 := by rw [← hW2]; exact (Below.refl A W1).alloc (by omega) _
      have B2 : Hid (Below w.heap.size w W2) := Lib.hid (B1.out.trans (hb12.mono (Nat.le_of_lt (by have := B1.out.size; omega))))
      have HSb : Hid (∀ W, Below A W2 W → SlB W (.slice a0 n c0) D) := Lib.hid (fun W hb => HS.out.keep (B2.out.trans (hb.mono (by omega))))
      rw [hW2]
      have HB12 := Lib.hid hb12
      have HBX := Lib.hid hbx
      have HLT := Lib.hid hlt
      rw [hA]
      clear hW2 hEv hlt hb12 hbx hA
      refine wp_region_valsH (ZV A n c0 a0 D) (ZR A D) (ZG A D W2) (by kernel_rfl) (by kernel_rfl) ?_ ?_ ?_ ?_ ?_ ?_
      · have e : ∀ k, (Value.slice none 0 0).ownBlock = some k → False := fun k e => by cases e
        exact ⟨fun _ i _ => getD_replicate_false _ _, HBX.out.lt, (Below.refl A W2).drew, fun y => absurd y (by unfold isIn; rw [getD_replicate_false]; decide),
          fun _ => ⟨Nat.le_refl _, HBX.out, World.ownsRow_nil _ _ _ _, fun k h => (e k h).elim, Nat.le_refl _, by decide, fun v hv => by simp at hv⟩⟩
      · intro listed j o W W' hsz ho hli hup hG hR
        have hj : j < 19 := by have := (List.getElem?_eq_some_iff.1 ho).1; simpa using this
        refine hG.step (by rw [hsz]; simpa using hj) (fun n2 => ?_) hR
        rcases Nat.lt_or_ge 2 j with h3 | h3
        · exfalso
          have hany : (o.after.toList.any fun e => Region.binds .any e && decide (2 ≤ e.on)) = true := by
            clear hR hup hG n2 hsz hli
            obtain rfl | rfl | rfl | rfl | rfl | rfl | rfl | rfl | rfl | rfl | rfl | rfl | rfl | rfl | rfl | rfl : j = 3 ∨ j = 4 ∨ j = 5 ∨ j = 6 ∨ j = 7 ∨ j = 8 ∨ j = 9 ∨ j = 10 ∨ j = 11 ∨ j = 12 ∨ j = 13 ∨ j = 14 ∨ j = 15 ∨ j = 16 ∨ j = 17 ∨ j = 18 := by omega
            all_goals simp only [List.getElem?_cons_zero, List.getElem?_cons_succ, Option.some.injEq] at ho
            all_goals subst ho
            all_goals rfl
          obtain ⟨e, he, hb⟩ := List.any_eq_true.1 hany
          simp only [Bool.and_eq_true, decide_eq_true_eq] at hb
          have := hup e he hb.1
          rw [hG.up n2 _ hb.2] at this
          cases this
        · exact h3
      · intro listed i j v W W' hi hj hv hG hR
        by_cases e6 : i = 6
        · subst e6
          have j2 : j ≠ 2 := fun e => by
            subst e
            have := hG.up hj 6 (by decide)
            rw [this] at hi
            cases hi
          unfold ZR at hR
          rw [if_neg j2] at hR
          exact SlB.keep hv hR
        · exact ZV.pure i v W W' e6 hv
      · intro i o g bb ho hg v W hv
        have hi : i < 19 := by have := (List.getElem?_eq_some_iff.1 ho).1; simpa using this
        obtain rfl | rfl | rfl | rfl | rfl | rfl | rfl | rfl | rfl | rfl | rfl | rfl | rfl | rfl | rfl | rfl | rfl | rfl | rfl : i = 0 ∨ i = 1 ∨ i = 2 ∨ i = 3 ∨ i = 4 ∨ i = 5 ∨ i = 6 ∨ i = 7 ∨ i = 8 ∨ i = 9 ∨ i = 10 ∨ i = 11 ∨ i = 12 ∨ i = 13 ∨ i = 14 ∨ i = 15 ∨ i = 16 ∨ i = 17 ∨ i = 18 := by omega
        all_goals simp only [List.getElem?_cons_zero, List.getElem?_cons_succ, Option.some.injEq] at ho
        all_goals subst ho
        all_goals simp only [Option.some.injEq, Prod.mk.injEq, reduceCtorEq] at hg
        all_goals (obtain ⟨rfl, rfl⟩ := hg; exact hv)
      · intro i o ho listed a' W hli hup hG hfr hdep
        have f12 : a'.tmps[12]?.getD undef = .pointer (some ⟨A, 0, none⟩) := Array.getD_eq_getD_getElem?.symm.trans (hfr 12 rfl)
        have f0 : a'.tmps[0]?.getD undef = .slice a0 n c0 := Array.getD_eq_getD_getElem?.symm.trans (hfr 0 rfl)
        clear hfr
        have hi : i < 19 := by have := (List.getElem?_eq_some_iff.1 ho).1; simpa using this
        obtain rfl | rfl | rfl | rfl | rfl | rfl | rfl | rfl | rfl | rfl | rfl | rfl | rfl | rfl | rfl | rfl | rfl | rfl | rfl : i = 0 ∨ i = 1 ∨ i = 2 ∨ i = 3 ∨ i = 4 ∨ i = 5 ∨ i = 6 ∨ i = 7 ∨ i = 8 ∨ i = 9 ∨ i = 10 ∨ i = 11 ∨ i = 12 ∨ i = 13 ∨ i = 14 ∨ i = 15 ∨ i = 16 ∨ i = 17 ∨ i = 18 := by omega
        all_goals simp only [List.getElem?_cons_zero, List.getElem?_cons_succ, Option.some.injEq] at ho
        all_goals subst ho
        · clear hdep
          refine .inl ⟨_, W, ?_, ZR.same (by decide), rfl⟩
          go_simp
        · clear hdep
          refine .inl ⟨_, W, ?_, ZR.same (by decide), rfl⟩
          go_simp
        · have d0 : a'.tmps[62]?.getD undef = .pointer (some ⟨A, 0, none⟩) := Array.getD_eq_getD_getElem?.symm.trans (hdep ⟨0, .data⟩ (by simp) rfl 62 rfl)
          have d1 : a'.tmps[63]?.getD undef = .slice a0 n c0 := Array.getD_eq_getD_getElem?.symm.trans (hdep ⟨1, .data⟩ (by simp) rfl 63 rfl)
          clear hdep
          refine .inr ⟨31, #[.pointer (some ⟨A, 0, none⟩), .slice a0 n c0], ?_, (write_room W (Nat.le_of_lt hG.lo) (hG.no hli) (HSb.out W hG.bel) (by have := HN.out; have := L1.out; simp only [List.length_nil]; omega) HY.out).mono ?_⟩
          · go_simp
          · rintro e W' ⟨rfl, v', hp, hc, -⟩
            exact ⟨_, rfl, by unfold ZR; rw [if_pos rfl]; exact ⟨⟨v', hp⟩, hc.below (Nat.le_of_lt hG.lo) (fun k hk e => by
              rcases e with e | e
              · omega
              · cases e)⟩, rfl⟩
        · have d2 : a'.tmps[64]?.getD undef = .int .i64 0 := Array.getD_eq_getD_getElem?.symm.trans (hdep ⟨2, .data⟩ (by simp) rfl 64 rfl)
          clear hdep
          refine .inl ⟨_, W, ?_, ZR.same (by decide), rfl⟩
          go_simp
        · have d3 : a'.tmps[65]?.getD undef = .bool false := Array.getD_eq_getD_getElem?.symm.trans (hdep ⟨3, .data⟩ (by simp) rfl 65 rfl)
          clear hdep
          refine .inl ⟨_, W, ?_, ZR.same (by decide), rfl⟩
          go_simp
        · clear hdep
          refine .inl ⟨_, W, ?_, ZR.same (by decide), rfl⟩
          go_simp
        · have d5 : a'.tmps[67]?.getD undef = .pointer (some ⟨A, 0, none⟩) := Array.getD_eq_getD_getElem?.symm.trans (hdep ⟨5, .data⟩ (by simp) rfl 67 rfl)
          clear hdep
          have y : isIn listed 2 = true := by
            cases q : isIn listed 2 with
            | true => rfl
            | false =>
              have h1 := hG.up q 5 (by decide)
              have h2 := hup ⟨5, .data⟩ (by simp) rfl
              rw [h1] at h2
              cases h2
          obtain ⟨v', hp⟩ := hG.yes y
          refine .inr ⟨39, #[.pointer (some ⟨A, 0, none⟩)], ?_, (read39 W hp).mono ?_⟩
          · go_simp
          · rintro e W' ⟨u, rfl, ho, hb⟩
            exact ⟨_, rfl, ZR.low (by decide) hb, (own_SlB ho (by have := hp.ml; omega)).1⟩
        · have d6 : SlB W (a'.tmps[68]?.getD undef) D := by have := hdep ⟨6, .data⟩ (by simp) rfl 68 rfl; rw [← Array.getD_eq_getD_getElem?]; exact this
          clear hdep
          have R := run_str d6
          refine .inl ⟨_, W, ?_, ZR.same (by decide), rfl⟩
          simp only [execOp, Sem.run_bind, Sem.run_pure, Act.eval, Array.getD_eq_getD_getElem?, R, Result.andThen_ok]
        · clear hdep
          refine .inl ⟨_, W, ?_, ZR.same (by decide), rfl⟩
          go_simp
        · have d8 : a'.tmps[70]?.getD undef = .slice a0 n c0 := Array.getD_eq_getD_getElem?.symm.trans (hdep ⟨8, .data⟩ (by simp) rfl 70 rfl)
          clear hdep
          have y : isIn listed 2 = true := by
            cases q : isIn listed 2 with
            | true => rfl
            | false =>
              have h1 := hG.up q 8 (by decide)
              have h2 := hup ⟨8, .data⟩ (by simp) rfl
              rw [h1] at h2
              cases h2
          have R := run_str (HSb.out W hG.bel)
          refine .inl ⟨_, W, ?_, ZR.same (by decide), rfl⟩
          simp only [execOp, Sem.run_bind, Sem.run_pure, Act.eval, Array.getD_eq_getD_getElem?, d8, R, Result.andThen_ok]
        · have d7 : a'.tmps[69]?.getD undef = .string (strB D) := Array.getD_eq_getD_getElem?.symm.trans (hdep ⟨7, .data⟩ (by simp) rfl 69 rfl)
          have d9 : a'.tmps[71]?.getD undef = .string (strB D) := Array.getD_eq_getD_getElem?.symm.trans (hdep ⟨9, .data⟩ (by simp) rfl 71 rfl)
          clear hdep
          refine .inl ⟨_, W, ?_, ZR.same (by decide), rfl⟩
          go_simp
        · have d4 : a'.tmps[66]?.getD undef = .bool false := Array.getD_eq_getD_getElem?.symm.trans (hdep ⟨4, .data⟩ (by simp) rfl 66 rfl)
          have d10 : a'.tmps[72]?.getD undef = .bool false := Array.getD_eq_getD_getElem?.symm.trans (hdep ⟨10, .data⟩ (by simp) rfl 72 rfl)
          clear hdep
          refine .inl ⟨_, W, ?_, ZR.same (by decide), rfl⟩
          go_simp
        · have d11 : a'.tmps[73]?.getD undef = .bool false := Array.getD_eq_getD_getElem?.symm.trans (hdep ⟨11, .data⟩ (by simp) rfl 73 rfl)
          clear hdep
          refine .inl ⟨_, W, ?_, ZR.same (by decide), rfl⟩
          go_simp
        · clear hdep
          refine .inl ⟨_, W, ?_, ZR.same (by decide), rfl⟩
          go_simp
        · have d13 : a'.tmps[75]?.getD undef = .pointer (some ⟨A, 0, none⟩) := Array.getD_eq_getD_getElem?.symm.trans (hdep ⟨13, .data⟩ (by simp) rfl 75 rfl)
          clear hdep
          have y : isIn listed 2 = true := by
            cases q : isIn listed 2 with
            | true => rfl
            | false =>
              have h1 := hG.up q 13 (by decide)
              have h2 := hup ⟨13, .data⟩ (by simp) rfl
              rw [h1] at h2
              cases h2
          obtain ⟨v', hp⟩ := hG.yes y
          have HP := pending37 W hp
          rw [Nat.sub_zero, HN.out] at HP
          refine .inr ⟨37, #[.pointer (some ⟨A, 0, none⟩)], ?_, HP.mono ?_⟩
          · go_simp
          · rintro e W' ⟨rfl, hb⟩
            exact ⟨_, rfl, ZR.low (by decide) hb, rfl⟩
        · clear hdep
          refine .inl ⟨_, W, ?_, ZR.same (by decide), rfl⟩
          go_simp
        · have d15 : a'.tmps[77]?.getD undef = .slice a0 n c0 := Array.getD_eq_getD_getElem?.symm.trans (hdep ⟨15, .data⟩ (by simp) rfl 77 rfl)
          clear hdep
          refine .inl ⟨_, W, ?_, ZR.same (by decide), rfl⟩
          go_simp
        · have d14 : a'.tmps[76]?.getD undef = .int .i64 (n : Nat) := Array.getD_eq_getD_getElem?.symm.trans (hdep ⟨14, .data⟩ (by simp) rfl 76 rfl)
          have d16 : a'.tmps[78]?.getD undef = .int .i64 (n : Nat) := Array.getD_eq_getD_getElem?.symm.trans (hdep ⟨16, .data⟩ (by simp) rfl 78 rfl)
          clear hdep
          refine .inl ⟨_, W, ?_, ZR.same (by decide), rfl⟩
          go_simp
        · have d12 : a'.tmps[74]?.getD undef = .bool false := Array.getD_eq_getD_getElem?.symm.trans (hdep ⟨12, .data⟩ (by simp) rfl 74 rfl)
          have d17 : a'.tmps[79]?.getD undef = .bool false := Array.getD_eq_getD_getElem?.symm.trans (hdep ⟨17, .data⟩ (by simp) rfl 79 rfl)
          clear hdep
          refine .inl ⟨_, W, ?_, ZR.same (by decide), rfl⟩
          go_simp
      · intro listed W hall hG
        have HW : Hid (Below A W1 W) := Lib.hid (HB12.out.trans hG.bel)
        have HAW : Hid (A < W.heap.size) := Lib.hid hG.lo
        simp only [List.map_cons, List.map_nil, VQG, ZV]
        rintro _ rfl _ rfl _ rfl _ rfl _ rfl _ rfl v6 s6 _ rfl _ rfl _ rfl _ rfl _ rfl _ rfl _ rfl _ rfl _ rfl _ rfl _ rfl _ rfl
        simp only [List.setIfInBounds_toArray, List.set_cons_succ, List.set_cons_zero]
        clear hall hG s6 HSb HBX HB12 B2
        go_wp2_with fail
        obtain ⟨W4, hW4⟩ : ∃ W4, W.alloc (Obj.cells #[Value.int IntKind.i64 0, Value.slice none 0 0, Value.slice none 0 0, Value.slice none 0 0, Value.slice none 0 0, Value.slice none 0 0, Value.slice none 0 0, Value.slice none 0 0, Value.slice none 0 0, Value.slice none 0 0, Value.int IntKind.i64 0] 80) = W4 := ⟨_, rfl⟩
        have hS : W.heap.size + 1 = W4.heap.size := by rw [← hW4]; show _ = (W.heap.push _).size; rw [Array.size_push]
        have hb4 : W4.heap[W.heap.size]? = some (.cells #[Value.int IntKind.i64 0, Value.slice none 0 0, Value.slice none 0 0, Value.slice none 0 0, Value.slice none 0 0, Value.slice none 0 0, Value.slice none 0 0, Value.slice none 0 0, Value.slice none 0 0, Value.slice none 0 0, Value.int IntKind.i64 0] 80 (0, 0)) := by rw [← hW4]; exact World.alloc_heap_new W _
        have hW14 : Below A W1 W4 := by rw [← hW4]; exact HW.out.alloc (Nat.le_of_lt HAW.out) _
        rw [hW4, hS]
        obtain ⟨W5, hW5⟩ : ∃ W5, W4.alloc (Obj.cells #[Value.pointer none, Value.pointer (some { block := W.heap.size, off := 0 })] 76) = W5 := ⟨_, rfl⟩
        have hb5 : W5.heap[W4.heap.size]? = some (.cells #[Value.pointer none, Value.pointer (some { block := W.heap.size, off := 0 })] 76 (0, 0)) := by rw [← hW5]; exact World.alloc_heap_new W4 _
        have h45 : Below W4.heap.size W4 W5 := by rw [← hW5]; exact (Below.refl _ W4).alloc (Nat.le_refl _) _
        have HW5 : Hid (Below A W1 W5) := Lib.hid (hW14.trans (h45.mono (by have := HAW.out; omega)))
        have HA5 : Hid (A < W5.heap.size) := Lib.hid (by have := HAW.out; have := h45.size; omega)
        have HQ : Hid (∀ W', Below W5.heap.size W5 W' → ∀ q, q < 2 → ∃ v, W'.cell? ⟨W4.heap.size, q, none⟩ = some v ∧ NoB W' v) := Lib.hid (fun W' hb q hq => by
          obtain rfl | rfl : q = 0 ∨ q = 1 := by omega
          · exact ⟨.pointer none, keep_cell hb (cell_at hb5 rfl), .inl rfl⟩
          · refine ⟨.pointer (some ⟨W.heap.size, 0, none⟩), keep_cell hb (cell_at hb5 rfl), .inr ⟨W.heap.size, rfl, keep_cell hb ?_⟩⟩
            have h5 := h45.block W.heap.size (by omega)
            rw [hb4] at h5
            exact cell_at h5 rfl)
        rw [hW5]
        obtain ⟨S, hS'⟩ : ∃ S, W4.heap.size = S := ⟨_, rfl⟩
        rw [hS'] at HQ ⊢
        clear hS hb4 hW14 hW4 hW5 hb5 h45 hS' HW HAW
        go_loopw [15] (fun i wr => ∃ q : Nat, q ≤ 2 ∧ i = .int .i64 q ∧ Below W5.heap.size W5 wr) (fun i _ => 2 - (intOf i).toNat)
        case atStart => exact ⟨0, by omega, rfl, Below.refl _ _⟩
        case round =>
          obtain ⟨q, hq, rfl, hbel⟩ := hrel
          by_cases hqn : q < 2
          · obtain ⟨bv, hcell, hnb⟩ := HQ.out _ hbel q hqn
            have HB := Lib.hid hbel
            have HNB := Lib.hid hnb
            have hlN : (loadCellsFrom ⟨w.heap.size, 6, none⟩ 0 m #[]).run Tryz.prog wr = .ok N wr := lcf_of N kn (fun j v h => cell_at (HEc.out _ (HW5.out.trans (hbel.mono (by have := HA5.out; omega)))) (HNE.out j v h))
            have j1 : decide ((q : Int) < ((2 : Nat) : Int)) = true := by simp; omega
            have j1' : decide ((q : Int) < 2) = true := by simp; omega
            have p0 : (q : Int) < 2 := by omega
            have p1 : (q : Int) < ((2 : Nat) : Int) := by omega
            have HQN := Lib.hid hqn
            clear hbel hnb hqn hq
            go_wp2_with fail
            refine (sync41 _ HNB.out).mono ?_
            rintro e w6 ⟨rfl, hw6⟩
            rw [hw6]
            clear hw6
            go_wp2_with fail
            refine (HDO.out N bv _ kn HNB.out).mono ?_
            rintro e w7 ⟨rfl, hb7⟩
            have hs := run_storeCells_new (P := Tryz.prog) w7 40 Z Z (by rw [kz1]; exact HI40.out) rfl kz2
            have hlN7 : (loadCellsFrom ⟨w.heap.size, 6, none⟩ 0 m #[]).run Tryz.prog (w7.alloc (Obj.cells Z 40)) = .ok N (w7.alloc (Obj.cells Z 40)) := lcf_of N kn (fun j v h => cell_at (HEc.out _ (HW5.out.trans ((HB.out.mono (by have := HA5.out; omega)).trans (((hb7.alloc hb7.size _)).mono (by have := HA5.out; have := HB.out.size; omega))))) (HNE.out j v h))
            have hb8 := hb7.alloc hb7.size (Obj.cells Z 40)
            have HB9 : Hid (∀ X, Below wr.heap.size wr ((w7.alloc (Obj.cells Z 40)).alloc (Obj.cells X 40))) := Lib.hid (fun X => hb8.alloc hb8.size (Obj.cells X 40))
            have HL8 : Hid (∀ X, (loadCellsFrom ⟨w7.heap.size, 0, none⟩ 0 m #[]).run Tryz.prog ((w7.alloc (Obj.cells Z 40)).alloc (Obj.cells X 40)) = .ok Z ((w7.alloc (Obj.cells Z 40)).alloc (Obj.cells X 40))) := Lib.hid (fun X => lcf_of Z kz1 (fun j v h => by
              rw [Nat.zero_add]
              refine cell_at (c := Z) (t := 40) (fr := (0, 0)) ?_ h
              rw [alloc_old _ _ (by show _ < (w7.heap.push _).size; rw [Array.size_push]; omega)]
              exact World.alloc_heap_new w7 _))
            clear hlN hb7 hb8
            go_wp2_with fail
            refine (hear43 _ (HNB.out.keep (HB9.out _))).mono ?_
            rintro e w8 ⟨rfl, hw8⟩
            have hl8 : (loadCellsFrom ⟨w7.heap.size, 0, none⟩ 0 m #[]).run Tryz.prog w8 = .ok Z w8 := by rw [hw8]; exact HL8.out _
            have hb8 : Below wr.heap.size wr w8 := by rw [hw8]; exact HB9.out _
            clear hw8 HL8 HB9 hlN7 hs
            replace hb8 := Lib.hid hb8
            go_wp2_with fail
            refine (HSM.out _).mono ?_
            rintro e w9 ⟨rfl, hb9⟩
            have B9 := Lib.hid (hb8.out.trans (hb9.mono hb8.out.size))
            clear hb9 hb8 hl8
            go_wp2_with fail
            refine (crash44 _ _ _ (HNB.out.keep B9.out)).mono ?_
            rintro e w10 ⟨rfl, rfl⟩
            go_wp2_with fail
            refine (notes45 _ (HNB.out.keep B9.out)).mono ?_
            rintro e w10 ⟨rfl, rfl⟩
            go_wp2_with fail
            refine (counts46 _ (HNB.out.keep B9.out)).mono ?_
            rintro e w10 ⟨rfl, rfl⟩
            go_wp2_with fail
            refine (missing47 _ (HNB.out.keep B9.out)).mono ?_
            rintro e w11 ⟨rfl, hb11⟩
            have B11 := Lib.hid (B9.out.trans (hb11.mono B9.out.size))
            clear hb11 B9
            have k7 := w64 ((q : Int) + 1) (by omega)
            go_wp2
            exact ⟨⟨q + 1, HQN.out, by simp, HB.out.trans (B11.out.mono HB.out.size)⟩, by simp [intOf]; have := HQN.out; omega⟩
          · have hq2 : q = 2 := by omega
            subst hq2
            have HB := Lib.hid hbel
            have j1 : decide (((2 : Nat) : Int) < ((2 : Nat) : Int)) = false := by simp
            clear hbel hqn hq
            go_wp2_with fail
            have HX0 : Hid (Below A W1 wr) := Lib.hid (HW5.out.trans (HB.out.mono (by have := HA5.out; omega)))
            have HAX0 : Hid (A < wr.heap.size) := Lib.hid (by have := HA5.out; have := HB.out.size; omega)
            obtain ⟨V4, hV4⟩ : ∃ V4, wr.alloc (Obj.cells #[Value.slice none 0 0, Value.slice none 0 0, Value.slice none 0 0] 92) = V4 := ⟨_, rfl⟩
            have hS : wr.heap.size + 1 = V4.heap.size := by rw [← hV4]; show _ = (wr.heap.push _).size; rw [Array.size_push]
            have hb4 : V4.heap[wr.heap.size]? = some (.cells #[Value.slice none 0 0, Value.slice none 0 0, Value.slice none 0 0] 92 (0, 0)) := by rw [← hV4]; exact World.alloc_heap_new wr _
            have hV14 : Below A W1 V4 := by rw [← hV4]; exact HX0.out.alloc (Nat.le_of_lt HAX0.out) _
            rw [hV4, hS]
            obtain ⟨V5, hV5⟩ : ∃ V5, V4.alloc (Obj.cells #[Value.pointer none, Value.pointer (some { block := wr.heap.size, off := 0 })] 88) = V5 := ⟨_, rfl⟩
            have hb5 : V5.heap[V4.heap.size]? = some (.cells #[Value.pointer none, Value.pointer (some { block := wr.heap.size, off := 0 })] 88 (0, 0)) := by rw [← hV5]; exact World.alloc_heap_new V4 _
            have h45 : Below V4.heap.size V4 V5 := by rw [← hV5]; exact (Below.refl _ V4).alloc (Nat.le_refl _) _
            have HV5 : Hid (Below A W1 V5) := Lib.hid (hV14.trans (h45.mono (by have := HAX0.out; omega)))
            have HAV : Hid (A < V5.heap.size) := Lib.hid (by have := HAX0.out; have := h45.size; omega)
            have HQ2 : Hid (∀ W', Below V5.heap.size V5 W' → ∀ q, q < 2 → ∃ v, W'.cell? ⟨V4.heap.size, q, none⟩ = some v ∧ NoW W' v) := Lib.hid (fun W' hb q hq => by
              obtain rfl | rfl : q = 0 ∨ q = 1 := by omega
              · exact ⟨.pointer none, keep_cell hb (cell_at hb5 rfl), .inl rfl⟩
              · refine ⟨.pointer (some ⟨wr.heap.size, 0, none⟩), keep_cell hb (cell_at hb5 rfl), .inr ⟨wr.heap.size, rfl, keep_cell hb ?_⟩⟩
                have h5 := h45.block wr.heap.size (by omega)
                rw [hb4] at h5
                exact cell_at h5 rfl)
            rw [hV5]
            obtain ⟨S2, hS'⟩ : ∃ S, V4.heap.size = S := ⟨_, rfl⟩
            rw [hS'] at HQ2 ⊢
            have HWV : Hid (Below w.heap.size w V5) := Lib.hid (B1.out.trans (HV5.out.mono (Nat.le_of_lt HLT.out)))
            clear hS hb4 hV14 hV4 hV5 hb5 h45 hS' HX0 HAX0 HQ HB HW5 HA5 j1 HDO HSM
            go_loopw [23] (fun i wr => ∃ q : Nat, q ≤ 2 ∧ i = .int .i64 q ∧ Below V5.heap.size V5 wr) (fun i _ => 2 - (intOf i).toNat)
            case atStart => exact ⟨0, by omega, rfl, Below.refl _ _⟩
            case round =>
              obtain ⟨q, hq, rfl, hbel⟩ := hrel
              by_cases hqn : q < 2
              · obtain ⟨bv, hcell, hnb⟩ := HQ2.out _ hbel q hqn
                have HB := Lib.hid hbel
                have HNB := Lib.hid hnb
                have hEh : wr.heap[w.heap.size]? = some (.cells E 73 (0, 0)) := HEc.out _ (HV5.out.trans (hbel.mono (by have := HAV.out; omega)))
                have he1 : wr.cell? ⟨w.heap.size, 1, none⟩ = some (.int .i64 eb) := cell_at hEh HE1.out
                obtain ⟨m7, hm7, hs73⟩ : ∃ m, 35 = m ∧ ∀ w, (sizeOf 73).run Tryz.prog w = .ok m w := ⟨35, rfl, Tryz.sizeOf73⟩
                have hlE : (loadCellsFrom ⟨w.heap.size, 0, none⟩ 0 m7 #[]).run Tryz.prog wr = .ok E wr := lcf_of E (hE.trans hm7) (fun j v h => by rw [Nat.zero_add]; exact cell_at hEh h)
                have j1 : decide ((q : Int) < ((2 : Nat) : Int)) = true := by simp; omega
                have j1' : decide ((q : Int) < 2) = true := by simp; omega
                have p0 : (q : Int) < 2 := by omega
                have p1 : (q : Int) < ((2 : Nat) : Int) := by omega
                have HQN := Lib.hid hqn
                clear hbel hnb hqn hq hEh hm7
                go_wp2_with fail
                refine (wnotes48 _ _ HNB.out).mono ?_
                rintro e w6 ⟨rfl, hw6⟩
                rw [hw6]
                clear hw6
                go_wp2_with fail
                refine (step49 E hE _ HNB.out).mono ?_
                rintro e w7 ⟨rfl, hb7⟩
                have B7 := Lib.hid hb7
                clear hb7 hlE he1 hs73
                go_wp2_with fail
                refine (settle50 _ (HNB.out.keep B7.out)).mono ?_
                rintro e w8 ⟨rfl, rfl⟩
                go_wp2_with fail
                refine (mails51 _ (HNB.out.keep B7.out)).mono ?_
                rintro e w8 ⟨rfl, rfl⟩
                go_wp2_with fail
                refine (trays52 _ (HNB.out.keep B7.out)).mono ?_
                rintro e w8 ⟨rfl, rfl⟩
                have k7 := w64 ((q : Int) + 1) (by omega)
                go_wp2
                refine ⟨?_, ?_⟩
                · have hz9 := HB.out.trans (B7.out.mono HB.out.size)
                  repeat apply Exists.intro
                  exact ⟨⟨q + 1, HQN.out, by simp, hz9⟩, rfl⟩
                · have := HQN.out
                  simp [intOf]
                  omega
              · have hq2 : q = 2 := by omega
                subst hq2
                have HB := Lib.hid (HWV.out.trans (hbel.mono HWV.out.size))
                have j1 : decide (((2 : Nat) : Int) < ((2 : Nat) : Int)) = false := by simp
                clear hbel hqn hq
                go_wp2_with fail
                refine (AW.out _).mono ?_
                rintro e w1 ⟨rfl, hb⟩
                have hfin := Lib.hid (HB.out.trans (hb.mono HB.out.size))
                clear hb
                go_wp2
                go_ret
                exact ⟨rfl, hfin.out⟩

end Go.Proofs.YtcgmmfcphfkdhaaGreat
