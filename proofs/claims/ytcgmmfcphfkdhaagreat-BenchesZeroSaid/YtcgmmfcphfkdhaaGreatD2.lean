/- Walks: the program's disk: NewDisk, within, Pending, Sync, Write. -/
import Derived.Test.YtcgmmfcphfkdhaaGreatD1
import Derived.WalkMore
import Derived.Great.Walk
namespace Go.Proofs.YtcgmmfcphfkdhaaGreat
open Go Go.RowKit Go.Proofs Go.Torn Go.Abs

theorem bx_new (w : World) (T : TypeId) (x y : Value) : Bx (w.alloc (.cells #[x, y] T)) w.heap.size T x y := by
  unfold Bx
  exact World.alloc_heap_new w _

theorem new29 (w : World) : Calls Tryz.prog 29 #[] w fun e w' => e = .returned (.pointer (some ⟨w.heap.size, 0, none⟩)) ∧ Bx w' w.heap.size 75 (.slice none 0 0) (.int .i64 0) ∧ Below w.heap.size w w' := by
  go_enter Tryz.func29, Tryz.ntmps29
  go_wp2
  go_ret
  exact ⟨rfl, bx_new w _ _ _, (Below.refl _ w).alloc (Nat.le_refl _) _⟩

theorem new30 (w : World) : Calls Tryz.prog 30 #[] w fun e w' => e = .returned (.pointer (some ⟨w.heap.size, 0, none⟩)) ∧ Bx w' w.heap.size 141 (.slice none 0 0) (.slice none 0 0) ∧ Below w.heap.size w w' := by
  go_enter Tryz.func30, Tryz.ntmps30
  go_wp2
  go_ret
  exact ⟨rfl, bx_new w _ _ _, (Below.refl _ w).alloc (Nat.le_refl _) _⟩

theorem within_yes (n lo hi : Int) (h1 : lo ≤ n) (h2 : n ≤ hi) (w : World) : Calls Tryz.prog 84 #[.int .i64 n, .int .i64 lo, .int .i64 hi] w fun e w' => e = .returned (.bool true) ∧ w' = w := by
  have j1 : decide (lo ≤ n) = true := by simp; omega
  have j2 : decide (n ≤ hi) = true := by simp; omega
  go_enter Tryz.func84, Tryz.ntmps84
  go_wp2
  go_ret
  exact ⟨rfl, rfl⟩

theorem within_no (n lo hi : Int) (h : ¬ (lo ≤ n ∧ n ≤ hi)) (w : World) : Calls Tryz.prog 84 #[.int .i64 n, .int .i64 lo, .int .i64 hi] w fun e w' => e = .returned (.bool false) ∧ w' = w := by
  by_cases h1 : lo ≤ n
  · have j1 : decide (lo ≤ n) = true := by simp; omega
    have j2 : decide (n ≤ hi) = false := by simp; omega
    clear h
    go_enter Tryz.func84, Tryz.ntmps84
    go_wp2
    go_ret
    exact ⟨rfl, rfl⟩
  · have j1 : decide (lo ≤ n) = false := by simp; omega
    clear h
    go_enter Tryz.func84, Tryz.ntmps84
    go_wp2
    go_ret
    exact ⟨rfl, rfl⟩

theorem own_slice {base e size n : Nat} {W : World} {v : Value} {xs : List Value} (h : W.ownsRow base e size v n xs) : ∃ a c, v = .slice a n c ∧ n ≤ c ∧ c ≤ maxLen := by
  rcases h.2 with ⟨e, h0⟩ | ⟨g, cap, cur, e, -, -, h1, h2, -⟩
  · exact ⟨none, 0, by rw [e, h0], by omega, Nat.zero_le _⟩
  · exact ⟨_, _, e, h1, h2⟩

set_option maxRecDepth 100000 in
set_option maxHeartbeats 1000000 in
theorem pending37 {base A d : Nat} {v : Value} {D : List Nat} (w : World) (h : PD base w A v D d) :
    Calls Tryz.prog 37 #[.pointer (some ⟨A, 0, none⟩)] w fun e w' => e = .returned (.int .i64 ((D.length - d : Nat) : Int)) ∧ Below w.heap.size w w' := by
  obtain ⟨a, c, rfl, -, -⟩ := own_slice h.own
  have hdl := h.dl
  have hml := h.ml
  obtain ⟨n, hn⟩ : ∃ n, D.length = n := ⟨_, rfl⟩
  have hb := h.bx
  rw [hn] at hdl hml hb ⊢
  have c0 := hb.c0
  have c1 := hb.c1
  clear h hn hb
  have e1 : ((n - d : Nat) : Int) = (n : Int) - (d : Int) := by omega
  have j1 : wrap64 ((n : Int) - (d : Int)) = (n : Int) - (d : Int) := w64 _ (by omega)
  have j2 : IntKind.i64.wrap ((n : Int) - (d : Int)) = (n : Int) - (d : Int) := wi64 _ (by omega)
  rw [e1]
  replace e1 := Lib.hid e1
  go_enter Tryz.func37, Tryz.ntmps37
  go_wp2_with fail
  go_quiet (fail)
  go_wp2
  go_ret
  exact ⟨rfl, below_drewN (Below.refl _ w) _⟩

set_option maxRecDepth 100000 in
set_option maxHeartbeats 1000000 in
theorem sync33 {base A d : Nat} {v : Value} {D : List Nat} (w : World) (h : PD base w A v D d) :
    Calls Tryz.prog 33 #[.pointer (some ⟨A, 0, none⟩)] w fun e w' => e = .returned (.tuple #[]) ∧ PD base w' A v D D.length ∧ Chg w w' (fun k => k = A) := by
  have H := Lib.hid h
  obtain ⟨a, c, rfl, -, -⟩ := own_slice h.own
  obtain ⟨n, hn⟩ : ∃ n, D.length = n := ⟨_, rfl⟩
  have hb := h.bx
  rw [hn] at hb ⊢
  have c0 := hb.c0
  have c1 := hb.c1
  have f1 := hb.fz 1
  have fin : Hid (PD base (w.setCell ⟨A, 1, none⟩ (.int .i64 (n : Int))) A (.slice a n c) D n ∧ Chg w (w.setCell ⟨A, 1, none⟩ (.int .i64 (n : Int))) (fun k => k = A)) := Lib.hid (by
    have g := Chg.set (W := w) (fun k => k = A) A 1 (.int .i64 (n : Int)) rfl
    refine ⟨⟨h.lo, hb.set1 _, g.own (by have := h.own; rw [hn] at this ⊢; exact this) (fun k hk => h.far k (by rw [hn]; exact hk)), fun k hk => h.far k (by rw [hn]; exact hk), by omega, h.ml, h.by'⟩, g⟩)
  clear h hn hb H
  go_enter Tryz.func33, Tryz.ntmps33
  go_wp2_with fail
  exact Go.Great.bodyPost_end0 rfl rfl ⟨rfl, fin.out⟩

set_option maxRecDepth 100000 in
theorem clone_nil (w : World) : Calls Tryz.prog 83 #[.slice none 0 0] w fun e w' => e = .returned (.slice none 0 0) ∧ w' = w := by
  have NE : ∀ w, (binOp .eql 46 (.slice none 0 0) (.slice none 0 0)).run Tryz.prog w = .ok (.bool true) w := fun w => by kernel_rfl
  go_enter Tryz.func83, Tryz.ntmps83
  go_wp2
  go_ret
  exact ⟨rfl, rfl⟩

theorem clone_own {base : Nat} {v : Value} {L : List Nat} (w : World) (h : w.ownsRow base 5 1 v L.length (bc L)) (hl : L.length ≤ 100000000) :
    Calls Tryz.prog 83 #[v] w fun e w' => ∃ v, e = .returned v ∧ w'.ownsRow w.heap.size 5 1 v L.length (bc L) ∧ Below w.heap.size w w' := by
  have hs := (own_SlB h (Nat.le_trans hl (by decide))).1
  rcases h.2 with ⟨rfl, h0⟩ | ⟨g, cap, cur, rfl, -⟩
  · refine (clone_nil w).mono ?_
    rintro e w' ⟨rfl, rfl⟩
    have : L = [] := List.eq_nil_of_length_eq_zero h0
    subst this
    exact ⟨_, rfl, World.ownsRow_nil _ _ _ _, Below.refl _ _⟩
  · exact clone_any _ cap L hl w hs

set_option maxRecDepth 100000 in
set_option maxHeartbeats 1000000 in
theorem write_full {base A d : Nat} {v u : Value} {D L : List Nat} (w : World) (h : PD base w A v D d) (hs : SlB w u L) (hf : ¬ L.length + D.length ≤ 4194304) :
    Calls Tryz.prog 31 #[.pointer (some ⟨A, 0, none⟩), u] w fun e w' => e = .returned (.int .i64 2) ∧ w' = w := by
  obtain ⟨a, c, rfl, -, -⟩ := own_slice h.own
  obtain ⟨ua, uc, rfl, -, -⟩ := hs
  have hml := h.ml
  obtain ⟨n, hn⟩ : ∃ n, D.length = n := ⟨_, rfl⟩
  obtain ⟨m, hm⟩ : ∃ m, L.length = m := ⟨_, rfl⟩
  have hb := h.bx
  rw [hn] at hb hf hml
  rw [hm] at hf ⊢
  have c0 := hb.c0
  have c1 := hb.c1
  clear h hn hb hm
  have j1 : wrap64 (4194304 - (n : Int)) = 4194304 - (n : Int) := w64 _ (by omega)
  have j2 : decide ((m : Int) > 4194304 - (n : Int)) = true := by simp; omega
  go_enter Tryz.func31, Tryz.ntmps31
  go_wp2_with fail
  go_ret
  exact ⟨rfl, rfl⟩

/-- Bytes that one owns, and bytes behind them. -/
theorem push_any {base : Nat} {v u : Value} {D L : List Nat} (w : World) (hbw : base ≤ w.heap.size) (h : w.ownsRow base 5 1 v D.length (bc D)) (hs : SlB w u L) (hl : D.length + L.length ≤ 10000000) :
    ∃ v' w', (Builtin.append_ #[46, 46] 46 #[v, u]).run Tryz.prog w = .ok v' w' ∧ w'.ownsRow base 5 1 v' (D ++ L).length (bc (D ++ L)) ∧ w.grownBy w' v.ownBlock ∧ (v'.ownBlock = v.ownBlock ∨ v'.ownBlock = some w.heap.size) := by
  obtain ⟨i0, hi, hz0, hz1, hz2⟩ := info_parts info5
  obtain ⟨a, cap, rfl, ⟨-, hz⟩, hd⟩ := hs
  cases a with
  | none =>
    obtain rfl := hz rfl
    have h0 : L.length = 0 := by
      rcases Nat.eq_zero_or_pos L.length with e | e
      · exact e
      · obtain ⟨_, _, hh, -⟩ := hd e
        cases hh
    have hL : L = [] := List.eq_nil_of_length_eq_zero h0
    subst hL
    exact ⟨v, w, run_append_owned_none (P := Tryz.prog) (w := w) base 46 46 5 i0 1 Tryz.underlying46 hi _ _ _ h, by simpa using h, ⟨rfl, rfl, rfl, Nat.le_refl _, fun _ _ _ => rfl⟩, .inl rfl⟩
  | some ad =>
    obtain ⟨v', W', r1, r2, r3, -, r5⟩ := run_append_own_at (P := Tryz.prog) w base 46 46 5 i0 (.int .u8 0) 1 1 Tryz.underlying46 hi hz0 hz1 hz2 rfl (by decide) v D.length (bc D) h ad L.length cap (bc L) (by rw [bc_len]; omega)
      (fun j x hx => by
        have hj : j < L.length := by
          have := (List.getElem?_eq_some_iff.1 hx).1
          rwa [bc_len] at this
        obtain ⟨b, off, hh, hdat⟩ := hd (by omega)
        cases hh
        exact bc_cells hdat j x hx) (bc_one L) (by unfold maxLen; omega) (by omega) hbw
    exact ⟨v', W', r1, by rw [List.length_append, bc_append]; exact r2, r3, r5⟩

set_option maxRecDepth 100000 in
set_option maxHeartbeats 1000000 in
theorem write_room {base A d : Nat} {v u : Value} {D L : List Nat} (w : World) (hbw : base ≤ w.heap.size) (h : PD base w A v D d) (hs : SlB w u L) (hf : L.length + D.length ≤ 4194304) (hy : By L) :
    Calls Tryz.prog 31 #[.pointer (some ⟨A, 0, none⟩), u] w fun e w' => e = .returned (.int .i64 0) ∧ ∃ v', PD base w' A v' (D ++ L) d ∧ Chg w w' (fun k => k = A ∨ v.ownBlock = some k) ∧ (v'.ownBlock = v.ownBlock ∨ v'.ownBlock = some w.heap.size) := by
  obtain ⟨v', w1, run, ho, hg, hvb⟩ := push_any w hbw h.own hs (by omega)
  have cg := Chg.of_grown (fun k => k = A ∨ v.ownBlock = some k) hg (fun k e => .inr e.symm)
  have b1 : Bx w1 A 75 v (.int .i64 (d : Nat)) := h.bx.keep (Chg.of_grown (fun k => v.ownBlock = some k) hg (fun k e => e.symm)) (fun e => h.far A e rfl)
  have fv : ∀ k, v'.ownBlock = some k → k ≠ A := fun k e => by
    rcases hvb with g | g
    · exact h.far k (by rw [← g]; exact e)
    · rw [g] at e
      have := h.bx.lt
      simp only [Option.some.injEq] at e
      omega
  have fin : Hid (PD base (w1.setCell ⟨A, 0, none⟩ v') A v' (D ++ L) d ∧ Chg w (w1.setCell ⟨A, 0, none⟩ v') (fun k => k = A ∨ v.ownBlock = some k) ∧ (v'.ownBlock = v.ownBlock ∨ v'.ownBlock = some w.heap.size)) := Lib.hid (by
    have g := Chg.set (W := w1) (fun k => k = A) A 0 v' rfl
    exact ⟨⟨h.lo, b1.set0 _, g.own ho fv, fv, by rw [List.length_append]; have := h.dl; omega, by rw [List.length_append]; omega, By_append h.by' hy⟩, cg.trans g (fun i _ e => .inl e), hvb⟩)
  have fin2 : Hid (∀ w', w' = w1.setCell ⟨A, 0, none⟩ v' → ∃ v', PD base w' A v' (D ++ L) d ∧ Chg w w' (fun k => k = A ∨ v.ownBlock = some k) ∧ (v'.ownBlock = v.ownBlock ∨ v'.ownBlock = some w.heap.size)) := Lib.hid (fun w' e => ⟨v', by rw [e]; exact fin.out⟩)
  clear fin
  have hml := h.ml
  obtain ⟨a, c, rfl, -, -⟩ := own_slice h.own
  obtain ⟨ua, uc, rfl, -, -⟩ := hs
  obtain ⟨a', c', rfl, -, -⟩ := own_slice ho
  have c0 := h.bx.c0
  have c1 := h.bx.c1
  have f0 := b1.fz 0
  have c2 := b1.c0
  obtain ⟨n, hn⟩ : ∃ n, D.length = n := ⟨_, rfl⟩
  obtain ⟨m, hm⟩ : ∃ m, L.length = m := ⟨_, rfl⟩
  obtain ⟨p, hp⟩ : ∃ p, (D ++ L).length = p := ⟨_, rfl⟩
  rw [hn, hm, hp] at run
  rw [hn] at c0 c2 hf hml
  rw [hp] at fin2
  rw [hm] at hf ⊢
  have j1 : wrap64 (4194304 - (n : Int)) = 4194304 - (n : Int) := w64 _ (by omega)
  have j2 : decide ((m : Int) > 4194304 - (n : Int)) = false := by simp; omega
  clear h hn hm hp b1 fv ho hg hvb cg
  go_enter Tryz.func31, Tryz.ntmps31
  go_wp2_with (at_builtin; refine Lib.wpList_append_run _ rfl _ _ _ _ rfl _ _ rfl rfl _ _ run ?_)
  go_ret
  exact ⟨rfl, fin2.out _ rfl⟩

end Go.Proofs.YtcgmmfcphfkdhaaGreat
