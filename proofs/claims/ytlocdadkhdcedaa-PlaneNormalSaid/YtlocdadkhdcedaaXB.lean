/- The abstract machine, part XB. -/
import Derived.Test.YtlocdadkhdcedaaXA
import Derived.Test.YtlocdadkhdcedaaCA
import Derived.Test.YtlocdadkhdcedaaKC
import Derived.Sort.QuietIn
import Derived.Laws.MakeOwn
import Derived.ArgAppend
/- The iterator over the increasing lists: its contract. -/
namespace Go.Proofs.Ytlocdadkhdcedaa
open Go Go.RowKit Go.Proofs Go.Abs Go.Plain

attribute [local go_sem] Oper.semAt_some

theorem make3 (s : Nat) (hs : s ≤ 1000000) (w : World) : (Instr.makeSlice 38 (.int .i64 (s : Nat)) (.int .i64 (s : Nat))).run Try.prog w = .ok (.slice (some ⟨w.heap.size, 0, none⟩) s s) (w.alloc (.cells (madeCells #[.int .i64 0] s) 3)) := by
  obtain ⟨i0, hi, hz0, hz1, hz2⟩ := info_parts info3
  have h := run_make (P := Try.prog) w 38 3 i0 (.int .i64 0) Try.underlying38 hi hz0 .i64 .i64 s s (by omega) (Int.le_refl _) (by rw [hz2]; omega) (by omega)
  rw [hz1, Int.toNat_natCast, Nat.mul_one] at h
  exact h

theorem made_row (s : Nat) (w : World) : RowAt (w.alloc (.cells (madeCells #[.int .i64 0] s) 3)) w.heap.size s fun _ => 0 := by
  have h := World.alloc_heap_new w (.cells (madeCells #[.int .i64 0] s) 3)
  refine ⟨by simp, fun k hk => cell_at h ?_, fun k hk => thaw_at h⟩
  unfold madeCells
  rw [Array.getElem?_eq_getElem (by simpa using hk)]
  simp [Nat.mod_one]

theorem row_drewN {W : World} {g s : Nat} {f : Nat → Nat} (h : RowAt W g s f) (q : Nat) : RowAt (W.drewN q) g s f := ⟨h.lt, h.cell, h.thaw⟩

/-- What an element's row says. -/
def HxC (N s : Nat) (x : Nat × (Nat → Nat)) (W : World) : Prop := RowAt W x.1 s x.2 ∧ Cho N s x.2

def SC (N s : Nat) (xs : List (Nat × (Nat → Nat))) : Prop := ∀ u, Cho N s u → ∃ x ∈ xs, Same s u x.2
def SpC (N s : Nat) (pre : List (Nat × (Nat → Nat))) : Prop := ∃ pre' x, pre = pre' ++ [x] ∧ Cho N s x.2 ∧ ∀ u, Cho N s u → Lex s u x.2 → ∃ y ∈ pre', Same s u y.2

set_option maxRecDepth 100000 in
set_option maxHeartbeats 8000000 in
theorem choices1_in (n : Nat) (hn : 1 ≤ n) (l Bs Bn N s : Nat) (hs : 0 < s) (hsN : s ≤ N) (hN : N ≤ 1000000) (J Jx : List (Nat × (Nat → Nat)) → World → Prop) (W : World)
    (hJ : Past W.heap.size J)
    (hY : ∀ pre x W1, J pre W1 → HxC N s x W1 → YieldAt Fence.wide (n - 1) Try.prog l #[.slice (some ⟨x.1, 0, none⟩) s s] W1 fun e W' =>
      (e = .returned (.bool true) ∧ J (pre ++ [x]) W' ∧ KeepsRows W1 W') ∨ (e = .returned (.bool false) ∧ Jx (pre ++ [x]) W'))
    (hBs : W.cell? ⟨Bs, 0, none⟩ = some (.int .i64 (s : Nat))) (hBn : W.cell? ⟨Bn, 0, none⟩ = some (.int .i64 (N : Nat))) (h0 : J [] W) :
    CallsIn Fence.wide n Try.prog 159 #[.func (.yield l) #[] #[], .pointer (some ⟨Bs, 0, none⟩), .pointer (some ⟨Bn, 0, none⟩)] W fun e W' => (∃ v, e = .returned v) ∧
      ((∃ xs, SC N s xs ∧ J xs W') ∨ (∃ pre, SpC N s pre ∧ Jx pre W')) := by
  have M := make3 s (by omega)
  have zs := lt_of_cell hBs
  have zn := lt_of_cell hBn
  refine callsIn_of_wp Try.func159 rfl trivial ?_ rfl
  simp only [Try.ntmps159, List.size_toArray, List.length_cons, List.length_nil, Nat.reduceAdd, Nat.reduceSub, Array.replicate_succ, Array.replicate_zero, List.push_toArray, List.append_toArray, List.nil_append, List.cons_append]
  gi_wp2
  have R0 := made_row s W
  have J0 := hJ.new (.cells (madeCells #[.int .i64 0] s) 3) h0
  have S0 := pt_old W (.cells (madeCells #[.int .i64 0] s) 3) hBs
  have N0 := pt_old W (.cells (madeCells #[.int .i64 0] s) 3) hBn
  have JS : ∀ (pre : List (Nat × (Nat → Nat))) (i : Nat) (v : Value) (X : World), J pre X → J pre (X.setCell ⟨W.heap.size, i, none⟩ v) := fun pre i v X h => hJ _ _ _ _ h (grownBy_set X W.heap.size i v) (fun r e => by cases e; exact Nat.le_refl _)
  have BS : ∀ (i : Nat) (v : Value) (X : World), X.cell? ⟨Bs, 0, none⟩ = some (.int .i64 (s : Nat)) → (X.setCell ⟨W.heap.size, i, none⟩ v).cell? ⟨Bs, 0, none⟩ = some (.int .i64 (s : Nat)) := fun i v X h => by
    rw [World.cell?_setCell_other]; exact h; intro e; cases e; omega
  have BN : ∀ (i : Nat) (v : Value) (X : World), X.cell? ⟨Bn, 0, none⟩ = some (.int .i64 (N : Nat)) → (X.setCell ⟨W.heap.size, i, none⟩ v).cell? ⟨Bn, 0, none⟩ = some (.int .i64 (N : Nat)) := fun i v X h => by
    rw [World.cell?_setCell_other]; exact h; intro e; cases e; omega
  obtain ⟨W1, hW1⟩ : ∃ W1, W.alloc (.cells (madeCells #[.int .i64 0] s) 3) = W1 := ⟨_, rfl⟩
  obtain ⟨g, hg⟩ : ∃ g, W.heap.size = g := ⟨_, rfl⟩
  rw [hW1] at R0 J0 S0 N0
  rw [hg] at R0 JS BS BN
  rw [hW1, hg]
  have HJ := Lib.hid hJ
  clear hW1 hJ hBs hBn h0 M zs zn
  gi_loopw [12] (fun i wr => ∃ k : Nat, k ≤ s ∧ i = .int .i64 k ∧ J [] wr ∧ wr.cell? ⟨Bs, 0, none⟩ = some (.int .i64 (s : Nat)) ∧ wr.cell? ⟨Bn, 0, none⟩ = some (.int .i64 (N : Nat)) ∧ RowAt wr g s fun j => if j < k then j else 0) (fun i _ => s - (intOf i).toNat)
  case atStart => exact ⟨0, Nat.zero_le _, rfl, J0, S0, N0, R0.change (fun j _ => by simp)⟩
  case round =>
    obtain ⟨k, hk, rfl, Jk, Sk, Nk, Rk⟩ := hrel
    clear J0 S0 N0 R0
    by_cases hlt : k < s
    · have j1 : (k : Int) < (s : Int) := by omega
      have c0 := Rk.cell k hlt
      have c1 := Rk.thaw k hlt
      gi_wp2
      refine ⟨⟨k + 1, by omega, by simp, JS _ _ _ _ Jk, BS _ _ _ Sk, BN _ _ _ Nk, Rk.set hlt k (by simp) (fun j hj hne => ?_)⟩, by simp [intOf]; omega⟩
      by_cases h1 : j < k
      · rw [if_pos h1, if_pos (by omega)]
      · rw [if_neg h1, if_neg (by omega)]
    · obtain rfl : k = s := by omega
      have R1 : RowAt wr g k id := Rk.change (fun j hj => by simp [hj])
      clear Rk
      have hs1 : (0 : Int) < (k : Int) := by omega
      have JD : ∀ (pre : List (Nat × (Nat → Nat))) (q : Nat) (X : World), J pre X → J pre (X.drewN q) := fun pre q X h => HJ.out _ _ _ none h ⟨rfl, rfl, rfl, Nat.le_refl _, fun _ _ _ => rfl⟩ (fun r e => by cases e)
      gi_wp2
      gi_loopw [] (fun wo => ∃ f pre, Cho N k f ∧ RowAt wo g k f ∧ J pre wo ∧ Shown N k g pre f ∧ wo.cell? ⟨Bs, 0, none⟩ = some (.int .i64 (k : Nat)) ∧ wo.cell? ⟨Bn, 0, none⟩ = some (.int .i64 (N : Nat))) (fun wo => rk N (cellN wo g) k)
      case atStart => exact ⟨id, [], ⟨fun i _ => Nat.lt_succ_self i, fun i hi => by show i < N; omega⟩, R1, Jk, Shown.start (fun i _ => rfl), Sk, Nk⟩
      case round =>
        clear Jk Sk Nk R1
        obtain ⟨f, pre, hf, hR, hJf, hsh, hS, hN'⟩ := hrel
        have HSH := Lib.hid hsh
        have HRK : Hid (rk N (cellN wr g) k = rk N f k) := Lib.hid (rk_same k hR.num)
        obtain ⟨fn, tmps, assign, body, hy, hRi⟩ := hY pre (g, f) wr hJf ⟨hR, hf⟩
        clear hsh
        gi_wp2
        refine hRi.mono ?_
        rintro e W3 (⟨rfl, hJ3, hk3⟩ | ⟨rfl, hJx3⟩)
        · have R3 := hR.rows hk3 (by omega)
          have S3 := hk3.cell hS
          have N3 := hk3.cell hN'
          clear hk3 hR hS hN' hJf hy hRi
          gi_wp2
          gi_loopw [6] (fun t wi => ((∃ m : Nat, m < k ∧ t = .int .i64 (m : Nat) ∧ ∀ i, m < i → i < k → f i + k = N + i) ∨ (t = .int .i64 (-1) ∧ ∀ i, i < k → f i + k = N + i)) ∧ RowAt wi g k f ∧ J (pre ++ [(g, f)]) wi ∧ wi.cell? ⟨Bs, 0, none⟩ = some (.int .i64 (k : Nat)) ∧ wi.cell? ⟨Bn, 0, none⟩ = some (.int .i64 (N : Nat))) (fun t _ => (intOf t + 1).toNat)
          case atStart => exact ⟨.inl ⟨k - 1, by omega, by rw [show ((k - 1 : Nat) : Int) = (k : Int) - 1 by omega], fun i h1 h2 => by omega⟩, R3, hJ3, S3, N3⟩
          case round =>
            clear R3 hJ3 S3 N3
            obtain ⟨hm, hR, hJf, hS, hN'⟩ := hrel
            rcases hm with ⟨m, hmk, rfl, hlast⟩ | ⟨rfl, hlast⟩
            · have HL := Lib.hid hlast
              clear hlast
              have c0 := hR.cell m hmk
              have c1 := hR.thaw m hmk
              have i0 : (0 : Int) ≤ (m : Int) := by omega
              have i1 : (m : Int) < (k : Int) := by omega
              have fl := hf.lt m hmk
              have i2 : (f m : Int) < (N : Int) := by omega
              have i3 : (k : Int) ≤ (N : Int) := by omega
              have i4 : (N : Int) ≤ 1000000 := by omega
              have HM := Lib.hid (hf.most hmk)
              have U1 : IntKind.i64.wrap ((N : Int) - k) = (N : Int) - k := wi64 _ (by omega)
              have U2 : IntKind.i64.wrap ((N : Int) - k + m) = (N : Int) - k + m := wi64 _ (by omega)
              obtain ⟨β, hβ⟩ : ∃ β, ((f m : Int) == (N : Int) - k + m) = β := ⟨_, rfl⟩
              have HB := Lib.hid hβ
              have HFM := Lib.hid fl
              clear fl
              cases β
              · gi_wp2_with fail
                gi_quiet (fail)
                have HNE : Hid (f m + k < N + m) := Lib.hid (by have h1 := HB.out; have h2 := HM.out; simp at h1; omega)
                have R4 : RowAt (wr.drewN nq) g k f := row_drewN hR nq
                have J4 := JD _ nq _ hJf
                have S4 : (wr.drewN nq).cell? ⟨Bs, 0, none⟩ = some (.int .i64 (k : Nat)) := hS
                have N4 : (wr.drewN nq).cell? ⟨Bn, 0, none⟩ = some (.int .i64 (N : Nat)) := hN'
                obtain ⟨w4, hw4⟩ : ∃ w4, wr.drewN nq = w4 := ⟨_, rfl⟩
                rw [hw4] at R4 J4 S4 N4 ⊢
                clear hw4 hR hJf hS hN' c0 c1 U1 U2
                have c0 := R4.cell m hmk
                have c1 := R4.thaw m hmk
                gi_wp2
                have J5 := JS _ m (.int .i64 (((f m + 1 : Nat) : Int))) _ J4
                have S5 := BS m (.int .i64 (((f m + 1 : Nat) : Int))) _ S4
                have N5 := BN m (.int .i64 (((f m + 1 : Nat) : Int))) _ N4
                have R5 := R4.set (f' := fun j => if j < m + 1 then nxt f m j else f j) hmk (f m + 1) (by simp [nxt]) (fun j hj hne => by
                  by_cases h1 : j < m
                  · rw [if_pos (by omega)]; simp [nxt, h1]
                  · rw [if_neg (by omega)])
                rw [show ((f m : Int) + 1) = ((f m + 1 : Nat) : Int) by omega]
                obtain ⟨w5, hw5⟩ : ∃ w5, w4.setCell ⟨g, m, none⟩ (.int .i64 ((f m + 1 : Nat) : Int)) = w5 := ⟨_, rfl⟩
                rw [hw5] at J5 S5 N5 R5 ⊢
                clear hw5 R4 J4 S4 N4 c0 c1
                gi_loopw [7] (fun t wi => ∃ i : Nat, m + 1 ≤ i ∧ i ≤ k ∧ t = .int .i64 (i : Nat) ∧ (RowAt wi g k fun j => if j < i then nxt f m j else f j) ∧ J (pre ++ [(g, f)]) wi ∧ wi.cell? ⟨Bs, 0, none⟩ = some (.int .i64 (k : Nat)) ∧ wi.cell? ⟨Bn, 0, none⟩ = some (.int .i64 (N : Nat))) (fun t _ => k - (intOf t).toNat)
                case atStart => exact ⟨m + 1, Nat.le_refl _, hmk, by simp, R5, J5, S5, N5⟩
                case round =>
                  clear R5 J5 S5 N5
                  obtain ⟨i, hi1, hi2, rfl, hR, hJf, hS, hN'⟩ := hrel
                  by_cases hik : i < k
                  · have c0 := hR.cell i hik
                    have c1 := hR.thaw i hik
                    have c2 := hR.cell (i - 1) (by omega)
                    simp only [show ¬ i < i from Nat.lt_irrefl i, if_false, show i - 1 < i from by omega, if_true] at c0 c2
                    have hv : Hid (nxt f m (i - 1) + 1 = nxt f m i) := Lib.hid (by unfold nxt; rw [if_neg (by omega), if_neg (by omega)]; omega)
                    have hb := (nxt_cho hf hmk HNE.out).lt (i - 1) (by omega)
                    obtain ⟨v, hvv⟩ : ∃ v, nxt f m (i - 1) = v := ⟨_, rfl⟩
                    rw [hvv] at c2 hv hb
                    have e1 : ((i : Int) - 1) = ((i - 1 : Nat) : Int) := by omega
                    have j1 : (i : Int) < (k : Int) := by omega
                    have j2 : (1 : Int) ≤ (i : Int) := by omega
                    have j3 : (v : Int) < (N : Int) := by omega
                    have j4 : ((i - 1 : Nat) : Int) < (k : Int) := by omega
                    clear hvv hb
                    obtain ⟨p, hp⟩ : ∃ p, i - 1 = p := ⟨_, rfl⟩
                    rw [hp] at c2 e1 j4
                    clear hp
                    gi_wp2
                    refine ⟨⟨i + 1, by omega, by omega, by simp, ?_, JS _ _ _ _ hJf, BS _ _ _ hS, BN _ _ _ hN'⟩, by simp [intOf]; omega⟩
                    rw [show ((v : Int) + 1) = ((v + 1 : Nat) : Int) by omega]
                    refine hR.set hik (v + 1) (by rw [if_pos (by omega)]; exact hv.out.symm) (fun j hj hne => ?_)
                    by_cases h1 : j < i
                    · rw [if_pos h1, if_pos (by omega)]
                    · rw [if_neg h1, if_neg (by omega)]
                  · obtain rfl : i = k := by omega
                    have R6 : RowAt wr g i (nxt f m) := hR.change (fun j hj => by simp [hj])
                    gi_wp2
                    refine ⟨⟨nxt f m, pre ++ [(g, f)], nxt_cho hf hmk HNE.out, R6, hJf, HSH.out.next hf hmk HL.out, hS, hN'⟩, ?_⟩
                    rw [HRK.out, rk_same i R6.num]
                    exact nxt_rk hmk HFM.out
              · gi_wp2_with fail
                gi_quiet (fail)
                have HEQ : Hid (f m + k = N + m) := Lib.hid (by have h1 := HB.out; simp at h1; omega)
                gi_wp2
                refine ⟨⟨?_, row_drewN hR nq, JD _ nq _ hJf, hS, hN'⟩, by simp [intOf]⟩
                rcases Nat.eq_zero_or_pos m with h0 | h0
                · right
                  subst h0
                  refine ⟨by simp, fun i hi => ?_⟩
                  rcases Nat.eq_zero_or_pos i with h1 | h1
                  · subst h1; exact HEQ.out
                  · exact HL.out i h1 hi
                · left
                  refine ⟨m - 1, by omega, by rw [show ((m - 1 : Nat) : Int) = (m : Int) - 1 by omega], fun i h1 h2 => ?_⟩
                  rcases Nat.lt_or_ge m i with h3 | h3
                  · exact HL.out i h3 h2
                  · obtain rfl : i = m := by omega
                    exact HEQ.out
            · have HL := Lib.hid hlast
              clear hlast
              gi_wp2_with fail
              gi_quiet (fail)
              gi_wp2
              refine bodyPost_ret (results_none rfl _ _ _) rfl ?_
              exact ⟨⟨_, rfl⟩, .inl ⟨pre ++ [(g, f)], HSH.out.whole HL.out, JD _ nq _ hJf⟩⟩
        · gi_wp2
          go_end0
          exact ⟨⟨_, rfl⟩, .inr ⟨pre ++ [(g, f)], ⟨pre, (g, f), rfl, hf, fun u hu hl => HSH.out.all u hu hl⟩, hJx3⟩⟩

theorem choices_shows (n : Nat) (hn : 1 ≤ n) (Bs Bn N s : Nat) (hs : 0 < s) (hsN : s ≤ N) (hN : N ≤ 1000000) (w : World) (hBs : w.cell? ⟨Bs, 0, none⟩ = some (.int .i64 (s : Nat))) (hBn : w.cell? ⟨Bn, 0, none⟩ = some (.int .i64 (N : Nat))) :
    Shows Fence.wide n Try.prog 159 #[.pointer (some ⟨Bs, 0, none⟩), .pointer (some ⟨Bn, 0, none⟩)] (fun x => #[.slice (some ⟨x.1, 0, none⟩) s s]) (HxC N s) (SC N s) (SpC N s) w := fun l J Jx W hW hJ hY h0 =>
  choices1_in n hn l Bs Bn N s hs hsN hN J Jx W hJ hY (keep_cell hW hBs) (keep_cell hW hBn) h0

set_option maxHeartbeats 1000000 in
theorem choices_in (n : Nat) (N s : Nat) (w : World) :
    CallsIn Fence.wide n Try.prog 146 #[.int .i64 (N : Nat), .int .i64 (s : Nat)] w fun e w' => e = .returned (.func (.func 159) #[] #[.pointer (some ⟨w.heap.size + 1, 0, none⟩), .pointer (some ⟨w.heap.size, 0, none⟩)]) ∧ w' = (w.alloc (.cells #[.int .i64 (N : Nat)] 3)).alloc (.cells #[.int .i64 (s : Nat)] 3) := by
  refine callsIn_of_wp Try.func146 rfl trivial ?_ rfl
  simp only [Try.ntmps146, List.size_toArray, List.length_cons, List.length_nil, Nat.reduceAdd, Nat.reduceSub, Array.replicate_succ, Array.replicate_zero, List.push_toArray, List.append_toArray, List.nil_append, List.cons_append]
  gi_wp2
  go_ret
  exact ⟨rfl, rfl⟩

end Go.Proofs.Ytlocdadkhdcedaa

/- Walks: Clone of a row of numbers. -/
namespace Go.Proofs.Ytlocdadkhdcedaa
open Go Go.RowKit Go.Proofs Go.Abs Go.Plain

/-- The numbers of a list, as cells. -/
def numL (s : Nat) (f : Nat → Nat) : List Value := (List.range s).map fun i => .int .i64 (f i : Nat)

theorem numL_get {s : Nat} {f : Nat → Nat} {W : World} {g : Nat} (h : RowAt W g s f) : ∀ j u, (numL s f)[j]? = some u → W.cell? ((⟨g, 0, none⟩ : Addr).add j) = some u := by
  intro j u hj
  unfold numL at hj
  rw [List.getElem?_map] at hj
  by_cases hjs : j < s
  · rw [List.getElem?_range hjs] at hj
    simp at hj
    subst hj
    have := h.cell j hjs
    rw [Addr.add_lit, Nat.zero_add]
    exact this
  · rw [List.getElem?_eq_none (by simpa using hjs)] at hj
    cases hj

theorem numL_one (s : Nat) (f : Nat → Nat) : ∀ u ∈ numL s f, u.oneCell' = true := by
  intro u hu
  unfold numL at hu
  simp at hu
  obtain ⟨i, _, rfl⟩ := hu
  rfl

theorem own_low {W : World} {b b' : Nat} {e : TypeId} {size n : Nat} {v : Value} {xs : List Value} (h : W.ownsRow b e size v n xs) (hb : b' ≤ b) : W.ownsRow b' e size v n xs :=
  ⟨h.1, h.2.imp id fun ⟨g, cap, cur, h1, h2, h3⟩ => ⟨g, cap, cur, h1, Nat.le_trans hb h2, h3⟩⟩

theorem run_nil_eql (a : Addr) (n c : Nat) (w : World) : (binOp .eql 38 (.slice (some a) n c) (.slice none 0 0)).run Try.prog w = .ok (.bool false) w := by
  kernel_rfl

set_option maxRecDepth 100000 in
set_option maxHeartbeats 2000000 in
theorem clone_any (g s cap : Nat) (f : Nat → Nat) (hs : 0 < s) (hs2 : s ≤ 1000000) (w : World) (hR : RowAt w g s f) :
    Calls Try.prog 147 #[.slice (some ⟨g, 0, none⟩) s cap] w fun e w' => ∃ v, e = .returned v ∧ w'.ownsRow w.heap.size 3 1 v s (numL s f) ∧ Below w.heap.size w w' := by
  obtain ⟨i0, hi, hz0, hz1, hz2⟩ := info_parts info3
  have NE := run_nil_eql ⟨g, 0, none⟩ s cap
  go_enter Try.func147, Try.ntmps147
  go_wp2_with (at_builtin; refine wpList_append_grows _ rfl _ _ 38 rfl 3 i0 (.int .i64 0) 1 8 Try.underlying38 hi hz0 hz1 hz2 rfl (by decide) _ 0 0 [] rfl (by simp) rfl (by simp) ⟨g, 0, none⟩ s cap (numL s f) rfl (by simp [numL]) (numL_get (hR.below ((Below.refl _ _).alloc (Nat.le_refl _) _))) (numL_one s f) (by omega) (by unfold maxLen; omega) (by omega) ?_; intro v' w' hown hgr)
  go_ret
  have hz : (w.alloc (Obj.cells #[] 3)).heap.size = w.heap.size + 1 := by simp
  refine ⟨v', rfl, ?_, ((Below.refl _ w).alloc (Nat.le_refl _) (Obj.cells #[] 3)).grown hgr (by omega) (fun k e => by cases e)⟩
  have := own_low hown (b' := w.heap.size) (by omega)
  simpa using this

end Go.Proofs.Ytlocdadkhdcedaa
