/- Walks: Colours. -/
import Derived.Test.YtiebbbeijlfedaaA5
import Derived.OwnWalk
import Derived.Laws.AppendOwn
namespace Go.Proofs.Ytiebbbeijlfedaa
open Go Go.RowKit Go.Proofs

theorem info3 : (Try.prog.info? 3).map (fun i => (i.zero, i.size, i.bytes)) = some (some (.int .i64 0), 1, 8) := by kernel_rfl

theorem grown_below {w w' : World} (h : Below w.heap.size w w') : w.grownBy w' none := ⟨h.os, h.tape, h.output, h.size, fun k hk _ => h.block k hk⟩

theorem own_keep {w w' : World} {B e size n : Nat} {v : Value} {xs : List Value} (h : w.ownsRow B e size v n xs) (hb : Below w.heap.size w w') : w'.ownsRow B e size v n xs := by
  refine h.kept (grown_below hb) ?_
  rcases h.2 with ⟨rfl, _⟩ | ⟨g, cap, cur, rfl, _⟩
  · exact .inl rfl
  · exact .inr (by simp [Value.ownBlock])

theorem own_base {w : World} {B B' e size n : Nat} {v : Value} {xs : List Value} (h : w.ownsRow B e size v n xs) (hb : B' ≤ B) : w.ownsRow B' e size v n xs := by
  refine ⟨h.1, ?_⟩
  rcases h.2 with h | ⟨g, cap, cur, h1, h2, h3⟩
  · exact .inl h
  · exact .inr ⟨g, cap, cur, h1, Nat.le_trans hb h2, h3⟩

def seen (L : List Int) (lo hi : Int) (j : Nat) : Bool := decide (j < L.length) && wi (iz L j) lo hi
def colsTo (L : List Int) (lo hi : Int) (n : Nat) : List Value := ((List.range n).filter (seen L lo hi)).map fun (j : Nat) => Value.int .i64 ((j : Int) + 1)

theorem cols_yes {L : List Int} {lo hi : Int} {k : Nat} (h : seen L lo hi k = true) : colsTo L lo hi (k + 1) = colsTo L lo hi k ++ [.int .i64 (k + 1)] := by
  unfold colsTo
  rw [List.range_succ, List.filter_append, List.map_append]
  simp [h]

theorem cols_no {L : List Int} {lo hi : Int} {k : Nat} (h : seen L lo hi k = false) : colsTo L lo hi (k + 1) = colsTo L lo hi k := by
  unfold colsTo
  rw [List.range_succ, List.filter_append, List.map_append]
  simp [h]

theorem cols_len (L : List Int) (lo hi : Int) (k : Nat) : (colsTo L lo hi k).length ≤ k := by
  unfold colsTo
  rw [List.length_map]
  exact Nat.le_trans (List.length_filter_le _ _) (by simp)

theorem ix94 (L : List Int) (w : World) : ∀ k : Fin 16, (Instr.index 94 (.agg (tab L).toArray) (.int .i64 (k.1 : Int))).run Try.prog w = .ok (cellT L k.1) w
  | ⟨0, _⟩ => by kernel_rfl
  | ⟨1, _⟩ => by kernel_rfl
  | ⟨2, _⟩ => by kernel_rfl
  | ⟨3, _⟩ => by kernel_rfl
  | ⟨4, _⟩ => by kernel_rfl
  | ⟨5, _⟩ => by kernel_rfl
  | ⟨6, _⟩ => by kernel_rfl
  | ⟨7, _⟩ => by kernel_rfl
  | ⟨8, _⟩ => by kernel_rfl
  | ⟨9, _⟩ => by kernel_rfl
  | ⟨10, _⟩ => by kernel_rfl
  | ⟨11, _⟩ => by kernel_rfl
  | ⟨12, _⟩ => by kernel_rfl
  | ⟨13, _⟩ => by kernel_rfl
  | ⟨14, _⟩ => by kernel_rfl
  | ⟨15, _⟩ => by kernel_rfl
  | ⟨_ + 16, h⟩ => absurd h (by omega)

theorem index94 (L : List Int) (k : Nat) (h : k < 16) (w : World) : (Instr.index 94 (.agg (tab L).toArray) (.int .i64 k)).run Try.prog w = .ok (cellT L k) w := ix94 L w ⟨k, h⟩

theorem vFilm_val {id : Int} {L : List Int} (hv : vFilm id L = true) : L.length ≤ 16 ∧ 1 ≤ L.length ∧ ∀ k, k < L.length → 0 ≤ iz L k ∧ iz L k ≤ 255 := by
  unfold vFilm at hv
  rw [Bool.and_eq_true, Bool.and_eq_true] at hv
  obtain ⟨⟨-, h2⟩, h3⟩ := hv
  refine ⟨?_, ?_, fun k hk => ?_⟩
  · unfold wi at h2; simp at h2; omega
  · unfold wi at h2; simp at h2; omega
  · have h4 : anyI (fun x => !wi x 0 255) L = false := by simpa using h3
    unfold anyI at h4
    rw [List.any_eq_false] at h4
    have h5 := h4 k (List.mem_range.2 hk)
    unfold wi at h5
    simp at h5
    omega

theorem int_new (w : World) (x : Int) : ∀ j u, [Value.int .i64 x][j]? = some u → (w.alloc (.cells #[.int .i64 x] 3)).cell? ((⟨w.heap.size, 0, none⟩ : Addr).add j) = some u := by
  intro j u h
  match j, h with
  | 0, h => simp at h; subst h; simp [Addr.add]
  | j + 1, h => simp at h

theorem int_one (x : Int) : ∀ u ∈ [Value.int .i64 x], u.oneCell' = true := by
  intro u hu
  simp at hu
  subst hu
  rfl

theorem cell_block {w w' : World} {b o : Nat} (h : w'.heap[b]? = w.heap[b]?) : w'.cell? ⟨b, o, none⟩ = w.cell? ⟨b, o, none⟩ := by
  unfold World.cell?
  simp [h]

set_option maxRecDepth 100000 in
set_option maxHeartbeats 2000000 in
theorem colours_any (id : Int) (v : Value) (L : List Int) (lo hi : Int) (w : World) (h : SlI w v L) (hv : vFilm id L = true) :
    Calls Try.prog 30 #[film id v, spn lo hi] w fun e w' => ∃ v', e = .returned (.tuple #[v', .int .i64 0]) ∧ w'.ownsRow w.heap.size 3 1 v' (colsTo L lo hi 16).length (colsTo L lo hi 16) ∧ Below w.heap.size w w' := by
  obtain ⟨i0, hi0, hz0, hz1, hz2⟩ := info_parts info3
  obtain ⟨hL, -, hval⟩ := vFilm_val hv
  have b0 : Below w.heap.size w ((w.alloc (filmObj id v)).alloc (spnObj lo hi)) := ((Below.refl _ _).alloc (Nat.le_refl _) _).alloc (by simp) _
  have z0 : ((w.alloc (filmObj id v)).alloc (spnObj lo hi)).heap.size = w.heap.size + 2 := by simp
  have f0 := film_new w id v
  have s0 := spn_new (w.alloc (filmObj id v)) lo hi
  rw [World.size_alloc] at s0
  have f1 := pt_old (w.alloc (filmObj id v)) (spnObj lo hi) f0.1
  have f2 := pt_old (w.alloc (filmObj id v)) (spnObj lo hi) f0.2
  have h2 : SlI ((w.alloc (filmObj id v)).alloc (spnObj lo hi)) v L := h.keep b0
  have C1 := validFilm_any id v L _ h2
  rw [hv] at C1
  clear f0 hv
  go_enter Try.func30, Try.ntmps30
  go_wp2_with fail
  refine C1.mono ?_
  rintro e w1 ⟨rfl, hb⟩
  have g1 := keep_cell hb f1
  have g2 := keep_cell hb f2
  have r1 := keep_cell hb s0.1
  have r2 := keep_cell hb s0.2
  have b1 := keep_below b0 hb
  have z1 : w.heap.size + 2 ≤ w1.heap.size := by have := hb.size; omega
  have h3 := h.keep b1
  clear h h2 C1 f1 f2 s0 z0 hb b0
  have C2 := tableOf_any id v L w1 h3 hL
  have HIX : ∀ k : Nat, k < 16 → ∀ w, (Instr.index 94 (.agg (tab L).toArray) (.int .i64 k)).run Try.prog w = .ok (cellT L k) w := fun k hk w => index94 L k hk w
  generalize (tab L).toArray = T at C2 HIX
  have HX := Lib.hid HIX
  have HV := Lib.hid hval
  clear HIX hval h3
  go_wp2_with fail
  refine C2.mono ?_
  rintro e w2 ⟨rfl, hb⟩
  clear C2 g1 g2
  have s1 := keep_cell hb r1
  have s2 := keep_cell hb r2
  have b2 := keep_below b1 hb
  have z2 : w.heap.size + 2 ≤ w2.heap.size := by have := hb.size; omega
  clear r1 r2 b1 z1 hb w1
  go_wp2_with fail
  go_loopw [6, 14] (fun u i wr => ∃ k : Nat, k ≤ 16 ∧ i = .int .i64 k ∧ wr.ownsRow (w.heap.size + 2) 3 1 u (colsTo L lo hi k).length (colsTo L lo hi k) ∧ Below w.heap.size w wr ∧ w.heap.size + 2 ≤ wr.heap.size ∧ wr.cell? ⟨w.heap.size + 1, 0, none⟩ = some (.int .i64 lo) ∧ wr.cell? ⟨w.heap.size + 1, 1, none⟩ = some (.int .i64 hi)) (fun _ i _ => 16 - (intOf i).toNat)
  case atStart => exact ⟨0, Nat.zero_le _, rfl, World.ownsRow_nil _ _ _ _, b2, z2, s1, s2⟩
  case round =>
    clear s1 s2 b2 z2 w2
    obtain ⟨k, hk, rfl, hown, hbel, hz, s1, s2⟩ := hrel
    by_cases hlt : k < 16
    · have j1 : (k : Int) < 16 := by omega
      have hix := HX.out k hlt
      have hlen := cols_len L lo hi k
      by_cases hkl : k < L.length
      · have hc : cellT L k = .int .i64 (iz L k) := by unfold cellT; rw [if_pos hkl]
        rw [hc] at hix
        clear hc
        have hg := HV.out k hkl
        have C := contains51_any lo hi (iz L k) wr
        have hY : wi (iz L k) lo hi = true → colsTo L lo hi (k + 1) = colsTo L lo hi k ++ [.int .i64 (k + 1)] := fun e => cols_yes (by unfold seen; simp [hkl, e])
        have hN : wi (iz L k) lo hi = false → colsTo L lo hi (k + 1) = colsTo L lo hi k := fun e => cols_no (by unfold seen; simp [e])
        generalize wi (iz L k) lo hi = c at C hY hN
        generalize iz L k = g at hix hg C
        generalize colsTo L lo hi k = XS at hown hlen hY hN ⊢
        have hne : ¬ g = -1 := by omega
        clear hg
        have HY := Lib.hid hY
        have HN := Lib.hid hN
        clear hY hN
        cases c
        · go_wp2_with (first | (go_at_call 51; refine C.mono ?_; rintro e w3 ⟨rfl, hb⟩))
          exact ⟨⟨k + 1, by omega, by simp, by rw [HN.out (by first | trivial | rfl)]; exact own_keep hown hb, keep_below hbel hb, Nat.le_trans hz hb.size, keep_cell hb s1, keep_cell hb s2⟩, by simp [intOf]; omega⟩
        · go_wp2_with (first
            | (go_at_call 51; refine C.mono ?_; rintro e w3 ⟨rfl, hb⟩
               have own3 := own_keep hown hb
               have b3 := keep_below hbel hb
               have z3 := Nat.le_trans hz hb.size
               have t1 := keep_cell hb s1
               have t2 := keep_cell hb s2
               clear hown hb C)
            | (at_builtin; go_loud (refine wpList_append_own _ rfl _ _ 26 rfl (w.heap.size + 2) 3 i0 (.int .i64 0) 1 8 Try.underlying26 hi0 hz0 hz1 hz2 rfl (by decide) _ _ _ rfl (own3.alloc _) _ 1 1 [.int .i64 (k + 1)] rfl rfl (int_new _ _) (int_one _) (by unfold maxLen; omega) (by omega) (by simp; omega) ?_; intro v1 w4 hown4 hgrow4 hnil4)))
          have ne4 : some (w.heap.size + 1) ≠ u6.ownBlock := fun e => by have := (own3.lt _ e.symm).1; omega
          have e4 := hgrow4.block (w.heap.size + 1) (by simp; omega) ne4
          rw [alloc_heap_old _ _ (by omega)] at e4
          have b4 := (b3.alloc b3.size (.cells #[.int .i64 (k + 1)] 3)).grown hgrow4 (by simp; omega) (fun j hj => Nat.le_trans (by omega) (own3.lt j hj).1)
          have z4 : w.heap.size + 2 ≤ w4.heap.size := by have := hgrow4.size; simp at this; omega
          refine ⟨⟨k + 1, by omega, by simp, ?_, b4, z4, (cell_block e4).trans t1, (cell_block e4).trans t2⟩, by simp [intOf]; omega⟩
          rw [HY.out (by first | trivial | rfl), List.length_append]
          exact hown4
      · have hc : cellT L k = .int .i64 (-1) := by unfold cellT; rw [if_neg hkl]
        rw [hc] at hix
        clear hc
        have hN : colsTo L lo hi (k + 1) = colsTo L lo hi k := cols_no (by unfold seen; simp [hkl])
        generalize colsTo L lo hi k = XS at hown hlen hN ⊢
        have HN := Lib.hid hN
        clear hN
        go_wp2
        exact ⟨⟨k + 1, by omega, by simp, by rw [HN.out]; exact hown, hbel, hz, s1, s2⟩, by simp [intOf]; omega⟩
    · obtain rfl : k = 16 := by omega
      go_wp2
      go_ret2
      exact ⟨_, rfl, own_base hown (by omega), hbel⟩

end Go.Proofs.Ytiebbbeijlfedaa
