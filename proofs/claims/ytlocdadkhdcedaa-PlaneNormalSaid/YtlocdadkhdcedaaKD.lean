/- The abstract machine, part KD. -/
import Derived.Test.YtlocdadkhdcedaaKC
import Derived.Laws.AppendOwn
/- Walks: Settings. -/
namespace Go.Proofs.Ytlocdadkhdcedaa
open Go Go.RowKit Go.Proofs

theorem info51 : (Try.prog.info? 51).map (fun i => (i.zero, i.size, i.bytes)) = some (some (.agg #[.int .i64 0, .bool false]), 2, 16) := by kernel_rfl

def encS (L : List (Nat × Bool)) : List Value := L.flatMap fun p => [.int .i64 p.1, .bool p.2]

theorem encS_snoc (L : List (Nat × Bool)) (s : Nat) (b : Bool) : encS (L ++ [(s, b)]) = encS L ++ [.int .i64 s, .bool b] := by simp [encS]

theorem st_two_new (w : World) (s : Int) (b : Bool) : ∀ j u, [Value.int .i64 s, .bool b][j]? = some u → (w.alloc (stObj s b)).cell? ((⟨w.heap.size, 0, none⟩ : Addr).add j) = some u := by
  intro j u h
  match j, h with
  | 0, h => simp at h; subst h; simp [Addr.add]
  | 1, h => simp at h; subst h; simp [Addr.add]
  | j + 2, h => simp at h

theorem st_two_cells (s : Int) (b : Bool) : ∀ u ∈ [Value.int .i64 s, .bool b], u.oneCell' = true := by
  intro u hu
  simp at hu
  rcases hu with rfl | rfl <;> rfl

theorem arr_not_row {W : World} {B : Nat} {c : Array Value} {t e : TypeId} (h : W.heap[B]? = some (.cells c t (0, 0))) (hte : t ≠ e) {base size k : Nat} {v : Value} {xs : List Value} (hr : W.ownsRow base e size v k xs) : some B ≠ v.ownBlock := by
  rcases hr.2 with ⟨rfl, _⟩ | ⟨g, cap, cur, rfl, _, hgb, _⟩
  · simp [Value.ownBlock]
  · intro e'
    obtain rfl : B = g := by simpa [Value.ownBlock] using e'
    have := h.symm.trans hgb
    simp at this
    exact hte this.2

/-- All settings up to shift k, by shift, without back first. -/
def allS (k : Nat) : List (Nat × Bool) := (List.range k).flatMap fun s => [(s, false), (s, true)]

theorem allS_succ (k : Nat) : allS (k + 1) = allS k ++ [(k, false), (k, true)] := by simp [allS, List.range_succ]

/-- The settings by which the lists are congruent. -/
def settL (P Q : List (Int × Int)) (k : Nat) : List (Nat × Bool) := (allS k).filter fun p => congS (px P) (py P) (px Q) (py Q) P.length p.1 p.2

theorem settL_succ (P Q : List (Int × Int)) (k : Nat) : settL P Q (k + 1) = settL P Q k ++ [(k, false), (k, true)].filter fun p => congS (px P) (py P) (px Q) (py Q) P.length p.1 p.2 := by
  simp [settL, allS_succ, List.filter_append]

theorem allS_len (k : Nat) : (allS k).length = 2 * k := by
  induction k with
  | zero => rfl
  | succ k ih => rw [allS_succ]; simp [ih]; omega

theorem settL_len (P Q : List (Int × Int)) (k : Nat) : (settL P Q k).length ≤ 2 * k := by
  rw [← allS_len k]
  exact List.length_filter_le _ _

theorem vOut_len {L : List (Int × Int)} (h : vOut L = true) : 3 ≤ L.length ∧ L.length ≤ 24 ∧ vPts L = true := by
  unfold vOut at h
  simp only [Bool.and_eq_true, decide_eq_true_eq] at h
  exact ⟨h.1, h.2.1, h.2.2.1⟩

/-- What Settings returns: the list, the error. -/
def settV (P Q : List (Int × Int)) : List (Nat × Bool) := if vOut P = true ∧ vOut Q = true ∧ P.length = Q.length then settL P Q P.length else []
def settE (P Q : List (Int × Int)) : Int := if vOut P = true ∧ vOut Q = true then 0 else 1

set_option maxRecDepth 100000 in
set_option maxHeartbeats 8000000 in
theorem settings_any (bp op cp bq oq cq : Nat) (P Q : List (Int × Int)) (lP : P.length ≤ 9223372036854775807) (lQ : Q.length ≤ 9223372036854775807) (w : World) (hP : PtsAt w bp op P) (hQ : PtsAt w bq oq Q) :
    Calls Try.prog 50 #[.slice (some ⟨bp, op, none⟩) P.length cp, .slice (some ⟨bq, oq, none⟩) Q.length cq] w fun e w' => ∃ v, e = .returned (.tuple #[v, .int .i64 (settE P Q)]) ∧ w'.ownsRow w.heap.size 51 2 v (settV P Q).length (encS (settV P Q)) ∧ Below w.heap.size w w' := by
  obtain ⟨i0, hi, hz0, hz1, hz2⟩ := info_parts info51
  obtain ⟨S, hS⟩ : ∃ S, settV P Q = S := ⟨_, rfl⟩
  obtain ⟨E, hE⟩ : ∃ E, settE P Q = E := ⟨_, rfl⟩
  rw [hS, hE]
  have VP := validOutline_any bp op cp P lP w hP
  have VQ := fun w' (hb : Below w.heap.size w w') => validOutline_any bq oq cq Q lQ w' (hQ.keep hb)
  have HP := Lib.hid hP
  have HQ := Lib.hid hQ
  clear hP hQ
  by_cases hvp : vOut P = true
  · rw [hvp] at VP
    have HVP := Lib.hid hvp
    go_enter Try.func50, Try.ntmps50
    go_wp2_with fail
    refine VP.mono ?_
    rintro e w1 ⟨rfl, b1⟩
    clear VP
    by_cases hvq : vOut Q = true
    · have VQ1 := VQ w1 b1
      rw [hvq] at VQ1
      have HVQ := Lib.hid hvq
      clear hvp hvq VQ
      go_wp2_with fail
      refine VQ1.mono ?_
      rintro e w2 ⟨rfl, hb⟩
      have b2 := keep_below b1 hb
      clear hb b1 VQ1
      obtain rfl : E = 0 := by rw [← hE]; unfold settE; rw [if_pos ⟨HVP.out, HVQ.out⟩]
      clear hE
      obtain ⟨h3, h24, hvp⟩ := vOut_len HVP.out
      obtain ⟨h3q, h24q, hvq⟩ := vOut_len HVQ.out
      have smp := Lib.hid (vPts_small hvp)
      have smq := Lib.hid (vPts_small hvq)
      clear hvp hvq
      by_cases hpq : P.length = Q.length
      · have HV : S = settL P Q P.length := by rw [← hS]; unfold settV; rw [if_pos ⟨HVP.out, HVQ.out, hpq⟩]
        clear hS
        have hQ' : ∀ k, k < P.length → w.cell? ⟨bq, oq + k * 2, none⟩ = some (.int .i64 (px Q k)) ∧ w.cell? ⟨bq, oq + k * 2 + 1, none⟩ = some (.int .i64 (py Q k)) := fun k hk => HQ.out k (hpq ▸ hk)
        have hP' : ∀ k, k < P.length → w.cell? ⟨bp, op + k * 2, none⟩ = some (.int .i64 (px P k)) ∧ w.cell? ⟨bp, op + k * 2 + 1, none⟩ = some (.int .i64 (py P k)) := HP.out
        rw [← hpq]
        have HS := settL_succ P Q
        have HL := settL_len P Q
        have H0 : settL P Q 0 = [] := rfl
        have smp' := smp.out
        have smq' := smq.out
        clear HP HQ HVP HVQ lQ h3q h24q hpq smp smq
        generalize settL P Q = SL at HV HS HL H0
        generalize px P = xp, py P = yp at hP' HS smp'
        generalize px Q = xq, py Q = yq at hQ' HS smq'
        generalize P.length = n at lP h3 h24 HV HS hP' hQ' ⊢
        have HVx := Lib.hid HV
        have HSx := Lib.hid HS
        have HLx := Lib.hid HL
        have HPx := Lib.hid hP'
        have HQx := Lib.hid hQ'
        have smp := Lib.hid smp'
        have smq := Lib.hid smq'
        clear HV HS HL hP' hQ' smp' smq' lP
        go_wp2_with fail
        go_loopw [6, 26] (fun v i wr => ∃ k : Nat, k ≤ n ∧ i = .int .i64 k ∧ wr.ownsRow w.heap.size 51 2 v (SL k).length (encS (SL k)) ∧ Below w.heap.size w wr) (fun _ i _ => n - (intOf i).toNat)
        case atStart => exact ⟨0, Nat.zero_le _, rfl, by rw [H0]; exact World.ownsRow_nil _ _ _ _, b2⟩
        case round =>
          obtain ⟨k, hk, rfl, hown, hbel⟩ := hrel
          by_cases hlt : k < n
          · have j1 : (k : Int) < (n : Int) := by omega
            have hlk := HLx.out k
            have hnext := HSx.out k
            obtain ⟨L, hL⟩ : ∃ L, SL k = L := ⟨_, rfl⟩
            rw [hL] at hown hlk hnext
            have HN := Lib.hid hnext
            clear hnext hL b2
            go_wp2_with fail
            have hB0 : (wr.alloc (.cells #[.bool false, .bool true] 4)).heap[wr.heap.size]? = some (.cells #[.bool false, .bool true] 4 (0, 0)) := World.alloc_heap_new wr _
            have hown1 := hown.alloc (.cells #[.bool false, .bool true] 4)
            have hbel1 := hbel.alloc hbel.size (.cells #[.bool false, .bool true] 4)
            clear hown hbel
            generalize wr.heap.size = gb at hB0 ⊢
            generalize (wr.alloc (.cells #[.bool false, .bool true] 4)) = W1 at hB0 hown1 hbel1 ⊢
            obtain ⟨LM, hLM⟩ : ∃ LM : Nat → List (Nat × Bool), LM = fun m => L ++ ([(k, false), (k, true)].take m).filter fun p => congS xp yp xq yq n p.1 p.2 := ⟨_, rfl⟩
            have hLM0 : LM 0 = L := by rw [hLM]; simp
            have hLM2 : LM 2 = SL (k + 1) := by rw [hLM, HN.out]; rfl
            have hLMs : ∀ m, m < 2 → LM (m + 1) = if congS xp yp xq yq n k (decide (m = 1)) = true then LM m ++ [(k, decide (m = 1))] else LM m := by
              intro m hm
              rw [hLM]
              rcases (show m = 0 ∨ m = 1 by omega) with rfl | rfl
              · simp [List.filter_cons]; split <;> simp
              · simp [List.filter_cons]; split <;> split <;> simp_all
            have hLMl : ∀ m, m ≤ 2 → (LM m).length ≤ 2 * k + m := by
              intro m hm
              rw [hLM]
              simp only [List.length_append]
              have := List.length_filter_le (fun p : Nat × Bool => congS xp yp xq yq n p.1 p.2) ([(k, false), (k, true)].take m)
              have h2 := List.length_take_le m [(k, false), (k, true)]
              omega
            clear hLM
            have H2 := Lib.hid hLM2
            have HM := Lib.hid hLMs
            have Hl := Lib.hid hLMl
            clear hLM2 hLMs hLMl HN
            rw [← hLM0] at hown1
            clear hLM0
            go_loopw [6, 31] (fun v j wi => ∃ m : Nat, m ≤ 2 ∧ j = .int .i64 m ∧ wi.ownsRow w.heap.size 51 2 v (LM m).length (encS (LM m)) ∧ Below w.heap.size w wi ∧ wi.heap[gb]? = some (.cells #[.bool false, .bool true] 4 (0, 0))) (fun _ j _ => 2 - (intOf j).toNat)
            case atStart => exact ⟨0, by omega, rfl, hown1, hbel1, hB0⟩
            case round =>
              clear hB0 hown1 hbel1
              obtain ⟨m, hm, rfl, hown, hbel, hB⟩ := hrel
              by_cases hm2 : m < 2
              · have j2 : (m : Int) < 2 := by omega
                have hstep := HM.out m hm2
                have hlen := Hl.out m hm
                have hcell : wr.cell? ⟨gb, m, none⟩ = some (.bool (decide (m = 1))) := by
                  rcases (show m = 0 ∨ m = 1 by omega) with rfl | rfl <;> simp [World.cell?, hB]
                generalize decide (m = 1) = β at hstep hcell
                obtain ⟨LN, hLN⟩ : ∃ LN, LM (m + 1) = LN := ⟨_, rfl⟩
                obtain ⟨LL, hLL⟩ : ∃ LL, LM m = LL := ⟨_, rfl⟩
                rw [hLN, hLL] at hstep
                rw [hLL] at hown hlen
                have HLN := Lib.hid hLN
                have HST := Lib.hid hstep
                clear hLN hLL hstep
                go_wp2_with fail
                have n0 := st_new wr k β
                have b3 := hbel.alloc hbel.size (stObj k β)
                refine (congruent_any bp op cp bq oq cq n xp yp xq yq h3 h24 smp.out smq.out k hlt β _ (fun i hi => ⟨keep_cell2 b3 (HPx.out i hi).1, keep_cell2 b3 (HPx.out i hi).2⟩) (fun i hi => ⟨keep_cell2 b3 (HQx.out i hi).1, keep_cell2 b3 (HQx.out i hi).2⟩)).mono ?_
                rintro e w5 ⟨rfl, hb⟩
                have s0 := keep_cell hb n0.1
                have s1 := keep_cell hb n0.2
                have b5 := keep_below b3 hb
                have o5 := own_keep (hown.alloc (stObj k β)) hb
                have hB5 : w5.heap[gb]? = some (.cells #[.bool false, .bool true] 4 (0, 0)) := by
                  have h1 : gb < wr.heap.size := (Array.getElem?_eq_some_iff.1 hB).1
                  rw [hb.block gb (by simp; omega), Below.heap_alloc _ _ gb h1, hB]
                clear hb n0 b3 hown hB hbel hcell
                obtain ⟨c, hc⟩ : ∃ c, congS xp yp xq yq n k β = c := ⟨_, rfl⟩
                rw [hc] at HST ⊢
                clear hc
                cases c
                · go_wp2
                  refine ⟨⟨m + 1, by omega, by simp, ?_, b5, hB5⟩, by simp [intOf]; omega⟩
                  rw [HLN.out, HST.out]
                  exact o5
                · go_wp2_with (at_builtin; refine wpList_append_own _ rfl _ _ 59 rfl w.heap.size 51 i0 (.agg #[.int .i64 0, .bool false]) 2 16 Try.underlying59 hi hz0 hz1 hz2 rfl (by decide) _ _ _ rfl (o5.alloc _) _ 1 1 [.int .i64 k, .bool β] rfl rfl (st_two_new _ _ _) (st_two_cells _ _) (by unfold maxLen; omega) (by first | omega | (simp; done) | (simp; omega)) (by have := b5.size; simp; omega) ?_; intro v1 w6 hown6 hgrow6 hnil6)
                  have hne := arr_not_row (h := (Below.heap_alloc w5 (stObj k β) gb (Array.getElem?_eq_some_iff.1 hB5).1).trans hB5) (by decide) (o5.alloc (stObj k β))
                  have hB6 : w6.heap[gb]? = some (.cells #[.bool false, .bool true] 4 (0, 0)) := by
                    have h1 : gb < w5.heap.size := (Array.getElem?_eq_some_iff.1 hB5).1
                    rw [hgrow6.block gb (by simp; omega) hne, Below.heap_alloc _ _ gb h1, hB5]
                  have b6 := (b5.alloc b5.size (stObj k β)).grown hgrow6 (by have := b5.size; simp; omega) (fun j hj => (o5.lt j hj).1)
                  refine ⟨⟨m + 1, by omega, by simp, ?_, b6, hB6⟩, by simp [intOf]; omega⟩
                  have hLNv : LN = LL ++ [(k, β)] := by rw [HST.out]; simp
                  rw [HLN.out, hLNv, encS_snoc]
                  simpa using hown6
              · obtain rfl : m = 2 := by omega
                go_wp2
                rw [H2.out] at hown
                exact ⟨⟨k + 1, by omega, by simp, hown, hbel⟩, by simp [intOf]; omega⟩
          · obtain rfl : k = n := by omega
            go_wp2
            go_ret2
            rw [HVx.out]
            exact ⟨_, rfl, hown, hbel⟩
      · have hpq' : ¬ (P.length : Int) = (Q.length : Int) := by omega
        obtain rfl : S = [] := by rw [← hS]; unfold settV; rw [if_neg (fun h => hpq h.2.2)]
        go_wp2
        go_ret2
        exact ⟨_, rfl, World.ownsRow_nil _ _ _ _, b2⟩
    · have VQ1 := VQ w1 b1
      have hvq' : vOut Q = false := by simpa using hvq
      rw [hvq'] at VQ1
      obtain rfl : S = [] := by rw [← hS]; unfold settV; rw [if_neg (fun h => hvq h.2.1)]
      obtain rfl : E = 1 := by rw [← hE]; unfold settE; rw [if_neg (fun h => hvq h.2)]
      clear hS hE
      clear hvp hvq hvq' VQ
      go_wp2_with fail
      refine VQ1.mono ?_
      rintro e w2 ⟨rfl, hb⟩
      have b2 := keep_below b1 hb
      clear hb b1 VQ1
      go_wp2
      go_ret2
      exact ⟨_, rfl, World.ownsRow_nil _ _ _ _, b2⟩
  · have hvp' : vOut P = false := by simpa using hvp
    rw [hvp'] at VP
    obtain rfl : S = [] := by rw [← hS]; unfold settV; rw [if_neg (fun h => hvp h.1)]
    obtain rfl : E = 1 := by rw [← hE]; unfold settE; rw [if_neg (fun h => hvp h.1)]
    clear hS hE hvp hvp' VQ
    go_enter Try.func50, Try.ntmps50
    go_wp2_with fail
    refine VP.mono ?_
    rintro e w1 ⟨rfl, b1⟩
    clear VP
    go_wp2
    go_ret2
    exact ⟨_, rfl, World.ownsRow_nil _ _ _ _, b1⟩

end Go.Proofs.Ytlocdadkhdcedaa

/- Settings: the plain law of congruent lists. -/
namespace Go.Proofs.Ytlocdadkhdcedaa
open Go Go.RowKit Go.Proofs

theorem lay_lay {s t n i : Int} {b c : Bool} (h1 : 0 ≤ s) (h2 : s < n) (h3 : 0 ≤ t) (h4 : t < n) (h5 : 0 ≤ i) (h6 : i < n) :
    layI t c n (layI s b n i) = layI (Plain.ed t c n s) (b != c) n i := by
  unfold layI Plain.ed
  cases b <;> cases c <;> simp <;> (repeat' split) <;> omega

theorem lay_inv {s n i : Int} {b : Bool} (h1 : 0 ≤ s) (h2 : s < n) (h5 : 0 ≤ i) (h6 : i < n) : layI s b n (layI (Plain.inv s b n) b n i) = i := by
  unfold layI Plain.ed Plain.inv
  cases b <;> simp <;> (repeat' split) <;> omega

theorem inv_inv {s n : Int} {b : Bool} (h1 : 0 ≤ s) (h2 : s < n) : Plain.inv (Plain.inv s b n) b n = s := by
  unfold Plain.inv
  cases b <;> simp <;> (repeat' split) <;> omega

theorem square_comm (ax ay bx b_y : Int) : square ax ay bx b_y = square bx b_y ax ay := by
  unfold square
  rw [← Int.neg_mul_neg (bx - ax), ← Int.neg_mul_neg (b_y - ay), Int.neg_sub, Int.neg_sub]

theorem square_self (ax ay : Int) : square ax ay ax ay = 0 := by
  unfold square
  simp

section
variable {xp yp xq yq xr yr : Nat → Int} {n s t : Nat} {b c : Bool}

theorem cong_all (h : congS xp yp xq yq n s b = true) : (∀ i, i < n → bendS xp yp n i = bendS xq yq n (layN n s b i)) ∧ ∀ i k, i < n → k < n → square (xp i) (yp i) (xp k) (yp k) = square (xq (layN n s b i)) (yq (layN n s b i)) (xq (layN n s b k)) (yq (layN n s b k)) := by
  unfold congS at h
  rw [decide_eq_true_eq] at h
  refine ⟨fun i hi => (h i hi).1, fun i k hi hk => ?_⟩
  rcases Nat.lt_trichotomy k i with hh | rfl | hh
  · exact (h i hi).2 k hh
  · rw [square_self, square_self]
  · rw [square_comm, square_comm (xq _)]
    exact (h k hk).2 i hh

theorem cong_mk (h1 : ∀ i, i < n → bendS xp yp n i = bendS xq yq n (layN n s b i)) (h2 : ∀ i k, i < n → k < n → square (xp i) (yp i) (xp k) (yp k) = square (xq (layN n s b i)) (yq (layN n s b i)) (xq (layN n s b k)) (yq (layN n s b k))) : congS xp yp xq yq n s b = true := by
  unfold congS
  rw [decide_eq_true_eq]
  exact fun i hi => ⟨h1 i hi, fun k hk => h2 i k hi (by omega)⟩

/-- The composition, the inverse. -/
def comN (n s : Nat) (_b : Bool) (t : Nat) (c : Bool) : Nat := (Plain.ed t c n s).toNat
def invN (n s : Nat) (b : Bool) : Nat := (Plain.inv s b n).toNat

theorem comN_int (hs : s < n) (ht : t < n) : (comN n s b t c : Int) = Plain.ed t c n s := by
  have := Plain.ed_range (sh := t) (n := n) (i := s) (b := c) (by omega) (by omega) (by omega) (by omega)
  unfold comN
  omega

theorem invN_int (hs : s < n) : (invN n s b : Int) = Plain.inv s b n := by
  have := Plain.inv_range (s := s) (n := n) (b := b) (by omega) (by omega)
  unfold invN
  omega

theorem comN_lt (hs : s < n) (ht : t < n) : comN n s b t c < n := by
  have := Plain.ed_range (sh := t) (n := n) (i := s) (b := c) (by omega) (by omega) (by omega) (by omega)
  unfold comN
  omega

theorem invN_lt (hs : s < n) : invN n s b < n := by
  have := Plain.inv_range (s := s) (n := n) (b := b) (by omega) (by omega)
  unfold invN
  omega

theorem invN_invN (hs : s < n) : invN n (invN n s b) b = s := by
  have h := invN_int (b := b) hs
  unfold invN at h ⊢
  rw [h, inv_inv (by omega) (by omega)]
  simp

theorem lay_com (hs : s < n) (ht : t < n) {i : Nat} (hi : i < n) : layN n t c (layN n s b i) = layN n (comN n s b t c) (b != c) i := by
  have h1 := layN_int (b := b) hs hi
  have h2 := lay_lay (s := s) (t := t) (n := n) (i := i) (b := b) (c := c) (by omega) (by omega) (by omega) (by omega) (by omega) (by omega)
  have h3 := comN_int (b := b) (c := c) hs ht
  unfold layN at h1 ⊢
  rw [h1, h2, h3]

theorem lay_invN (hs : s < n) {i : Nat} (hi : i < n) : layN n s b (layN n (invN n s b) b i) = i := by
  have h1 := layN_int (b := b) (invN_lt (b := b) hs) hi
  have h2 := lay_inv (s := s) (n := n) (i := i) (b := b) (by omega) (by omega) (by omega) (by omega)
  have h3 := invN_int (b := b) hs
  unfold layN at h1 ⊢
  rw [h1, h3, h2]
  simp

theorem cong_com (hs : s < n) (ht : t < n) (h : congS xp yp xq yq n s b = true) (k : congS xq yq xr yr n t c = true) : congS xp yp xr yr n (comN n s b t c) (b != c) = true := by
  obtain ⟨a1, a2⟩ := cong_all h
  obtain ⟨k1, k2⟩ := cong_all k
  refine cong_mk (fun i hi => ?_) (fun i j hi hj => ?_)
  · rw [a1 i hi, k1 _ (layN_lt hs hi), lay_com hs ht hi]
  · rw [a2 i j hi hj, k2 _ _ (layN_lt hs hi) (layN_lt hs hj), lay_com hs ht hi, lay_com hs ht hj]

theorem cong_inv (hs : s < n) (h : congS xp yp xq yq n s b = true) : congS xq yq xp yp n (invN n s b) b = true := by
  obtain ⟨a1, a2⟩ := cong_all h
  have hv := invN_lt (b := b) hs
  refine cong_mk (fun i hi => ?_) (fun i j hi hj => ?_)
  · rw [a1 _ (layN_lt hv hi), lay_invN hs hi]
  · rw [a2 _ _ (layN_lt hv hi) (layN_lt hv hj), lay_invN hs hi, lay_invN hs hj]

end

theorem mem_allS {k s : Nat} {b : Bool} : (s, b) ∈ allS k ↔ s < k := by
  unfold allS
  rw [List.mem_flatMap]
  constructor
  · rintro ⟨x, hx, hm⟩
    have := List.mem_range.1 hx
    simp at hm
    rcases hm with ⟨rfl, _⟩ | ⟨rfl, _⟩ <;> exact this
  · intro h
    exact ⟨s, List.mem_range.2 h, by cases b <;> simp⟩

theorem nodup_allS (k : Nat) : (allS k).Nodup := by
  induction k with
  | zero => exact List.nodup_nil
  | succ k ih =>
    rw [allS_succ, List.nodup_append]
    refine ⟨ih, by simp, fun a ha b hb => ?_⟩
    rintro rfl
    have h1 : a.1 < k := mem_allS.1 (show (a.1, a.2) ∈ allS k from ha)
    simp at hb
    rcases hb with rfl | rfl <;> simp at h1

theorem length_le_of_sub {α : Type} [DecidableEq α] : ∀ {l m : List α}, l.Nodup → (∀ x ∈ l, x ∈ m) → l.length ≤ m.length
  | [], _, _, _ => Nat.zero_le _
  | a :: l, m, hn, hs => by
    rw [List.nodup_cons] at hn
    have ha := hs a (by simp)
    have := length_le_of_sub (l := l) (m := m.erase a) hn.2 (fun x hx => (List.mem_erase_of_ne (fun e => hn.1 (by rw [← e]; exact hx))).2 (hs x (by simp [hx])))
    rw [List.length_erase_of_mem ha] at this
    have hp := List.length_pos_of_mem ha
    simp only [List.length_cons]
    omega

theorem mem_settL {P Q : List (Int × Int)} {k s : Nat} {b : Bool} : (s, b) ∈ settL P Q k ↔ s < k ∧ congS (px P) (py P) (px Q) (py Q) P.length s b = true := by
  unfold settL
  rw [List.mem_filter, mem_allS]

theorem settV_inv {P Q : List (Int × Int)} {s : Nat} {b : Bool} (h : (s, b) ∈ settV P Q) : P.length = Q.length ∧ s < P.length ∧ (invN P.length s b, b) ∈ settV Q P := by
  unfold settV at h
  split at h
  · rename_i hc
    rw [mem_settL] at h
    refine ⟨hc.2.2, h.1, ?_⟩
    unfold settV
    rw [if_pos ⟨hc.2.1, hc.1, hc.2.2.symm⟩, mem_settL, ← hc.2.2]
    exact ⟨invN_lt h.1, cong_inv h.1 h.2⟩
  · simp at h

theorem settV_com {P Q R : List (Int × Int)} {s t : Nat} {b c : Bool} (h : (s, b) ∈ settV P Q) (k : (t, c) ∈ settV Q R) : t < P.length ∧ (comN P.length s b t c, b != c) ∈ settV P R := by
  unfold settV at h k
  split at h
  · rename_i hc
    split at k
    · rename_i kc
      rw [mem_settL] at h k
      rw [← hc.2.2] at k
      refine ⟨k.1, ?_⟩
      unfold settV
      rw [if_pos ⟨hc.1, kc.2.1, hc.2.2.trans kc.2.2⟩, mem_settL]
      exact ⟨comN_lt h.1 k.1, cong_com h.1 k.1 h.2 k.2⟩
    · simp at k
  · simp at h

theorem nodup_settV (P Q : List (Int × Int)) : (settV P Q).Nodup := by
  unfold settV
  split
  · exact (nodup_allS _).filter _
  · exact List.nodup_nil

theorem settV_len_le (P Q : List (Int × Int)) : (settV P Q).length ≤ (settV Q P).length := by
  have h1 : ((settV P Q).map fun p => (invN P.length p.1 p.2, p.2)).Nodup := by
    refine List.pairwise_map.2 ((nodup_settV P Q).imp_of_mem ?_)
    rintro ⟨s, b⟩ ⟨t, c⟩ hs ht hne he
    simp only [Prod.mk.injEq] at he
    obtain ⟨e1, rfl⟩ := he
    obtain ⟨_, hs2, _⟩ := settV_inv hs
    obtain ⟨_, ht2, _⟩ := settV_inv ht
    have := congrArg (fun x => invN P.length x b) e1
    simp only [invN_invN hs2, invN_invN ht2] at this
    exact hne (by rw [this])
  have h2 := length_le_of_sub h1 (m := settV Q P) (by
    intro x hx
    obtain ⟨⟨s, b⟩, hm, rfl⟩ := List.mem_map.1 hx
    exact (settV_inv hm).2.2)
  simpa using h2

theorem settV_len (P Q : List (Int × Int)) : (settV P Q).length = (settV Q P).length := Nat.le_antisymm (settV_len_le P Q) (settV_len_le Q P)

theorem settV_most (P Q : List (Int × Int)) : (settV P Q).length ≤ 2 * P.length := by
  unfold settV
  split
  · exact settL_len P Q _
  · simp

theorem settV_same {P Q : List (Int × Int)} (h : P.length ≠ Q.length) : settV P Q = [] := by
  unfold settV
  rw [if_neg (fun hh => h hh.2.2)]

end Go.Proofs.Ytlocdadkhdcedaa

/- Walks: among. -/
namespace Go.Proofs.Ytlocdadkhdcedaa
open Go Go.RowKit Go.Proofs

theorem run_st_eql (a c : Int) (b d : Bool) (w : World) : (binOp .eql 51 (st a b) (st c d)).run Try.prog w = .ok (.bool (a == c && b == d)) w := by
  by_cases h1 : a = c <;> by_cases h2 : b = d <;> go_simp

theorem encS_get : ∀ (L : List (Nat × Bool)) (i : Nat) (p : Nat × Bool), L[i]? = some p → (encS L)[i * 2]? = some (.int .i64 p.1) ∧ (encS L)[i * 2 + 1]? = some (.bool p.2)
  | [], i, p, h => by simp at h
  | q :: L, 0, p, h => by simp at h; subst h; simp [encS]
  | q :: L, i + 1, p, h => by
    have ih := encS_get L i p (by simpa using h)
    have e : encS (q :: L) = .int .i64 q.1 :: .bool q.2 :: encS L := by simp [encS]
    rw [e, show (i + 1) * 2 = i * 2 + 1 + 1 by omega]
    simpa using ih

theorem own_set {W : World} {base g cap : Nat} {L : List (Nat × Bool)} (h : W.ownsRow base 51 2 (.slice (some ⟨g, 0, none⟩) L.length cap) L.length (encS L)) {i : Nat} {p : Nat × Bool} (hp : L[i]? = some p) :
    W.cell? ⟨g, i * 2, none⟩ = some (.int .i64 p.1) ∧ W.cell? ⟨g, i * 2 + 1, none⟩ = some (.bool p.2) := by
  have hi : i < L.length := (List.getElem?_eq_some_iff.1 hp).1
  have e := encS_get L i p hp
  exact ⟨(h.cellAt _ (by omega)).trans e.1, (h.cellAt _ (by omega)).trans e.2⟩

set_option maxRecDepth 100000 in
set_option maxHeartbeats 2000000 in
theorem among_any {L : List (Nat × Bool)} {base : Nat} {v : Value} (w : World) (h : w.ownsRow base 51 2 v L.length (encS L)) (hl : L.length ≤ 1000) (s : Nat) (b : Bool) (hm : (s, b) ∈ L) :
    Calls Try.prog 70 #[v, st s b] w fun e w' => e = .returned (.bool true) ∧ Below w.heap.size w w' := by
  obtain ⟨g, cap, rfl⟩ := own_slice h (List.length_pos_of_mem hm)
  obtain ⟨q, hq, hqe⟩ := List.getElem_of_mem hm
  have hx : ∀ i p, L[i]? = some p → w.cell? ⟨g, i * 2, none⟩ = some (.int .i64 p.1) ∧ w.cell? ⟨g, i * 2 + 1, none⟩ = some (.bool p.2) := fun i p hp => own_set h hp
  have HX := Lib.hid hx
  have hqe' : L[q]? = some (s, b) := List.getElem?_eq_some_iff.2 ⟨hq, hqe⟩
  clear h hx hm hqe
  have n0 := st_new w s b
  have B0 : Below w.heap.size w (w.alloc (stObj s b)) := (Below.refl _ _).alloc (Nat.le_refl _) _
  obtain ⟨n, hn⟩ : ∃ n, L.length = n := ⟨_, rfl⟩
  have HLn := Lib.hid hn
  rw [hn] at hl hq ⊢
  clear hn
  go_enter Try.func70, Try.ntmps70
  go_wp2_with fail
  go_loopw [5] (fun i wr => ∃ k : Nat, k ≤ q ∧ i = .int .i64 k ∧ Below (w.alloc (stObj s b)).heap.size (w.alloc (stObj s b)) wr) (fun i _ => n - (intOf i).toNat)
  case atStart => exact ⟨0, Nat.zero_le _, rfl, Below.refl _ _⟩
  case round =>
    obtain ⟨k, hk, rfl, hbel⟩ := hrel
    have j1 : (k : Int) < (n : Int) := by omega
    obtain ⟨⟨t, c⟩, hp⟩ : ∃ p, L[k]? = some p := ⟨_, List.getElem?_eq_getElem (by rw [HLn.out]; omega)⟩
    have a0 := keep_cell2 (keep_below B0 hbel) (HX.out k _ hp).1
    have a1 := keep_cell2 (keep_below B0 hbel) (HX.out k _ hp).2
    have s0 := keep_cell2 hbel n0.1
    have s1 := keep_cell2 hbel n0.2
    have HK : Hid (k = q → t = s ∧ c = b) := Lib.hid (fun e => by
      subst e
      rw [hp] at hqe'
      simpa using hqe')
    have bel := keep_below B0 hbel
    clear hp
    go_wp2_with fail
    have G0 := grow_cell a0
    have G1 := grow_cell a1
    have G2 := grow_cell s0
    have G3 := grow_cell s1
    have hq := run_st_eql
    refine wp_region_grow (by kernel_rfl) (by kernel_rfl) ?_
    repeat (go_big_quiet_step (fail))
    refine wpQuiet_nil ?_
    rintro w4 ⟨z, hz⟩
    have hb : Below wr.heap.size wr w4 := by rw [hz]; exact z.b
    clear hz z G0 G1 G2 G3 a0 a1 s0 s1 hq
    have bel4 := keep_below bel hb
    replace hbel := keep_below hbel hb
    clear hb
    by_cases hts : t = s ∧ c = b
    · obtain ⟨rfl, rfl⟩ := hts
      go_wp2
      all_goals first
        | (exfalso; simp_all; done)
        | (go_ret; exact ⟨rfl, bel4⟩)
    · have hkq : k ≠ q := fun e => hts (HK.out e)
      have e1 : ((t : Int) == (s : Int) && c == b) = false := by
        rw [Bool.and_eq_false_iff]
        by_cases h : t = s
        · exact .inr (by simpa using fun h2 => hts ⟨h, h2⟩)
        · exact .inl (by simpa using fun h2 => h (by omega))
      rw [e1]
      clear e1 hts HK
      go_wp2
      exact ⟨⟨k + 1, by omega, by simp, hbel⟩, by simp [intOf]; omega⟩

end Go.Proofs.Ytlocdadkhdcedaa

/- Settings and ValidOutline of any slice of points, nil too. -/
namespace Go.Proofs.Ytlocdadkhdcedaa
open Go Go.RowKit Go.Proofs

/-- The value is a slice, nil or not, that holds the points of L. -/
def SlV (w : World) (v : Value) (L : List (Int × Int)) : Prop := ∃ a cap, v = .slice a L.length cap ∧ L.length ≤ 9223372036854775807 ∧ ((∃ b off, a = some ⟨b, off, none⟩ ∧ PtsAt w b off L) ∨ (a = none ∧ cap = 0 ∧ L = []))

theorem SlV.keep {w w' : World} {v : Value} {L : List (Int × Int)} (h : SlV w v L) (hb : Below w.heap.size w w') : SlV w' v L := by
  obtain ⟨a, cap, rfl, hl, h⟩ := h
  refine ⟨a, cap, rfl, hl, h.imp ?_ id⟩
  rintro ⟨b, off, rfl, hp⟩
  exact ⟨b, off, rfl, hp.keep hb⟩

theorem vOut_sl {w : World} {v : Value} {L : List (Int × Int)} (h : SlV w v L) : Calls Try.prog 29 #[v] w fun e w' => e = .returned (.bool (vOut L)) ∧ Below w.heap.size w w' := by
  obtain ⟨a, cap, rfl, hl, ⟨b, off, rfl, hp⟩ | ⟨rfl, rfl, rfl⟩⟩ := h
  · exact validOutline_any b off cap L hl w hp
  · exact validOutline_nil w

theorem rOut_sl {w : World} {v : Value} {L : List (Int × Int)} (h : SlV w v L) : Calls Try.prog 29 #[v] w fun e w' => e = .returned (.bool (vOut L)) ∧ Below w.heap.size w w' := vOut_sl h

set_option maxHeartbeats 1000000 in
theorem settings_bad1 (v1 v2 : Value) (w : World) (h1 : Calls Try.prog 29 #[v1] w fun e w' => e = .returned (.bool false) ∧ Below w.heap.size w w') :
    Calls Try.prog 50 #[v1, v2] w fun e w' => e = .returned (.tuple #[.slice none 0 0, .int .i64 1]) ∧ Below w.heap.size w w' := by
  go_enter Try.func50, Try.ntmps50
  go_wp2_with fail
  refine h1.mono ?_
  rintro e w1 ⟨rfl, b1⟩
  go_wp2
  go_ret2
  exact ⟨rfl, b1⟩

set_option maxHeartbeats 1000000 in
theorem settings_bad2 (v1 v2 : Value) (w : World) (h1 : Calls Try.prog 29 #[v1] w fun e w' => e = .returned (.bool true) ∧ Below w.heap.size w w')
    (h2 : ∀ w', Below w.heap.size w w' → Calls Try.prog 29 #[v2] w' fun e w'' => e = .returned (.bool false) ∧ Below w'.heap.size w' w'') :
    Calls Try.prog 50 #[v1, v2] w fun e w' => e = .returned (.tuple #[.slice none 0 0, .int .i64 1]) ∧ Below w.heap.size w w' := by
  go_enter Try.func50, Try.ntmps50
  go_wp2_with fail
  refine h1.mono ?_
  rintro e w1 ⟨rfl, b1⟩
  go_wp2_with fail
  refine (h2 w1 b1).mono ?_
  rintro e w2 ⟨rfl, hb⟩
  have b2 := keep_below b1 hb
  clear hb
  go_wp2
  go_ret2
  exact ⟨rfl, b2⟩

theorem vOut_nil : vOut [] = false := rfl

theorem settings_sl {w : World} {v1 v2 : Value} {P Q : List (Int × Int)} (h1 : SlV w v1 P) (h2 : SlV w v2 Q) :
    Calls Try.prog 50 #[v1, v2] w fun e w' => ∃ v, e = .returned (.tuple #[v, .int .i64 (settE P Q)]) ∧ w'.ownsRow w.heap.size 51 2 v (settV P Q).length (encS (settV P Q)) ∧ Below w.heap.size w w' := by
  have c1 := vOut_sl h1
  have c2 := fun w' hb => vOut_sl (h2.keep (w' := w') hb)
  have bad : (vOut P = true ∧ vOut Q = true → False) → settE P Q = 1 ∧ settV P Q = [] := fun h => ⟨by unfold settE; rw [if_neg h], by unfold settV; rw [if_neg (fun hh => h ⟨hh.1, hh.2.1⟩)]⟩
  obtain ⟨a1, cap1, rfl, hl1, ⟨b1, o1, rfl, hp1⟩ | ⟨rfl, rfl, rfl⟩⟩ := h1
  · obtain ⟨a2, cap2, rfl, hl2, ⟨b2, o2, rfl, hp2⟩ | ⟨rfl, rfl, rfl⟩⟩ := h2
    · exact settings_any b1 o1 cap1 b2 o2 cap2 P Q hl1 hl2 w hp1 hp2
    · obtain ⟨e1, e2⟩ := bad (fun h => by simp [vOut_nil] at h)
      rw [e1, e2]
      cases hv : vOut P
      · rw [hv] at c1
        exact (settings_bad1 _ _ w c1).mono (fun e w' ⟨he, hb⟩ => ⟨_, he, World.ownsRow_nil _ _ _ _, hb⟩)
      · rw [hv] at c1
        exact (settings_bad2 _ _ w c1 (fun w' hb => c2 w' hb)).mono (fun e w' ⟨he, hb⟩ => ⟨_, he, World.ownsRow_nil _ _ _ _, hb⟩)
  · obtain ⟨e1, e2⟩ := bad (fun h => by simp [vOut_nil] at h)
    rw [e1, e2]
    exact (settings_bad1 _ _ w c1).mono (fun e w' ⟨he, hb⟩ => ⟨_, he, World.ownsRow_nil _ _ _ _, hb⟩)

theorem own_shape {W : World} {base : Nat} {e : TypeId} {size : Nat} {v : Value} {n : Nat} {xs : List Value} (h : W.ownsRow base e size v n xs) : ∃ a cap, v = .slice a n cap := by
  rcases h.2 with ⟨rfl, rfl⟩ | ⟨g, cap, cur, rfl, _⟩
  · exact ⟨_, _, rfl⟩
  · exact ⟨_, _, rfl⟩

theorem own_pos {W : World} {base : Nat} {a : Option Addr} {cap : Nat} {L : List (Nat × Bool)} (h : W.ownsRow base 51 2 (.slice a L.length cap) L.length (encS L)) {i : Nat} {p : Nat × Bool} (hp : L[i]? = some p) :
    ∃ g, a = some ⟨g, 0, none⟩ ∧ W.cell? ⟨g, i * 2, none⟩ = some (.int .i64 p.1) ∧ W.cell? ⟨g, i * 2 + 1, none⟩ = some (.bool p.2) := by
  have hi : i < L.length := (List.getElem?_eq_some_iff.1 hp).1
  obtain ⟨g, cap', e⟩ := own_slice h (by omega)
  simp only [Value.slice.injEq] at e
  obtain ⟨rfl, _, rfl⟩ := e
  exact ⟨g, rfl, own_set h hp⟩

end Go.Proofs.Ytlocdadkhdcedaa
