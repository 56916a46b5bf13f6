/- The abstract machine, part SB. -/
import Derived.Test.YtlocdadkhdcedaaSA
/- Walks: the reference's All. -/
namespace Go.Proofs.Ytlocdadkhdcedaa
open Go Go.RowKit Go.Proofs

set_option maxRecDepth 100000 in
set_option maxHeartbeats 4000000 in
theorem refAll_any (n : Nat) (hn : n ≤ 24) (w : World) :
    Calls Try.prog 111 #[.int .i64 n] w fun e w' => ∃ v, e = .returned v ∧ w'.ownsRow w.heap.size 51 2 v (allS n).length (encS (allS n)) ∧ Below w.heap.size w w' := by
  obtain ⟨i0, hi, hz0, hz1, hz2⟩ := info_parts info51
  go_enter Try.func111, Try.ntmps111
  go_wp2_with fail
  go_loopw [3, 4] (fun v i wr => ∃ k : Nat, k ≤ n ∧ i = .int .i64 k ∧ wr.ownsRow w.heap.size 51 2 v (allS k).length (encS (allS k)) ∧ Below w.heap.size w wr) (fun _ i _ => n - (intOf i).toNat)
  case atStart => exact ⟨0, Nat.zero_le _, rfl, World.ownsRow_nil _ _ _ _, Below.refl _ _⟩
  case round =>
    obtain ⟨k, hk, rfl, hown, hbel⟩ := hrel
    by_cases hlt : k < n
    · have j1 : (k : Int) < (n : Int) := by omega
      have hl := allS_len k
      have hs := allS_succ k
      generalize allS k = L at hown hl hs
      have HS := Lib.hid hs
      clear hs
      go_wp2_with (first
        | (at_builtin; refine wpList_append_own _ rfl _ _ 59 rfl w.heap.size 51 i0 (.agg #[.int .i64 0, .bool false]) 2 16 Try.underlying59 hi hz0 hz1 hz2 rfl (by decide) _ _ _ rfl (hown6.alloc _) _ 1 1 [.int .i64 k, .bool true] rfl rfl (st_two_new _ _ _) (st_two_cells _ _) (by unfold maxLen; omega) (by first | omega | (simp; done) | (simp; omega)) (by have := bel6.size; simp; omega) ?_; intro v1 w7 hown7 hgrow7 hnil7)
        | (at_builtin; refine wpList_append_own _ rfl _ _ 59 rfl w.heap.size 51 i0 (.agg #[.int .i64 0, .bool false]) 2 16 Try.underlying59 hi hz0 hz1 hz2 rfl (by decide) _ _ _ rfl (hown.alloc _) _ 1 1 [.int .i64 k, .bool false] rfl rfl (st_two_new _ _ _) (st_two_cells _ _) (by unfold maxLen; omega) (by first | omega | (simp; done) | (simp; omega)) (by have := hbel.size; simp; omega) ?_; intro v1 w6 hown6 hgrow6 hnil6; have bel6 := (hbel.alloc hbel.size (stObj k false)).grown hgrow6 (by have := hbel.size; simp; omega) (fun j hj => (hown.lt j hj).1)))
      have bel7 := (bel6.alloc bel6.size (stObj k true)).grown hgrow7 (by have := bel6.size; simp; omega) (fun j hj => (hown6.lt j hj).1)
      refine ⟨⟨k + 1, by omega, by simp, ?_, bel7⟩, by simp [intOf]; omega⟩
      rw [HS.out]
      have e : encS (L ++ [(k, false), (k, true)]) = encS L ++ [.int .i64 k, .bool false] ++ [.int .i64 k, .bool true] := by simp [encS]
      rw [e]
      simpa using hown7
    · obtain rfl : k = n := by omega
      go_wp2
      go_ret
      exact ⟨_, rfl, hown, hbel⟩

end Go.Proofs.Ytlocdadkhdcedaa

/- Walks: the reference's Settings. -/
namespace Go.Proofs.Ytlocdadkhdcedaa
open Go Go.RowKit Go.Proofs

theorem own_base {w : World} {base base' : Nat} {e : TypeId} {size : Nat} {v : Value} {n : Nat} {xs : List Value} (h : w.ownsRow base e size v n xs) (hb : base' ≤ base) : w.ownsRow base' e size v n xs := by
  refine ⟨h.1, ?_⟩
  rcases h.2 with h | ⟨g, cap, cur, h1, h2, h3⟩
  · exact .inl h
  · exact .inr ⟨g, cap, cur, h1, Nat.le_trans hb h2, h3⟩

theorem rOut_any {b off cap : Nat} {L : List (Int × Int)} (hn : L.length ≤ 9223372036854775807) (w : World) (hp : PtsAt w b off L) :
    Calls Try.prog 30 #[.slice (some ⟨b, off, none⟩) L.length cap] w fun e w' => e = .returned (.bool (vOut L)) ∧ Below w.heap.size w w' := by
  rw [vOut_rOut]
  exact refOut_any b off cap L hn w hp

set_option maxRecDepth 100000 in
set_option maxHeartbeats 8000000 in
theorem refSettings_any (bp op cp bq oq cq : Nat) (P Q : List (Int × Int)) (lP : P.length ≤ 9223372036854775807) (lQ : Q.length ≤ 9223372036854775807) (w : World) (hP : PtsAt w bp op P) (hQ : PtsAt w bq oq Q) :
    Calls Try.prog 51 #[.slice (some ⟨bp, op, none⟩) P.length cp, .slice (some ⟨bq, oq, none⟩) Q.length cq] w fun e w' => ∃ v, e = .returned (.tuple #[v, .int .i64 (settE P Q)]) ∧ w'.ownsRow w.heap.size 51 2 v (settV P Q).length (encS (settV P Q)) ∧ Below w.heap.size w w' := by
  obtain ⟨i0, hi, hz0, hz1, hz2⟩ := info_parts info51
  obtain ⟨S, hS⟩ : ∃ S, settV P Q = S := ⟨_, rfl⟩
  obtain ⟨E, hE⟩ : ∃ E, settE P Q = E := ⟨_, rfl⟩
  rw [hS, hE]
  have VP := rOut_any (cap := cp) lP w hP
  have VQ := fun w' (hb : Below w.heap.size w w') => rOut_any (cap := cq) lQ w' (hQ.keep hb)
  have HP := Lib.hid hP
  have HQ := Lib.hid hQ
  clear hP hQ
  by_cases hvp : vOut P = true
  · rw [hvp] at VP
    have HVP := Lib.hid hvp
    go_enter Try.func51, Try.ntmps51
    go_wp2_with fail
    refine VP.mono ?_
    rintro e w1 ⟨rfl, b1⟩
    clear VP
    by_cases hvq : vOut Q = true
    · have VQ1 := VQ w1 b1
      rw [hvq] at VQ1
      have HVQ := Lib.hid hvq
      clear hvp hvq VQ
      go_wp2_with fail
      refine VQ1.mono ?_
      rintro e w2 ⟨rfl, hb⟩
      have b2 := keep_below b1 hb
      clear hb b1 VQ1
      obtain rfl : E = 0 := by rw [← hE]; unfold settE; rw [if_pos ⟨HVP.out, HVQ.out⟩]
      clear hE
      obtain ⟨h3, h24, hvp⟩ := vOut_len HVP.out
      obtain ⟨h3q, h24q, hvq⟩ := vOut_len HVQ.out
      have smp := Lib.hid (vPts_small hvp)
      have smq := Lib.hid (vPts_small hvq)
      clear hvp hvq
      by_cases hpq : P.length = Q.length
      · have HV : S = (allS P.length).filter fun p => congR (px P) (py P) (px Q) (py Q) P.length p.1 p.2 := by
          rw [← hS]
          unfold settV settL
          rw [if_pos ⟨HVP.out, HVQ.out, hpq⟩]
          refine List.filter_congr fun p hp => ?_
          obtain ⟨s, b⟩ := p
          exact (cong_one (mem_allS.1 hp) (vOut_str HVP.out) (by have := vOut_str HVQ.out; rwa [← hpq] at this)).symm
        clear hS
        have hQ' : ∀ k, k < P.length → w.cell? ⟨bq, oq + k * 2, none⟩ = some (.int .i64 (px Q k)) ∧ w.cell? ⟨bq, oq + k * 2 + 1, none⟩ = some (.int .i64 (py Q k)) := fun k hk => HQ.out k (hpq ▸ hk)
        have hP' : ∀ k, k < P.length → w.cell? ⟨bp, op + k * 2, none⟩ = some (.int .i64 (px P k)) ∧ w.cell? ⟨bp, op + k * 2 + 1, none⟩ = some (.int .i64 (py P k)) := HP.out
        rw [← hpq]
        have smp' := smp.out
        have smq' := smq.out
        clear HP HQ HVP HVQ lQ h3q h24q hpq smp smq
        generalize px P = xp, py P = yp at hP' HV smp'
        generalize px Q = xq, py Q = yq at hQ' HV smq'
        generalize P.length = n at lP h3 h24 HV hP' hQ' ⊢
        have HVx := Lib.hid HV
        have HPx := Lib.hid hP'
        have HQx := Lib.hid hQ'
        have smp := Lib.hid smp'
        have smq := Lib.hid smq'
        clear HV hP' hQ' smp' smq' lP
        go_wp2_with fail
        refine (refAll_any n h24 w2).mono ?_
        rintro e w3 ⟨vl, rfl, ol, hb⟩
        have b3 := keep_below b2 hb
        have hw23 := hb.size
        have hw2 := b2.size
        clear hb b2
        have hAl := allS_len n
        have hAm : ∀ k s b, (allS n)[k]? = some (s, b) → s < n := fun k s b h => mem_allS.1 (List.mem_of_getElem? h)
        generalize allS n = LA at ol HVx hAl hAm
        obtain ⟨al, cl, rfl⟩ := own_shape ol
        have HAm := Lib.hid hAm
        have OL := Lib.hid ol
        clear hAm ol
        obtain ⟨F, hF⟩ : ∃ F : Nat → List (Nat × Bool), F = fun k => (LA.take k).filter fun p => congR xp yp xq yq n p.1 p.2 := ⟨_, rfl⟩
        have F0 : F 0 = [] := by rw [hF]; simp
        have FN : Hid (F LA.length = S) := Lib.hid (by rw [hF, HVx.out]; simp)
        have FS : Hid (∀ k s b, LA[k]? = some (s, b) → F (k + 1) = if congR xp yp xq yq n s b = true then F k ++ [(s, b)] else F k) := Lib.hid (by
          intro k s b h
          rw [hF]
          simp only [List.take_add_one, h, Option.toList_some, List.filter_append]
          split <;> simp_all)
        have FL : Hid (∀ k, (F k).length ≤ 48) := Lib.hid (by
          intro k
          rw [hF]
          show (List.filter _ (LA.take k)).length ≤ 48
          have h1 := List.length_filter_le (fun p : Nat × Bool => congR xp yp xq yq n p.1 p.2) (LA.take k)
          have h2 := List.length_take_le k LA
          have h3 : (LA.take k).length ≤ LA.length := by simp; omega
          omega)
        clear hF HVx
        go_wp2_with fail
        go_loopw [6, 8] (fun v i wr => ∃ k : Nat, k ≤ LA.length ∧ i = .int .i64 k ∧ wr.ownsRow w3.heap.size 51 2 v (F k).length (encS (F k)) ∧ Below w3.heap.size w3 wr) (fun _ i _ => LA.length - (intOf i).toNat)
        case atStart => exact ⟨0, Nat.zero_le _, rfl, by rw [F0]; exact World.ownsRow_nil _ _ _ _, Below.refl _ _⟩
        case round =>
          obtain ⟨k, hk, rfl, hown, hbel⟩ := hrel
          clear F0
          by_cases hlt : k < LA.length
          · have j1 : (k : Int) < (LA.length : Int) := by omega
            obtain ⟨⟨s, b⟩, hp⟩ : ∃ p, LA[k]? = some p := ⟨_, List.getElem?_eq_getElem hlt⟩
            have hs := HAm.out k s b hp
            have hstep := FS.out k s b hp
            have hlen := FL.out k
            obtain ⟨gA, rfl, c0, c1⟩ := own_pos (own_keep OL.out hbel) hp
            have CO := fun w' (hb : Below wr.heap.size wr w') => refCong_any bp op cp bq oq cq n xp yp xq yq h3 h24 smp.out smq.out s hs b w' (fun i hi => ⟨keep_cell2 (keep_below (keep_below b3 hbel) hb) (HPx.out i hi).1, keep_cell2 (keep_below (keep_below b3 hbel) hb) (HPx.out i hi).2⟩) (fun i hi => ⟨keep_cell2 (keep_below (keep_below b3 hbel) hb) (HQx.out i hi).1, keep_cell2 (keep_below (keep_below b3 hbel) hb) (HQx.out i hi).2⟩)
            obtain ⟨LN, hLN⟩ : ∃ LN, F (k + 1) = LN := ⟨_, rfl⟩
            obtain ⟨LL, hLL⟩ : ∃ LL, F k = LL := ⟨_, rfl⟩
            rw [hLN, hLL] at hstep
            rw [hLL] at hown hlen
            obtain ⟨c, hc⟩ : ∃ c, congR xp yp xq yq n s b = c := ⟨_, rfl⟩
            rw [hc] at hstep CO
            have HLN := Lib.hid hLN
            have HST := Lib.hid hstep
            clear hLN hLL hstep hp hc
            go_wp2_with fail
            refine (CO _ (Below.refl _ _)).mono ?_
            rintro e w5 ⟨rfl, hb⟩
            have b5 := keep_below hbel hb
            have o5 := own_keep hown hb
            replace c0 := keep_cell hb c0
            replace c1 := keep_cell hb c1
            clear hb hown CO hbel
            cases c
            · go_wp2
              refine ⟨⟨k + 1, by omega, by simp, ?_, b5⟩, by simp [intOf]; omega⟩
              rw [HLN.out, HST.out]
              exact o5
            · go_wp2_with (at_builtin; refine wpList_append_own _ rfl _ _ 59 rfl w3.heap.size 51 i0 (.agg #[.int .i64 0, .bool false]) 2 16 Try.underlying59 hi hz0 hz1 hz2 rfl (by decide) _ _ _ rfl (o5.alloc _) _ 1 1 [.int .i64 s, .bool b] rfl rfl (st_two_new _ _ _) (st_two_cells _ _) (by unfold maxLen; omega) (by first | omega | (simp; done) | (simp; omega)) (by have := b5.size; simp; omega) ?_; intro v1 w6 hown6 hgrow6 hnil6)
              have b6 := (b5.alloc b5.size (stObj s b)).grown hgrow6 (by have := b5.size; simp; omega) (fun j hj => (o5.lt j hj).1)
              refine ⟨⟨k + 1, by omega, by simp, ?_, b6⟩, by simp [intOf]; omega⟩
              have hLNv : LN = LL ++ [(s, b)] := by rw [HST.out]; simp
              rw [HLN.out, hLNv, encS_snoc]
              simpa using hown6
          · obtain rfl : k = LA.length := by omega
            go_wp2
            go_ret2
            rw [FN.out] at hown
            exact ⟨_, rfl, own_base hown (by omega), keep_below b3 hbel⟩
      · have hpq' : ¬ (P.length : Int) = (Q.length : Int) := by omega
        obtain rfl : S = [] := by rw [← hS]; unfold settV; rw [if_neg (fun h => hpq h.2.2)]
        go_wp2
        go_ret2
        exact ⟨_, rfl, World.ownsRow_nil _ _ _ _, b2⟩
    · have VQ1 := VQ w1 b1
      have hvq' : vOut Q = false := by simpa using hvq
      rw [hvq'] at VQ1
      obtain rfl : S = [] := by rw [← hS]; unfold settV; rw [if_neg (fun h => hvq h.2.1)]
      obtain rfl : E = 1 := by rw [← hE]; unfold settE; rw [if_neg (fun h => hvq h.2)]
      clear hS hE
      clear hvp hvq hvq' VQ
      go_wp2_with fail
      refine VQ1.mono ?_
      rintro e w2 ⟨rfl, hb⟩
      have b2 := keep_below b1 hb
      clear hb b1 VQ1
      go_wp2
      go_ret2
      exact ⟨_, rfl, World.ownsRow_nil _ _ _ _, b2⟩
  · have hvp' : vOut P = false := by simpa using hvp
    rw [hvp'] at VP
    obtain rfl : S = [] := by rw [← hS]; unfold settV; rw [if_neg (fun h => hvp h.1)]
    obtain rfl : E = 1 := by rw [← hE]; unfold settE; rw [if_neg (fun h => hvp h.1)]
    clear hS hE hvp hvp' VQ
    go_enter Try.func51, Try.ntmps51
    go_wp2_with fail
    refine VP.mono ?_
    rintro e w1 ⟨rfl, b1⟩
    clear VP
    go_wp2
    go_ret2
    exact ⟨_, rfl, World.ownsRow_nil _ _ _ _, b1⟩

end Go.Proofs.Ytlocdadkhdcedaa

/- Walks: SameSettings of equal lists. -/
namespace Go.Proofs.Ytlocdadkhdcedaa
open Go Go.RowKit Go.Proofs

theorem run_st_neq (a : Int) (b : Bool) (w : World) : (binOp .neq 51 (st a b) (st a b)).run Try.prog w = .ok (.bool false) w := by
  go_simp

set_option maxRecDepth 100000 in
set_option maxHeartbeats 2000000 in
theorem sameSet_any {L : List (Nat × Bool)} {b1 b2 : Nat} {v1 v2 : Value} (w : World) (h1 : w.ownsRow b1 51 2 v1 L.length (encS L)) (h2 : w.ownsRow b2 51 2 v2 L.length (encS L)) (hl : L.length ≤ 1000) :
    Calls Try.prog 52 #[v1, v2] w fun e w' => e = .returned (.bool true) ∧ Below w.heap.size w w' := by
  obtain ⟨a1, c1, rfl⟩ := own_shape h1
  obtain ⟨a2, c2, rfl⟩ := own_shape h2
  have H1 := Lib.hid h1
  have H2 := Lib.hid h2
  clear h1 h2
  go_enter Try.func52, Try.ntmps52
  go_wp2_with fail
  go_loopw [5] (fun i wr => ∃ k : Nat, k ≤ L.length ∧ i = .int .i64 k ∧ Below w.heap.size w wr) (fun i _ => L.length - (intOf i).toNat)
  case atStart => exact ⟨0, Nat.zero_le _, rfl, Below.refl _ _⟩
  case round =>
    obtain ⟨k, hk, rfl, hbel⟩ := hrel
    by_cases hlt : k < L.length
    · have j1 : (k : Int) < (L.length : Int) := by omega
      obtain ⟨⟨s, b⟩, hp⟩ : ∃ p, L[k]? = some p := ⟨_, List.getElem?_eq_getElem hlt⟩
      obtain ⟨g1, rfl, x0, x1⟩ := own_pos (own_keep H1.out hbel) hp
      obtain ⟨g2, rfl, y0, y1⟩ := own_pos (own_keep H2.out hbel) hp
      clear hp
      go_wp2_with fail
      have G0 := grow_cell x0
      have G1 := grow_cell x1
      have G2 := grow_cell y0
      have G3 := grow_cell y1
      have hq := run_st_neq
      refine wp_region_grow (by kernel_rfl) (by kernel_rfl) ?_
      repeat (go_big_quiet_step (fail))
      refine wpQuiet_nil ?_
      rintro w4 ⟨z, hz⟩
      have hb : Below wr.heap.size wr w4 := by rw [hz]; exact z.b
      clear hz z G0 G1 G2 G3 x0 x1 y0 y1 hq
      have bel4 := keep_below hbel hb
      clear hb
      go_wp2
      exact ⟨⟨k + 1, by omega, by simp, bel4⟩, by simp [intOf]; omega⟩
    · obtain rfl : k = L.length := by omega
      go_wp2
      go_ret
      exact ⟨rfl, hbel⟩

end Go.Proofs.Ytlocdadkhdcedaa
