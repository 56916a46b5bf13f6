/- The abstract machine, part ND. -/
import Derived.Test.YtlocdadkhdcedaaNC
import Derived.Test.YtlocdadkhdcedaaNB
import Derived.Test.YtlocdadkhdcedaaMC
import Derived.Test.YtlocdadkhdcedaaME
import Derived.Test.YtlocdadkhdcedaaWB
import Derived.Test.YtlocdadkhdcedaaRB
/- Walks: Outline. -/
namespace Go.Proofs.Ytlocdadkhdcedaa
open Go Go.RowKit Go.Proofs Go.Abs Go.Plain

theorem Two.eraseN : ∀ (f : Nat) {L : Pl}, Two L → Two (eraseN repK f L)
  | 0, _, h => h
  | f + 1, L, h => by
    show Two (match (List.range L.length).find? (repK L) with | none => L | some k => Go.Proofs.Ytlocdadkhdcedaa.eraseN repK f (L.eraseIdx k))
    cases hf : (List.range L.length).find? (repK L) with
    | none => exact h
    | some k =>
      have h1 := List.find?_some hf
      have h2 := List.mem_range.1 (List.mem_of_find?_eq_some hf)
      exact Two.eraseN f (h.erase h2 h1)

theorem Two.leave {L : Pl} (h : Two L) : Two (leaveL repK L) := Two.eraseN _ h

/-- What is left of a list. -/
def leftL (L : Pl) : Pl := leaveL strL (leaveL repK L)

/-- Is the list one that Outline takes? -/
def okO (L : Pl) : Bool := decide (3 ≤ L.length) && (decide (L.length ≤ 400) && vPts L)

/-- What Outline answers. -/
def OutS (L : Pl) (base : Nat) (W : World) (v : Value) (E : Int) : Prop :=
  (okO L = false ∧ v = .slice none 0 0 ∧ E = 1) ∨
  (okO L = true ∧ flatS L = true ∧ v = .slice none 0 0 ∧ E = 11) ∨
  (okO L = true ∧ flatS L = false ∧ (decide (3 ≤ (leftL L).length) && simpleS (px (leftL L)) (py (leftL L)) (leftL L).length) = false ∧ v = .slice none 0 0 ∧ E = 10) ∨
  (okO L = true ∧ flatS L = false ∧ (decide (3 ≤ (leftL L).length) && simpleS (px (leftL L)) (py (leftL L)) (leftL L).length) = true ∧ 24 < (leftL L).length ∧ v = .slice none 0 0 ∧ E = 2) ∨
  (okO L = true ∧ flatS L = false ∧ (decide (3 ≤ (leftL L).length) && simpleS (px (leftL L)) (py (leftL L)) (leftL L).length) = true ∧ (leftL L).length ≤ 24 ∧ W.ownsRow base 23 2 v (leftL L).length (ptCells (normL (leftL L))) ∧ E = 0)

set_option maxRecDepth 100000 in
set_option maxHeartbeats 8000000 in
theorem outline_any (b off cap : Nat) (L : Pl) (hbig : L.length ≤ 9223372036854775807) (w : World) (hp : PtsAt w b off L) :
    Calls Try.prog 26 #[.slice (some ⟨b, off, none⟩) L.length cap] w fun e w' => ∃ v E, e = .returned (.tuple #[v, .int .i64 E]) ∧ OutS L w.heap.size w' v E ∧ Below w.heap.size w w' := by
  by_cases h3 : 3 ≤ L.length
  · by_cases h4 : L.length ≤ 400
    · have i3 : ¬ (L.length : Int) < 3 := by omega
      have i4 : ¬ (L.length : Int) > 400 := by omega
      have CV := validPoints_any (px L) (py L) b off L.length cap w (by omega) hp
      rw [show allValid (px L) (py L) L.length = vPts L from rfl] at CV
      have hok : okO L = vPts L := by unfold okO; rw [decide_eq_true h3, decide_eq_true h4]; rfl
      obtain ⟨vp, hvp⟩ : ∃ c, vPts L = c := ⟨_, rfl⟩
      rw [hvp] at CV hok
      cases vp
      · have HR : Hid (∀ W, OutS L w.heap.size W (.slice none 0 0) 1) := Lib.hid (fun W => .inl ⟨hok, rfl, rfl⟩)
        go_enter Try.func26, Try.ntmps26
        go_wp2_with fail
        refine CV.mono ?_
        rintro e w1 ⟨rfl, hb⟩
        go_wp2
        go_ret2
        exact ⟨_, _, rfl, HR.out _, hb⟩
      · have hsm : AllSm L := vPts_small hvp
        have CF := fun w' (hb : Below w.heap.size w w') => flat_any b off cap L (by omega) (by omega) hsm w' (hp.keep hb)
        obtain ⟨fl, hfl⟩ : ∃ c, flatS L = c := ⟨_, rfl⟩
        rw [hfl] at CF
        cases fl
        · have CR := fun w' (hb : Below w.heap.size w w') => leaveRep_any b off cap L (by omega) (by omega) hsm w' (hp.keep hb)
          have h2 := (two_flat hfl).leave.len
          obtain ⟨L1, hL1⟩ : ∃ M, leaveL repK L = M := ⟨_, rfl⟩
          rw [hL1] at CR h2
          have hleft : leftL L = leaveL strL L1 := by unfold leftL; rw [hL1]
          have HR : Hid (∀ W v E, ((decide (3 ≤ (leaveL strL L1).length) && simpleS (px (leaveL strL L1)) (py (leaveL strL L1)) (leaveL strL L1).length) = false ∧ v = .slice none 0 0 ∧ E = 10) ∨
              ((decide (3 ≤ (leaveL strL L1).length) && simpleS (px (leaveL strL L1)) (py (leaveL strL L1)) (leaveL strL L1).length) = true ∧ 24 < (leaveL strL L1).length ∧ v = .slice none 0 0 ∧ E = 2) ∨
              ((decide (3 ≤ (leaveL strL L1).length) && simpleS (px (leaveL strL L1)) (py (leaveL strL L1)) (leaveL strL L1).length) = true ∧ (leaveL strL L1).length ≤ 24 ∧ W.ownsRow w.heap.size 23 2 v (leaveL strL L1).length (ptCells (normL (leaveL strL L1))) ∧ E = 0) → OutS L w.heap.size W v E) := Lib.hid (by
            intro W v E h
            unfold OutS
            rw [hok, hfl, hleft]
            rcases h with h | h | h
            · exact .inr (.inr (.inl ⟨rfl, rfl, h⟩))
            · exact .inr (.inr (.inr (.inl ⟨rfl, rfl, h⟩)))
            · exact .inr (.inr (.inr (.inr ⟨rfl, rfl, h⟩))))
          obtain ⟨n, hn⟩ : ∃ n, L.length = n := ⟨_, rfl⟩
          rw [hn] at CV CF CR i3 i4 h3 h4 ⊢
          clear hL1 hleft hok hfl hp hsm hvp hn hbig
          go_enter Try.func26, Try.ntmps26
          go_wp2_with fail
          refine CV.mono ?_
          rintro e w1 ⟨rfl, b1⟩
          go_wp2_with fail
          refine (CF w1 b1).mono ?_
          rintro e w2 ⟨rfl, hb⟩
          have b2 := keep_below b1 hb
          clear hb b1 CV CF
          go_wp2_with fail
          refine (CR w2 b2).mono ?_
          rintro e w3 ⟨g, c, rfl, o3, sm3, hl3, hb⟩
          have b3 := keep_below b2 hb
          have P3 := own_at rfl o3
          have CS := leaveStr_any g 0 c L1 (by omega) (by omega) sm3 w3 P3
          clear hb CR o3 P3 b2
          obtain ⟨M, hM⟩ : ∃ M, leaveL strL L1 = M := ⟨_, rfl⟩
          rw [hM] at CS HR
          clear hM
          go_wp2_with fail
          refine CS.mono ?_
          rintro e w4 ⟨g4, c4, rfl, o4, sm4, hl4, hb⟩
          have b4 := keep_below b3 hb
          have P4 := own_at rfl o4
          clear hb CS b3 o4
          obtain ⟨m, hm⟩ : ∃ m, M.length = m := ⟨_, rfl⟩
          by_cases m3 : 3 ≤ m
          · have i5 : ¬ (m : Int) < 3 := by omega
            have CSi := simple_any g4 0 m c4 (px M) (py M) (by omega) sm4 w4 (fun k hk => P4 k (by omega))
            have CN := fun (h : m ≤ 24) w' (hb : Below w4.heap.size w4 w') => normal_any g4 0 c4 M (by omega) (by omega) sm4 w' (P4.keep hb)
            rw [hm] at CN
            simp only [hm] at HR
            rw [hm]
            obtain ⟨si, hsi⟩ : ∃ c, simpleS (px M) (py M) m = c := ⟨_, rfl⟩
            rw [hsi] at CSi HR
            have HD := Lib.hid (decide_eq_true m3)
            clear hsi sm4 P4 sm3
            cases si
            · have HR2 : Hid (∀ W, OutS L w.heap.size W (.slice none 0 0) 10) := Lib.hid (fun W => HR.out W _ _ (.inl ⟨by rw [HD.out]; rfl, rfl, rfl⟩))
              go_wp2_with fail
              refine CSi.mono ?_
              rintro e w5 ⟨rfl, hb⟩
              have b5 := keep_below b4 hb
              go_wp2
              go_ret2
              exact ⟨_, _, rfl, HR2.out _, b5⟩
            · by_cases m24 : m ≤ 24
              · have i6 : ¬ (m : Int) > 24 := by omega
                have HR2 : Hid (∀ W v, W.ownsRow w.heap.size 23 2 v m (ptCells (normL M)) → OutS L w.heap.size W v 0) := Lib.hid (fun W v ho => HR.out W _ _ (.inr (.inr ⟨by rw [HD.out]; rfl, m24, ho, rfl⟩)))
                go_wp2_with fail
                refine CSi.mono ?_
                rintro e w5 ⟨rfl, hb⟩
                have b5 := keep_below b4 hb
                go_wp2_with fail
                refine (CN m24 w5 hb).mono ?_
                rintro e w6 ⟨v6, rfl, o6, hb6⟩
                have b6 := keep_below b5 hb6
                have HO := Lib.hid (HR2.out w6 v6 (own_low o6 b5.size))
                clear o6 CN CSi
                go_wp2
                go_ret2
                exact ⟨_, _, rfl, HO.out, b6⟩
              · have i6 : (m : Int) > 24 := by omega
                have HR2 : Hid (∀ W, OutS L w.heap.size W (.slice none 0 0) 2) := Lib.hid (fun W => HR.out W _ _ (.inr (.inl ⟨by rw [HD.out]; rfl, by omega, rfl, rfl⟩)))
                go_wp2_with fail
                refine CSi.mono ?_
                rintro e w5 ⟨rfl, hb⟩
                have b5 := keep_below b4 hb
                go_wp2
                go_ret2
                exact ⟨_, _, rfl, HR2.out _, b5⟩
          · have HR2 : Hid (∀ W, OutS L w.heap.size W (.slice none 0 0) 10) := Lib.hid (fun W => HR.out W _ _ (.inl ⟨by rw [hm, decide_eq_false m3]; rfl, rfl, rfl⟩))
            rw [hm]
            have i5 : (m : Int) < 3 := by omega
            go_wp2
            go_ret2
            exact ⟨_, _, rfl, HR2.out _, b4⟩
        · have HR : Hid (∀ W, OutS L w.heap.size W (.slice none 0 0) 11) := Lib.hid (fun W => .inr (.inl ⟨hok, hfl, rfl, rfl⟩))
          go_enter Try.func26, Try.ntmps26
          go_wp2_with fail
          refine CV.mono ?_
          rintro e w1 ⟨rfl, b1⟩
          go_wp2_with fail
          refine (CF w1 b1).mono ?_
          rintro e w2 ⟨rfl, hb⟩
          have b2 := keep_below b1 hb
          go_wp2
          go_ret2
          exact ⟨_, _, rfl, HR.out _, b2⟩
    · have i3 : ¬ (L.length : Int) < 3 := by omega
      have i4 : (L.length : Int) > 400 := by omega
      have HR : Hid (∀ W, OutS L w.heap.size W (.slice none 0 0) 1) := Lib.hid (fun W => .inl ⟨by unfold okO; rw [decide_eq_false h4]; simp, rfl, rfl⟩)
      go_enter Try.func26, Try.ntmps26
      go_wp2
      go_ret2
      exact ⟨_, _, rfl, HR.out _, Below.refl _ _⟩
  · have i3 : (L.length : Int) < 3 := by omega
    have HR : Hid (∀ W, OutS L w.heap.size W (.slice none 0 0) 1) := Lib.hid (fun W => .inl ⟨by unfold okO; rw [decide_eq_false h3]; rfl, rfl, rfl⟩)
    go_enter Try.func26, Try.ntmps26
    go_wp2
    go_ret2
    exact ⟨_, _, rfl, HR.out _, Below.refl _ _⟩

end Go.Proofs.Ytlocdadkhdcedaa

/- Walks: the reference's without, straight. -/
namespace Go.Proofs.Ytlocdadkhdcedaa
open Go Go.RowKit Go.Proofs Go.Abs Go.Plain

set_option maxRecDepth 100000 in
set_option maxHeartbeats 4000000 in
theorem without_any (b off cap k : Nat) (L : Pl) (hk : k < L.length) (hs2 : L.length ≤ 1000) (hcap : L.length ≤ cap) (w : World) (hp : PtsAt w b off L) :
    Calls Try.prog 138 #[.slice (some ⟨b, off, none⟩) L.length cap, .int .i64 k] w fun e w' => ∃ v, e = .returned v ∧ w'.ownsRow w.heap.size 23 2 v (L.length - 1) (ptCells (L.eraseIdx k)) ∧ Below w.heap.size w w' := by
  obtain ⟨i0, hi, hz0, hz1, hz2⟩ := info_parts info23
  have lA : (L.take k).length = k := by rw [List.length_take]; omega
  have lB : (L.drop (k + 1)).length = L.length - (k + 1) := List.length_drop
  have LA := ptCells_len (L.take k)
  have LB := ptCells_len (L.drop (k + 1))
  rw [lA] at LA
  rw [lB] at LB
  have HPL : Hid (ptCells (L.eraseIdx k) = ptCells (L.take k) ++ ptCells (L.drop (k + 1))) := Lib.hid (by rw [← cut_one, ptCells_append])
  have HDa := Lib.hid (pts_cells (pts_take hp k))
  have HA : ∃ A : Addr, (if k + 1 = cap then some (⟨b, off, none⟩ : Addr) else some ⟨b, off + (k + 1) * 2, none⟩) = some A ∧ Hid (∀ x : Grow w, ∀ t u, (ptCells (L.drop (k + 1)))[t]? = some u → x.w.cell? (A.add t) = some u) := by
    by_cases h : k + 1 = cap
    · refine ⟨⟨b, off, none⟩, by simp [h], Lib.hid (fun x t u hu => ?_)⟩
      have h0 : L.drop (k + 1) = [] := List.drop_eq_nil_of_le (by omega)
      rw [h0] at hu
      cases hu
    · exact ⟨⟨b, off + (k + 1) * 2, none⟩, by simp [h], Lib.hid (fun x => pts_cells (pts_drop (hp.keep x.b) (k + 1)))⟩
  obtain ⟨A, hA1, hA2⟩ := HA
  have hA1' : (if cap = k + 1 then some (⟨b, off, none⟩ : Addr) else some ⟨b, off + (k + 1) * 2, none⟩) = some A := by
    rw [← hA1]
    by_cases h : k + 1 = cap
    · rw [if_pos h, if_pos h.symm]
    · rw [if_neg h, if_neg (fun e => h e.symm)]
  have HO := Lib.hid (And.intro (ptCells_one (L.take k)) (ptCells_one (L.drop (k + 1))))
  obtain ⟨xa, hxa⟩ : ∃ xs, ptCells (L.take k) = xs := ⟨_, rfl⟩
  obtain ⟨xb, hxb⟩ : ∃ xs, ptCells (L.drop (k + 1)) = xs := ⟨_, rfl⟩
  rw [hxa, hxb] at HO HPL
  rw [hxa] at LA HDa
  rw [hxb] at LB hA2
  clear hxa hxb lA lB hp
  obtain ⟨n, hn⟩ : ∃ n, L.length = n := ⟨_, rfl⟩
  rw [hn] at hk hs2 hcap LB ⊢
  clear hn
  have HLA := Lib.hid LA
  have HLB := Lib.hid LB
  clear LA LB
  have j1 : (k : Int) ≤ (cap : Int) := by omega
  have j2 : (k : Int) + 1 ≤ (n : Int) := by omega
  have j3 : (0 : Int) ≤ (k : Int) + 1 := by omega
  have j4 : (n : Int) ≤ (cap : Int) := by omega
  have tok1 := trivial
  have tok2 := trivial
  go_enter Try.func138, Try.ntmps138
  go_wp2_with (first
    | (at_builtin; have _t := tok1; refine wpList_append_own _ rfl _ _ 32 rfl w.heap.size 23 i0 (pt 0 0) 2 16 Try.underlying32 hi hz0 hz1 hz2 rfl (by decide) _ _ _ rfl (World.ownsRow_nil w w.heap.size 23 2) ⟨b, off, none⟩ k _ xa rfl HLA.out HDa.out HO.out.1 (by unfold maxLen; omega) (by omega) (Nat.le_refl _) ?_; intro v6 w6 hown6 hg6 _; clear tok1; have hb6 : Below w.heap.size w w6 := (Below.refl w.heap.size w).grown hg6 (Nat.le_refl _) (fun j e => by cases e)
       have HB6 := hA2.out ⟨_, hb6⟩
       have hsz6 := hb6.size)
    | (at_builtin; have _t := tok2; refine wpList_append_own _ rfl _ _ 32 rfl w.heap.size 23 i0 (pt 0 0) 2 16 Try.underlying32 hi hz0 hz1 hz2 rfl (by decide) _ _ _ rfl hown6 A (n - (k + 1)) _ xb rfl HLB.out HB6 HO.out.2 (by unfold maxLen; omega) (by omega) hsz6 ?_; intro v7 w7 hown7 hg7 _; clear tok2))
  go_ret
  refine ⟨_, rfl, ?_, hb6.grown hg7 hsz6 (fun j e => (hown6.lt j e).1)⟩
  rw [HPL.out]
  have := hown7
  rw [show 0 + k + (n - (k + 1)) = n - 1 by omega] at this
  simpa using this

end Go.Proofs.Ytlocdadkhdcedaa

/- Walks: the reference's straight. -/
namespace Go.Proofs.Ytlocdadkhdcedaa
open Go Go.RowKit Go.Proofs Go.Abs Go.Plain

set_option maxRecDepth 100000 in
set_option maxHeartbeats 8000000 in
theorem straightR_any (b off cap : Nat) (L : Pl) (hT : Two L) (hl : L.length ≤ 1000) (hcap : L.length ≤ cap) (hsm : AllSm L) (w : World) (hp : PtsAt w b off L) :
    Calls Try.prog 88 #[.slice (some ⟨b, off, none⟩) L.length cap] w fun e w' => ∃ a c, e = .returned (.slice a (leftL L).length c) ∧ ((∃ b' off', a = some ⟨b', off', none⟩ ∧ PtsAt w' b' off' (leftL L) ∧ (leftL L).length ≤ c) ∨ (a = none ∧ (leftL L).length = 0)) ∧ AllSm (leftL L) ∧ (leftL L).length ≤ L.length ∧ Below w.heap.size w w' := by
  go_enter Try.func88, Try.ntmps88
  go_wp2_with fail
  go_loopw [0, 3] (fun v i wr => ∃ (b off c k n : Nat) (M : Pl), v = .slice (some ⟨b, off, none⟩) n c ∧ M.length = n ∧ i = .int .i64 k ∧ k ≤ n ∧ PtsAt wr b off M ∧ n ≤ c ∧ n ≤ L.length ∧ leaveL repK L = leaveL repK M ∧ Two M ∧ AllSm M ∧ (∀ j, j < k → repK M j = false) ∧ Below w.heap.size w wr) (fun v i _ => lenV v * 1001 + (lenV v - (intOf i).toNat))
  case atStart => exact ⟨b, off, cap, 0, L.length, L, rfl, rfl, rfl, Nat.zero_le _, hp, hcap, Nat.le_refl _, rfl, hT, hsm, fun j h => absurd h (Nat.not_lt_zero _), Below.refl _ _⟩
  case round =>
    clear hp hcap hT hsm
    obtain ⟨b, off, c, k, n, M, rfl, hn, rfl, hk, hp, hc, hle, hE, hT2, hM, hno, hbel⟩ := hrel
    have HE := Lib.hid hE
    have HT := Lib.hid hT2
    have HM := Lib.hid hM
    have HNO := Lib.hid hno
    have HP := Lib.hid hp
    have hn2 := hT2.len
    rw [hn] at hn2
    clear hE hT2 hM hno hp
    by_cases hlt : k < n
    · have j1 : (k : Int) < (n : Int) := by omega
      have j2 : (n : Int) > 1 := by omega
      have hk1 : (k + 1) % n < n := Nat.mod_lt _ (by omega)
      have a0 := (HP.out k (by omega)).1
      have a1 := (HP.out k (by omega)).2
      have HC0 : Hid (∀ i, i < n → wr.cell? ⟨b, off + i * 2, none⟩ = some (.int .i64 (px M i)) ∧ wr.cell? ⟨b, off + i * 2 + 1, none⟩ = some (.int .i64 (py M i))) := Lib.hid (fun i hi => HP.out i (by omega))
      have A1' := at_from (cap := c) (by omega) HC0 ((k : Int) + 1) ((k + 1) % n) (px M ((k + 1) % n)) (py M ((k + 1) % n)) (Lib.hid ⟨by omega, atN_succ hlt, rfl, rfl⟩)
      have A1 := fun x : Grow wr => A1' x.w x.b
      clear A1' HC0
      have HK : Hid (repK M k = (px M k == px M ((k + 1) % n) && py M k == py M ((k + 1) % n))) := Lib.hid (by unfold repK; rw [hn])
      have HF : Hid (repK M k = true → FirstAt repK M k) := Lib.hid (fun h => ⟨by omega, h, HNO.out⟩)
      have HN : Hid (repK M k = false → ∀ j, j < k + 1 → repK M j = false) := Lib.hid (fun h j hj => by
        rcases Nat.lt_or_ge j k with h1 | h1
        · exact HNO.out j h1
        · obtain rfl : j = k := by omega
          exact h)
      have CW := fun w' (hb : Below wr.heap.size wr w') => without_any b off c k M (by omega) (by omega) (by omega) w' (HP.out.keep hb)
      rw [hn] at CW
      have E := fun w => run_pt_eql (px M k) (py M k) (px M ((k + 1) % n)) (py M ((k + 1) % n)) w
      obtain ⟨ev, hev⟩ : ∃ c, repK M k = c := ⟨_, rfl⟩
      rw [← HK.out, hev] at E
      have HEV := Lib.hid hev
      rw [hev] at HF HN
      clear hev HK
      generalize px M k = x0, py M k = y0, px M ((k + 1) % n) = x1, py M ((k + 1) % n) = y1 at a0 a1 A1 E
      go_wp2_with fail
      have G0 := grow_cell a0
      have G1 := grow_cell a1
      refine wp_region_grow (by kernel_rfl) (by kernel_rfl) ?_
      repeat (go_big_quiet_step ((first | (go_at_call 96; with_reducible exact calls_grow (A1 _)))))
      refine wpQuiet_nil ?_
      rintro w2 ⟨x, hx⟩
      have hb := x.b
      rw [← hx] at hb
      clear hx x G0 G1 A1 E a0 a1
      have hbel2 := keep_below hbel hb
      cases ev
      · have HN2 := Lib.hid (HN.out rfl)
        have HP2 := Lib.hid (HP.out.keep hb)
        go_wp2
        exact ⟨⟨b, off, c, k + 1, n, M, rfl, hn, by simp, by omega, HP2.out, hc, hle, HE.out, HT.out, HM.out, HN2.out, hbel2⟩, by simp [intOf, lenV]; omega⟩
      · have HF2 := HF.out rfl
        have HE2 := Lib.hid (HE.out.trans (leaveL_some HF2))
        have HT2 := Lib.hid (HT.out.erase HF2.1 HEV.out)
        have HM2 := Lib.hid (HM.out.erase k)
        have hel : (M.eraseIdx k).length = n - 1 := by rw [List.length_eraseIdx_of_lt HF2.1, hn]
        clear HF2
        go_wp2_with fail
        refine (CW w2 hb).mono ?_
        rintro e w3 ⟨v3, rfl, o3, hb3⟩
        have hbel3 := keep_below hbel2 hb3
        obtain ⟨g, cg, rfl⟩ := own_slice o3 (by omega)
        have HP3 := Lib.hid (own_at hel o3)
        have hcg := (own_capP o3).1
        clear CW o3
        go_wp2
        exact ⟨⟨g, 0, cg, 0, n - 1, M.eraseIdx k, rfl, hel, rfl, Nat.zero_le _, HP3.out, hcg, by omega, HE2.out, HT2.out, HM2.out, fun j h => absurd h (Nat.not_lt_zero _), hbel3⟩, by simp [intOf, lenV]; omega⟩
    · obtain rfl : k = n := by omega
      have HE1 := Lib.hid (HE.out.trans (leaveL_none (fun j hj => HNO.out j (by omega))))
      have HLL : Hid (leftL L = leaveL strL M) := Lib.hid (by unfold leftL; rw [HE1.out])
      clear HE HT HNO HE1
      go_wp2_with fail
      go_loopw [0, 4] (fun v i wi => ∃ (a : Option Addr) (c k n : Nat) (M : Pl), v = .slice a n c ∧ M.length = n ∧ i = .int .i64 k ∧ k ≤ n ∧ ((∃ b off, a = some ⟨b, off, none⟩ ∧ PtsAt wi b off M ∧ n ≤ c) ∨ (a = none ∧ n = 0)) ∧ n ≤ L.length ∧ leftL L = leaveL strL M ∧ AllSm M ∧ (∀ j, j < k → strL M j = false) ∧ Below w.heap.size w wi) (fun v i _ => lenV v * 1001 + (lenV v - (intOf i).toNat))
      case atStart => exact ⟨_, c, 0, k, M, rfl, hn, rfl, Nat.zero_le _, .inl ⟨b, off, rfl, HP.out, hc⟩, hle, HLL.out, HM.out, fun j h => absurd h (Nat.not_lt_zero _), hbel⟩
      case round =>
        clear HP hc hle HLL HM hbel hn hn2 hk
        obtain ⟨a, c, k, n, M, rfl, hn, rfl, hk, hpc, hle, hE, hM, hno, hbel⟩ := hrel
        have HPC := Lib.hid hpc
        clear hpc
        have HE := Lib.hid hE
        have HM := Lib.hid hM
        have HNO := Lib.hid hno
        clear hE hM hno
        by_cases hlt : k < n
        · obtain ⟨b, off, rfl, hp, hc⟩ := HPC.out.resolve_right (fun h => by omega)
          have HP := Lib.hid hp
          clear HPC
          have j1 : (k : Int) < (n : Int) := by omega
          have hk1 : (k + 1) % n < n := Nat.mod_lt _ (by omega)
          have a0 := (HP.out k (by omega)).1
          have a1 := (HP.out k (by omega)).2
          have HC0 := Lib.hid (fun i (hi : i < n) => hp i (by omega))
          clear hp
          have A0' := at_from (cap := c) (by omega) HC0 ((k : Int) - 1) ((k + n - 1) % n) (px M ((k + n - 1) % n)) (py M ((k + n - 1) % n)) (Lib.hid ⟨by omega, atN_pred hlt, rfl, rfl⟩)
          have A1' := at_from (cap := c) (by omega) HC0 ((k : Int) + 1) ((k + 1) % n) (px M ((k + 1) % n)) (py M ((k + 1) % n)) (Lib.hid ⟨by omega, atN_succ hlt, rfl, rfl⟩)
          have A0 := fun x : Grow _ => A0' x.w x.b
          have A1 := fun x : Grow _ => A1' x.w x.b
          clear A1' A0' HC0
          have CC := fun w => refCross_any (px M ((k + n - 1) % n)) (py M ((k + n - 1) % n)) (px M k) (py M k) (px M ((k + 1) % n)) (py M ((k + 1) % n)) w (HM.out _).1 (HM.out _).2 (HM.out _).1 (HM.out _).2 (HM.out _).1 (HM.out _).2
          obtain ⟨cv, hcv⟩ : ∃ c, cross (px M ((k + n - 1) % n)) (py M ((k + n - 1) % n)) (px M k) (py M k) (px M ((k + 1) % n)) (py M ((k + 1) % n)) = c := ⟨_, rfl⟩
          rw [hcv] at CC
          have HK : Hid (strL M k = (cv == 0)) := Lib.hid (by unfold strL strK strB; rw [hn, hcv])
          have HF : Hid (strL M k = true → FirstAt strL M k) := Lib.hid (fun h => ⟨by omega, h, HNO.out⟩)
          have HN : Hid (strL M k = false → ∀ j, j < k + 1 → strL M j = false) := Lib.hid (fun h j hj => by
            rcases Nat.lt_or_ge j k with h1 | h1
            · exact HNO.out j h1
            · obtain rfl : j = k := by omega
              exact h)
          have CW := fun w' hb => without_any b off c k M (by omega) (by omega) (by omega) w' (HP.out.keep hb)
          rw [hn] at CW
          clear hcv
          generalize px M k = x0, py M k = y0, px M ((k + 1) % n) = x1, py M ((k + 1) % n) = y1, px M ((k + n - 1) % n) = x2, py M ((k + n - 1) % n) = y2 at a0 a1 A0 A1 CC
          go_wp2_with fail
          have G0 := grow_cell a0
          have G1 := grow_cell a1
          refine wp_region_grow (by kernel_rfl) (by kernel_rfl) ?_
          repeat (go_big_quiet_step ((first | (go_at_call 65; with_reducible exact calls_grow (CC _)) | (go_at_call 96; with_reducible exact calls_grow (A0 _)) | (go_at_call 96; with_reducible exact calls_grow (A1 _)))))
          refine wpQuiet_nil ?_
          rintro w2 ⟨x, hx⟩
          have hb := x.b
          rw [← hx] at hb
          clear hx x G0 G1 A0 A1 CC a0 a1
          have hbel2 := keep_below hbel hb
          by_cases hz : cv = 0
          · have HT1 : strL M k = true := by rw [HK.out, hz]; rfl
            have HF2 := HF.out HT1
            have HE2 := Lib.hid (HE.out.trans (leaveL_some HF2))
            have HM2 := Lib.hid (HM.out.erase k)
            have hel : (M.eraseIdx k).length = n - 1 := by rw [List.length_eraseIdx_of_lt HF2.1, hn]
            clear HF2 HT1
            go_wp2_with fail
            refine (CW w2 hb).mono ?_
            rintro e w3 ⟨v3, rfl, o3, hb3⟩
            have hbel3 := keep_below hbel2 hb3
            have HPN : Hid ((∃ g, v3 = .slice none 0 0 ∧ n - 1 = 0 ∧ g = 0) ∨ ∃ g cg, v3 = .slice (some ⟨g, 0, none⟩) (n - 1) cg ∧ PtsAt w3 g 0 (M.eraseIdx k) ∧ n - 1 ≤ cg) := Lib.hid (by
              rcases Nat.eq_zero_or_pos (n - 1) with h0 | h0
              · rcases o3.2 with ⟨h1, _⟩ | ⟨g, cg, cur, h1, _⟩
                · exact .inl ⟨0, h1, h0, rfl⟩
                · subst h1
                  exact .inr ⟨g, cg, rfl, own_at hel o3, (own_capP o3).1⟩
              · obtain ⟨g, cg, rfl⟩ := own_slice o3 h0
                exact .inr ⟨g, cg, rfl, own_at hel o3, (own_capP o3).1⟩)
            clear CW o3
            rcases HPN.out with ⟨_, rfl, h0, _⟩ | ⟨g, cg, rfl, hp3, hcg⟩
            · go_wp2
              exact ⟨⟨none, 0, 0, n - 1, M.eraseIdx k, by rw [h0], hel, rfl, Nat.zero_le _, .inr ⟨rfl, h0⟩, by omega, HE2.out, HM2.out, fun j h => absurd h (Nat.not_lt_zero _), hbel3⟩, by simp [intOf, lenV]; omega⟩
            · have HP3 := Lib.hid hp3
              clear hp3
              go_wp2
              exact ⟨⟨_, cg, 0, n - 1, M.eraseIdx k, rfl, hel, rfl, Nat.zero_le _, .inl ⟨g, 0, rfl, HP3.out, hcg⟩, by omega, HE2.out, HM2.out, fun j h => absurd h (Nat.not_lt_zero _), hbel3⟩, by simp [intOf, lenV]; omega⟩
          · have HN2 := Lib.hid (HN.out (by rw [HK.out]; simpa using hz))
            have HP2 := Lib.hid (HP.out.keep hb)
            go_wp2
            exact ⟨⟨_, c, k + 1, n, M, rfl, hn, by simp, by omega, .inl ⟨b, off, rfl, HP2.out, hc⟩, hle, HE.out, HM.out, HN2.out, hbel2⟩, by simp [intOf, lenV]; omega⟩
        · obtain rfl : k = n := by omega
          have HE1 := HE.out.trans (leaveL_none (fun j hj => HNO.out j (by omega)))
          have HE2 := Lib.hid HE1
          clear HE1
          go_wp2
          go_ret
          rw [HE2.out, hn]
          exact ⟨a, c, rfl, HPC.out, HM.out, hle, hbel⟩

end Go.Proofs.Ytlocdadkhdcedaa

/- Walks: the reference's Outline. -/
namespace Go.Proofs.Ytlocdadkhdcedaa
open Go Go.RowKit Go.Proofs Go.Abs Go.Plain

set_option maxRecDepth 100000 in
set_option maxHeartbeats 8000000 in
theorem refOutline_any (b off cap : Nat) (L : Pl) (hbig : L.length ≤ 9223372036854775807) (hcap : L.length ≤ cap) (w : World) (hp : PtsAt w b off L) :
    Calls Try.prog 27 #[.slice (some ⟨b, off, none⟩) L.length cap] w fun e w' => ∃ v E, e = .returned (.tuple #[v, .int .i64 E]) ∧ OutS L w.heap.size w' v E ∧ Below w.heap.size w w' := by
  obtain ⟨i0, hi, hz0, hz1, hz2⟩ := info_parts info23
  by_cases h3 : 3 ≤ L.length
  · by_cases h4 : L.length ≤ 400
    · have i3 : ¬ (L.length : Int) < 3 := by omega
      have i4 : ¬ (L.length : Int) > 400 := by omega
      have CV := refPoints_any (px L) (py L) b off L.length cap w (by omega) hp
      rw [show allValid (px L) (py L) L.length = vPts L from rfl] at CV
      have hok : okO L = vPts L := by unfold okO; rw [decide_eq_true h3, decide_eq_true h4]; rfl
      obtain ⟨vp, hvp⟩ : ∃ c, vPts L = c := ⟨_, rfl⟩
      rw [hvp] at CV hok
      cases vp
      · have HR : Hid (∀ W, OutS L w.heap.size W (.slice none 0 0) 1) := Lib.hid (fun W => .inl ⟨hok, rfl, rfl⟩)
        go_enter Try.func27, Try.ntmps27
        go_wp2_with fail
        refine CV.mono ?_
        rintro e w1 ⟨rfl, hb⟩
        go_wp2
        go_ret2
        exact ⟨_, _, rfl, HR.out _, hb⟩
      · have hsm : AllSm L := vPts_small hvp
        have CF := fun w' (hb : Below w.heap.size w w') => refFlat_any b off cap L (by omega) (by omega) hsm w' (hp.keep hb)
        obtain ⟨fl, hfl⟩ : ∃ c, flatS L = c := ⟨_, rfl⟩
        rw [hfl] at CF
        cases fl
        · have CR := fun w' (hb : Below w.heap.size w w') => straightR_any b off cap L (two_flat hfl) (by omega) hcap hsm w' (hp.keep hb)
          have HR : Hid (∀ W v E, ((decide (3 ≤ (leftL L).length) && simpleS (px (leftL L)) (py (leftL L)) (leftL L).length) = false ∧ v = .slice none 0 0 ∧ E = 10) ∨
              ((decide (3 ≤ (leftL L).length) && simpleS (px (leftL L)) (py (leftL L)) (leftL L).length) = true ∧ 24 < (leftL L).length ∧ v = .slice none 0 0 ∧ E = 2) ∨
              ((decide (3 ≤ (leftL L).length) && simpleS (px (leftL L)) (py (leftL L)) (leftL L).length) = true ∧ (leftL L).length ≤ 24 ∧ W.ownsRow w.heap.size 23 2 v (leftL L).length (ptCells (normL (leftL L))) ∧ E = 0) → OutS L w.heap.size W v E) := Lib.hid (by
            intro W v E h
            unfold OutS
            rw [hok, hfl]
            rcases h with h | h | h
            · exact .inr (.inr (.inl ⟨rfl, rfl, h⟩))
            · exact .inr (.inr (.inr (.inl ⟨rfl, rfl, h⟩)))
            · exact .inr (.inr (.inr (.inr ⟨rfl, rfl, h⟩))))
          obtain ⟨n, hn⟩ : ∃ n, L.length = n := ⟨_, rfl⟩
          rw [hn] at CV CF CR i3 i4 h3 h4 hcap ⊢
          obtain ⟨M, hM⟩ : ∃ M, leftL L = M := ⟨_, rfl⟩
          rw [hM] at CR HR
          clear hM hok hfl hp hsm hvp hn hbig
          go_enter Try.func27, Try.ntmps27
          go_wp2_with fail
          refine CV.mono ?_
          rintro e w1 ⟨rfl, b1⟩
          go_wp2_with fail
          refine (CF w1 b1).mono ?_
          rintro e w2 ⟨rfl, hb⟩
          have b2 := keep_below b1 hb
          clear hb b1 CV CF
          go_wp2_with fail
          refine (CR w2 b2).mono ?_
          rintro e w4 ⟨a4, c4, rfl, hpc, sm4, hl4, hb⟩
          have b4 := keep_below b2 hb
          clear hb CR b2
          obtain ⟨m, hm⟩ : ∃ m, M.length = m := ⟨_, rfl⟩
          by_cases m3 : 3 ≤ m
          · obtain ⟨g4, o4, rfl, P4, hc4⟩ := hpc.resolve_right (fun h => by omega)
            clear hpc
            have i5 : ¬ (m : Int) < 3 := by omega
            have CSi := refSimple_any g4 o4 m c4 (px M) (py M) (by omega) sm4 w4 (fun k hk => P4 k (by omega))
            have CSu := fun w' (hb : Below w4.heap.size w4 w') => sum_any g4 o4 m c4 (px M) (py M) (by omega) sm4 w' (fun k hk => (P4.keep hb) k (by omega))
            have CN := fun w' (hb : Below w4.heap.size w4 w') => placed_any g4 o4 c4 M (by omega) (by omega) hc4 w' (P4.keep hb)
            rw [hm] at CN
            simp only [hm] at HR
            rw [hm]
            obtain ⟨si, hsi⟩ : ∃ c, simpleS (px M) (py M) m = c := ⟨_, rfl⟩
            rw [hsi] at CSi HR
            obtain ⟨su, hsu⟩ : ∃ s, sumL M = s := ⟨_, rfl⟩
            rw [show sumD (px M) (py M) m (List.range m) = su by rw [← hsu, ← hm]; rfl] at CSu
            have HD := Lib.hid (decide_eq_true m3)
            clear hsi sm4
            cases si
            · have HR2 : Hid (∀ W, OutS L w.heap.size W (.slice none 0 0) 10) := Lib.hid (fun W => HR.out W _ _ (.inl ⟨by rw [HD.out]; rfl, rfl, rfl⟩))
              go_wp2_with fail
              refine CSi.mono ?_
              rintro e w5 ⟨rfl, hb⟩
              have b5 := keep_below b4 hb
              go_wp2
              go_ret2
              exact ⟨_, _, rfl, HR2.out _, b5⟩
            · by_cases m24 : m ≤ 24
              · have i6 : ¬ (m : Int) > 24 := by omega
                have HR2 : Hid (∀ W v, W.ownsRow w.heap.size 23 2 v m (ptCells (normL M)) → OutS L w.heap.size W v 0) := Lib.hid (fun W v ho => HR.out W _ _ (.inr (.inr ⟨by rw [HD.out]; rfl, m24, ho, rfl⟩)))
                go_wp2_with fail
                refine CSi.mono ?_
                rintro e w5 ⟨rfl, hb⟩
                have b5 := keep_below b4 hb
                go_wp2_with fail
                refine (CSu w5 hb).mono ?_
                rintro e w6 ⟨rfl, hb6⟩
                have b6 := keep_below b5 hb6
                have hb46 := keep_below hb hb6
                have HP6 := Lib.hid (P4.keep hb46)
                have CN6 := CN w6 hb46
                clear CN CSi CSu P4 hb hb6 b4 b5
                by_cases hneg : su < 0
                · have hM2 : Hid (normL M = placeL M.reverse) := Lib.hid (by unfold normL; rw [if_pos (show sumL M < 0 by rw [hsu]; exact hneg)])
                  have hRl : M.reverse.length = m := by rw [List.length_reverse, hm]
                  have HTk : Hid (∀ j, j < m → ptCells (M.reverse.take (j + 1)) = ptCells (M.reverse.take j) ++ [.int .i64 (px M (m - 1 - j)), .int .i64 (py M (m - 1 - j))]) := Lib.hid (fun j hj => by
                    rw [List.take_add_one, getD_some (by omega), rev_getD (by omega), hm]
                    exact ptCells_snoc _ _ _)
                  go_wp2_with fail
                  go_loopw [5, 6] (fun v i wr => ∃ (j : Nat) (i' : Int), j ≤ m ∧ i = .int .i64 i' ∧ i' + j + 1 = m ∧ wr.ownsRow w6.heap.size 23 2 v j (ptCells (M.reverse.take j)) ∧ Below w6.heap.size w6 wr) (fun v i _ => (intOf i + 1).toNat)
                  case atStart => exact ⟨0, _, Nat.zero_le _, rfl, by omega, World.ownsRow_nil _ _ _ _, Below.refl _ _⟩
                  case round =>
                    obtain ⟨j, i', hjk, rfl, hij, hown, hb3⟩ := hrel
                    by_cases hlt : 0 ≤ i'
                    · obtain ⟨i, rfl⟩ : ∃ i : Nat, i' = (i : Int) := ⟨i'.toNat, by omega⟩
                      have HTj := Lib.hid (HTk.out j (by omega))
                      have hi0 : i < m := by omega
                      have d0 := keep_cell hb3 (HP6.out i (by omega)).1
                      have d1 := keep_cell hb3 (HP6.out i (by omega)).2
                      rw [show m - 1 - j = i by omega] at HTj
                      have j5 : (i : Int) < (m : Int) := by omega
                      obtain ⟨x0, hx⟩ : ∃ x, px M i = x := ⟨_, rfl⟩
                      obtain ⟨y0, hy⟩ : ∃ y, py M i = y := ⟨_, rfl⟩
                      rw [hx] at d0 HTj
                      rw [hy] at d1 HTj
                      clear hx hy
                      obtain ⟨xs, hxs⟩ : ∃ xs, ptCells (M.reverse.take j) = xs := ⟨_, rfl⟩
                      rw [hxs] at hown HTj
                      clear hxs
                      have hs3 := hb3.size
                      go_wp2_with (at_builtin; refine wpList_append_own _ rfl _ _ 32 rfl w6.heap.size 23 i0 (pt 0 0) 2 16 Try.underlying32 hi hz0 hz1 hz2 rfl (by decide) _ _ _ rfl (hown.alloc _) _ 1 1 [.int .i64 x0, .int .i64 y0] rfl rfl (two_new _ _ _) (two_cells _ _) (by unfold maxLen; omega) (by omega) (by simp; omega) ?_; intro v1 w4 hown1 hgrow _)
                      refine ⟨⟨j + 1, (i : Int) - 1, by omega, rfl, by omega, ?_, (hb3.alloc hs3 _).grown hgrow (by simp; omega) (fun l e => (hown.lt l e).1)⟩, by simp [intOf]⟩
                      rw [HTj.out]
                      exact hown1
                    · obtain rfl : j = m := by omega
                      rw [show M.reverse.take j = M.reverse by rw [← hRl]; exact List.take_length] at hown
                      clear HTk HP6
                      obtain ⟨gT, cT, rfl⟩ := own_slice hown (by omega)
                      have CP := placed_any gT 0 cT M.reverse (by omega) (by omega) (by have := own_capP hown; omega) _ (own_at hRl hown)
                      rw [hRl, ← hM2.out] at CP
                      have b7 := keep_below b6 hb3
                      clear hown hM2
                      go_wp2_with fail
                      refine CP.mono ?_
                      rintro e w8 ⟨v8, rfl, o8, hb8⟩
                      have b8 := keep_below b7 hb8
                      have HO := Lib.hid (HR2.out w8 v8 (own_low o8 b7.size))
                      clear o8 CP
                      go_wp2
                      go_ret2
                      exact ⟨_, _, rfl, HO.out, b8⟩
                · have hM2 : normL M = placeL M := by unfold normL; rw [if_neg (show ¬ sumL M < 0 by rw [hsu]; exact hneg)]
                  rw [← hM2] at CN6
                  clear hM2
                  go_wp2_with fail
                  refine CN6.mono ?_
                  rintro e w8 ⟨v8, rfl, o8, hb8⟩
                  have b8 := keep_below b6 hb8
                  have HO := Lib.hid (HR2.out w8 v8 (own_low o8 b6.size))
                  clear o8 CN6
                  go_wp2
                  go_ret2
                  exact ⟨_, _, rfl, HO.out, b8⟩
              · have i6 : (m : Int) > 24 := by omega
                have HR2 : Hid (∀ W, OutS L w.heap.size W (.slice none 0 0) 2) := Lib.hid (fun W => HR.out W _ _ (.inr (.inl ⟨by rw [HD.out]; rfl, by omega, rfl, rfl⟩)))
                go_wp2_with fail
                refine CSi.mono ?_
                rintro e w5 ⟨rfl, hb⟩
                have b5 := keep_below b4 hb
                go_wp2
                go_ret2
                exact ⟨_, _, rfl, HR2.out _, b5⟩
          · have HR2 : Hid (∀ W, OutS L w.heap.size W (.slice none 0 0) 10) := Lib.hid (fun W => HR.out W _ _ (.inl ⟨by rw [hm, decide_eq_false m3]; rfl, rfl, rfl⟩))
            rw [hm]
            clear hpc
            have i5 : (m : Int) < 3 := by omega
            go_wp2
            go_ret2
            exact ⟨_, _, rfl, HR2.out _, b4⟩
        · have HR : Hid (∀ W, OutS L w.heap.size W (.slice none 0 0) 11) := Lib.hid (fun W => .inr (.inl ⟨hok, hfl, rfl, rfl⟩))
          go_enter Try.func27, Try.ntmps27
          go_wp2_with fail
          refine CV.mono ?_
          rintro e w1 ⟨rfl, b1⟩
          go_wp2_with fail
          refine (CF w1 b1).mono ?_
          rintro e w2 ⟨rfl, hb⟩
          have b2 := keep_below b1 hb
          go_wp2
          go_ret2
          exact ⟨_, _, rfl, HR.out _, b2⟩
    · have i3 : ¬ (L.length : Int) < 3 := by omega
      have i4 : (L.length : Int) > 400 := by omega
      have HR : Hid (∀ W, OutS L w.heap.size W (.slice none 0 0) 1) := Lib.hid (fun W => .inl ⟨by unfold okO; rw [decide_eq_false h4]; simp, rfl, rfl⟩)
      go_enter Try.func27, Try.ntmps27
      go_wp2
      go_ret2
      exact ⟨_, _, rfl, HR.out _, Below.refl _ _⟩
  · have i3 : (L.length : Int) < 3 := by omega
    have HR : Hid (∀ W, OutS L w.heap.size W (.slice none 0 0) 1) := Lib.hid (fun W => .inl ⟨by unfold okO; rw [decide_eq_false h3]; rfl, rfl, rfl⟩)
    go_enter Try.func27, Try.ntmps27
    go_wp2
    go_ret2
    exact ⟨_, _, rfl, HR.out _, Below.refl _ _⟩

end Go.Proofs.Ytlocdadkhdcedaa
