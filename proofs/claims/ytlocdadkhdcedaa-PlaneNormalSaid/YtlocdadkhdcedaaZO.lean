/- Walks: Outline. -/
import Derived.Test.YtlocdadkhdcedaaNC
import Derived.Test.YtlocdadkhdcedaaNB
import Derived.Test.YtlocdadkhdcedaaMC
namespace Go.Proofs.Ytlocdadkhdcedaa
open Go Go.RowKit Go.Proofs Go.Abs Go.Plain

theorem Two.eraseN : ∀ (f : Nat) {L : Pl}, Two L → Two (eraseN repK f L)
  | 0, _, h => h
  | f + 1, L, h => by
    show Two (match (List.range L.length).find? (repK L) with | none => L | some k => Go.Proofs.Ytlocdadkhdcedaa.eraseN repK f (L.eraseIdx k))
    cases hf : (List.range L.length).find? (repK L) with
    | none => exact h
    | some k =>
      have h1 := List.find?_some hf
      have h2 := List.mem_range.1 (List.mem_of_find?_eq_some hf)
      exact Two.eraseN f (h.erase h2 h1)

theorem Two.leave {L : Pl} (h : Two L) : Two (leaveL repK L) := Two.eraseN _ h

/-- What is left of a list. -/
def leftL (L : Pl) : Pl := leaveL strL (leaveL repK L)

/-- Is the list one that Outline takes? -/
def okO (L : Pl) : Bool := decide (3 ≤ L.length) && (decide (L.length ≤ 400) && vPts L)

/-- What Outline answers. -/
def OutS (L : Pl) (base : Nat) (W : World) (v : Value) (E : Int) : Prop :=
  (okO L = false ∧ v = .slice none 0 0 ∧ E = 1) ∨
  (okO L = true ∧ flatS L = true ∧ v = .slice none 0 0 ∧ E = 11) ∨
  (okO L = true ∧ flatS L = false ∧ (decide (3 ≤ (leftL L).length) && simpleS (px (leftL L)) (py (leftL L)) (leftL L).length) = false ∧ v = .slice none 0 0 ∧ E = 10) ∨
  (okO L = true ∧ flatS L = false ∧ (decide (3 ≤ (leftL L).length) && simpleS (px (leftL L)) (py (leftL L)) (leftL L).length) = true ∧ 24 < (leftL L).length ∧ v = .slice none 0 0 ∧ E = 2) ∨
  (okO L = true ∧ flatS L = false ∧ (decide (3 ≤ (leftL L).length) && simpleS (px (leftL L)) (py (leftL L)) (leftL L).length) = true ∧ (leftL L).length ≤ 24 ∧ W.ownsRow base 23 2 v (leftL L).length (ptCells (normL (leftL L))) ∧ E = 0)

set_option maxRecDepth 100000 in
set_option maxHeartbeats 8000000 in
theorem outline_any (b off cap : Nat) (L : Pl) (hbig : L.length ≤ 9223372036854775807) (w : World) (hp : PtsAt w b off L) :
    Calls Try.prog 26 #[.slice (some ⟨b, off, none⟩) L.length cap] w fun e w' => ∃ v E, e = .returned (.tuple #[v, .int .i64 E]) ∧ OutS L w.heap.size w' v E ∧ Below w.heap.size w w' := by
  by_cases h3 : 3 ≤ L.length
  · by_cases h4 : L.length ≤ 400
    · have i3 : ¬ (L.length : Int) < 3 := by omega
      have i4 : ¬ (L.length : Int) > 400 := by omega
      have CV := validPoints_any (px L) (py L) b off L.length cap w (by omega) hp
      rw [show allValid (px L) (py L) L.length = vPts L from rfl] at CV
      have hok : okO L = vPts L := by unfold okO; rw [decide_eq_true h3, decide_eq_true h4]; rfl
      obtain ⟨vp, hvp⟩ : ∃ c, vPts L = c := ⟨_, rfl⟩
      rw [hvp] at CV hok
      cases vp
      · have HR : Hid (∀ W, OutS L w.heap.size W (.slice none 0 0) 1) := Lib.hid (fun W => .inl ⟨hok, rfl, rfl⟩)
        go_enter Try.func26, Try.ntmps26
        go_wp2_with fail
        refine CV.mono ?_
        rintro e w1 ⟨rfl, hb⟩
        go_wp2
        go_ret2
        exact ⟨_, _, rfl, HR.out _, hb⟩
      · have hsm : AllSm L := vPts_small hvp
        have CF := fun w' (hb : Below w.heap.size w w') => flat_any b off cap L (by omega) (by omega) hsm w' (hp.keep hb)
        obtain ⟨fl, hfl⟩ : ∃ c, flatS L = c := ⟨_, rfl⟩
        rw [hfl] at CF
        cases fl
        · have CR := fun w' (hb : Below w.heap.size w w') => leaveRep_any b off cap L (by omega) (by omega) hsm w' (hp.keep hb)
          have h2 := (two_flat hfl).leave.len
          obtain ⟨L1, hL1⟩ : ∃ M, leaveL repK L = M := ⟨_, rfl⟩
          rw [hL1] at CR h2
          have hleft : leftL L = leaveL strL L1 := by unfold leftL; rw [hL1]
          have HR : Hid (∀ W v E, ((decide (3 ≤ (leaveL strL L1).length) && simpleS (px (leaveL strL L1)) (py (leaveL strL L1)) (leaveL strL L1).length) = false ∧ v = .slice none 0 0 ∧ E = 10) ∨
              ((decide (3 ≤ (leaveL strL L1).length) && simpleS (px (leaveL strL L1)) (py (leaveL strL L1)) (leaveL strL L1).length) = true ∧ 24 < (leaveL strL L1).length ∧ v = .slice none 0 0 ∧ E = 2) ∨
              ((decide (3 ≤ (leaveL strL L1).length) && simpleS (px (leaveL strL L1)) (py (leaveL strL L1)) (leaveL strL L1).length) = true ∧ (leaveL strL L1).length ≤ 24 ∧ W.ownsRow w.heap.size 23 2 v (leaveL strL L1).length (ptCells (normL (leaveL strL L1))) ∧ E = 0) → OutS L w.heap.size W v E) := Lib.hid (by
            intro W v E h
            unfold OutS
            rw [hok, hfl, hleft]
            rcases h with h | h | h
            · exact .inr (.inr (.inl ⟨rfl, rfl, h⟩))
            · exact .inr (.inr (.inr (.inl ⟨rfl, rfl, h⟩)))
            · exact .inr (.inr (.inr (.inr ⟨rfl, rfl, h⟩))))
          obtain ⟨n, hn⟩ : ∃ n, L.length = n := ⟨_, rfl⟩
          rw [hn] at CV CF CR i3 i4 h3 h4 ⊢
          clear hL1 hleft hok hfl hp hsm hvp hn hbig
          go_enter Try.func26, Try.ntmps26
          go_wp2_with fail
          refine CV.mono ?_
          rintro e w1 ⟨rfl, b1⟩
          go_wp2_with fail
          refine (CF w1 b1).mono ?_
          rintro e w2 ⟨rfl, hb⟩
          have b2 := keep_below b1 hb
          clear hb b1 CV CF
          go_wp2_with fail
          refine (CR w2 b2).mono ?_
          rintro e w3 ⟨g, c, rfl, o3, sm3, hl3, hb⟩
          have b3 := keep_below b2 hb
          have P3 := own_at rfl o3
          have CS := leaveStr_any g 0 c L1 (by omega) (by omega) sm3 w3 P3
          clear hb CR o3 P3 b2
          obtain ⟨M, hM⟩ : ∃ M, leaveL strL L1 = M := ⟨_, rfl⟩
          rw [hM] at CS HR
          clear hM
          go_wp2_with fail
          refine CS.mono ?_
          rintro e w4 ⟨g4, c4, rfl, o4, sm4, hl4, hb⟩
          have b4 := keep_below b3 hb
          have P4 := own_at rfl o4
          clear hb CS b3 o4
          obtain ⟨m, hm⟩ : ∃ m, M.length = m := ⟨_, rfl⟩
          by_cases m3 : 3 ≤ m
          · have i5 : ¬ (m : Int) < 3 := by omega
            have CSi := simple_any g4 0 m c4 (px M) (py M) (by omega) sm4 w4 (fun k hk => P4 k (by omega))
            have CN := fun (h : m ≤ 24) w' (hb : Below w4.heap.size w4 w') => normal_any g4 0 c4 M (by omega) (by omega) sm4 w' (P4.keep hb)
            rw [hm] at CN
            simp only [hm] at HR
            rw [hm]
            obtain ⟨si, hsi⟩ : ∃ c, simpleS (px M) (py M) m = c := ⟨_, rfl⟩
            rw [hsi] at CSi HR
            have HD := Lib.hid (decide_eq_true m3)
            clear hsi sm4 P4 sm3
            cases si
            · have HR2 : Hid (∀ W, OutS L w.heap.size W (.slice none 0 0) 10) := Lib.hid (fun W => HR.out W _ _ (.inl ⟨by rw [HD.out]; rfl, rfl, rfl⟩))
              go_wp2_with fail
              refine CSi.mono ?_
              rintro e w5 ⟨rfl, hb⟩
              have b5 := keep_below b4 hb
              go_wp2
              go_ret2
              exact ⟨_, _, rfl, HR2.out _, b5⟩
            · by_cases m24 : m ≤ 24
              · have i6 : ¬ (m : Int) > 24 := by omega
                have HR2 : Hid (∀ W v, W.ownsRow w.heap.size 23 2 v m (ptCells (normL M)) → OutS L w.heap.size W v 0) := Lib.hid (fun W v ho => HR.out W _ _ (.inr (.inr ⟨by rw [HD.out]; rfl, m24, ho, rfl⟩)))
                go_wp2_with fail
                refine CSi.mono ?_
                rintro e w5 ⟨rfl, hb⟩
                have b5 := keep_below b4 hb
                go_wp2_with fail
                refine (CN m24 w5 hb).mono ?_
                rintro e w6 ⟨v6, rfl, o6, hb6⟩
                have b6 := keep_below b5 hb6
                have HO := Lib.hid (HR2.out w6 v6 (own_low o6 b5.size))
                clear o6 CN CSi
                go_wp2
                go_ret2
                exact ⟨_, _, rfl, HO.out, b6⟩
              · have i6 : (m : Int) > 24 := by omega
                have HR2 : Hid (∀ W, OutS L w.heap.size W (.slice none 0 0) 2) := Lib.hid (fun W => HR.out W _ _ (.inr (.inl ⟨by rw [HD.out]; rfl, by omega, rfl, rfl⟩)))
                go_wp2_with fail
                refine CSi.mono ?_
                rintro e w5 ⟨rfl, hb⟩
                have b5 := keep_below b4 hb
                go_wp2
                go_ret2
                exact ⟨_, _, rfl, HR2.out _, b5⟩
          · have HR2 : Hid (∀ W, OutS L w.heap.size W (.slice none 0 0) 10) := Lib.hid (fun W => HR.out W _ _ (.inl ⟨by rw [hm, decide_eq_false m3]; rfl, rfl, rfl⟩))
            rw [hm]
            have i5 : (m : Int) < 3 := by omega
            go_wp2
            go_ret2
            exact ⟨_, _, rfl, HR2.out _, b4⟩
        · have HR : Hid (∀ W, OutS L w.heap.size W (.slice none 0 0) 11) := Lib.hid (fun W => .inr (.inl ⟨hok, hfl, rfl, rfl⟩))
          go_enter Try.func26, Try.ntmps26
          go_wp2_with fail
          refine CV.mono ?_
          rintro e w1 ⟨rfl, b1⟩
          go_wp2_with fail
          refine (CF w1 b1).mono ?_
          rintro e w2 ⟨rfl, hb⟩
          have b2 := keep_below b1 hb
          go_wp2
          go_ret2
          exact ⟨_, _, rfl, HR.out _, b2⟩
    · have i3 : ¬ (L.length : Int) < 3 := by omega
      have i4 : (L.length : Int) > 400 := by omega
      have HR : Hid (∀ W, OutS L w.heap.size W (.slice none 0 0) 1) := Lib.hid (fun W => .inl ⟨by unfold okO; rw [decide_eq_false h4]; simp, rfl, rfl⟩)
      go_enter Try.func26, Try.ntmps26
      go_wp2
      go_ret2
      exact ⟨_, _, rfl, HR.out _, Below.refl _ _⟩
  · have i3 : (L.length : Int) < 3 := by omega
    have HR : Hid (∀ W, OutS L w.heap.size W (.slice none 0 0) 1) := Lib.hid (fun W => .inl ⟨by unfold okO; rw [decide_eq_false h3]; rfl, rfl, rfl⟩)
    go_enter Try.func26, Try.ntmps26
    go_wp2
    go_ret2
    exact ⟨_, _, rfl, HR.out _, Below.refl _ _⟩

end Go.Proofs.Ytlocdadkhdcedaa
