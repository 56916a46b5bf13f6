/- Walks: frame and Frame. -/
import Derived.Test.YtcgmmfcphfkdhaaGreatB2
namespace Go.Proofs.YtcgmmfcphfkdhaaGreat
open Go Go.RowKit Go.Proofs Go.Torn

theorem SlB.shape2 {w : World} {v : Value} {n : Nat} (h : SlB w v (two n)) : ∃ b off cap, v = .slice (some ⟨b, off, none⟩) 2 cap := by
  obtain ⟨a, cap, rfl, -, hd⟩ := h
  obtain ⟨b, off, rfl, -⟩ := hd (by rw [two_len]; decide)
  exact ⟨b, off, cap, rfl⟩

theorem own_low {w : World} {b b' : Nat} {e : TypeId} {size n : Nat} {v : Value} {xs : List Value} (hb : b ≤ b') (h : w.ownsRow b' e size v n xs) : w.ownsRow b e size v n xs := by
  obtain ⟨h1, h2⟩ := h
  refine ⟨h1, ?_⟩
  rcases h2 with h2 | ⟨g, cap, cur, h2, h3, h4⟩
  · exact .inl h2
  · exact .inr ⟨g, cap, cur, h2, Nat.le_trans hb h3, h4⟩

theorem By_two (n : Nat) (h : n < 65536) : By (two n) := by
  intro v hv
  simp only [two, List.mem_cons, List.not_mem_nil, or_false] at hv
  omega

theorem chk_small (L : List Nat) : chk L < 65536 := Nat.lt_trans (chk_lt L) (by decide)

set_option maxRecDepth 100000 in
set_option maxHeartbeats 2000000 in
theorem frame_any (v : Value) (L : List Nat) (hl : L.length ≤ 8192) (hy : By L) (w : World) (hs : SlB w v L) :
    Calls Tryz.prog 81 #[v] w fun e w' => ∃ v', e = .returned v' ∧ w'.ownsRow w.heap.size 5 1 v' (frm L).length (bc (frm L)) ∧ Below w.heap.size w w' := by
  obtain ⟨a, cap, rfl, -, -⟩ := _root_.id hs
  have HV := Lib.hid (fun w' (hb : Below w.heap.size w w') => hs.keep hb)
  have H0 := Lib.hid (fun w' => two_any L.length (by omega) w')
  have H1 := Lib.hid (fun v w' (h : SlB w' v (two L.length)) => check_any v (two L.length) (by rw [two_len]; decide) (By_two _ (by omega)) w' h)
  have H2 := Lib.hid (fun w' => two_any (chk (two L.length)) (chk_small _) w')
  have H3 := Lib.hid (fun v w' (h : SlB w' v L) => check_any v L (by omega) hy w' h)
  have H4 := Lib.hid (fun w' => two_any (chk L) (chk_small _) w')
  have HF := Lib.hid (show [two L.length, two (chk (two L.length)), L, two (chk L)].flatten = frm L by simp [frm])
  have HL := Lib.hid (frm_len L)
  clear hs
  obtain ⟨n, hn⟩ : ∃ n, L.length = n := ⟨_, rfl⟩
  rw [hn] at HV H0 H1 H2 HF HL hl ⊢
  have hn := Lib.hid hn
  go_enter Tryz.func81, Tryz.ntmps81
  go_wp2_with fail
  refine (H0.out _).mono ?_
  rintro e x1 ⟨v1, rfl, s1, b1⟩
  go_wp2_with fail
  refine (H1.out _ _ s1).mono ?_
  rintro e y1 ⟨rfl, rfl⟩
  obtain ⟨c1, o1, p1, rfl⟩ := _root_.id s1.shape2
  go_wp2_with fail
  refine (H2.out _).mono ?_
  rintro e x2 ⟨v2, rfl, s2, b2⟩
  obtain ⟨c2, o2, p2, rfl⟩ := _root_.id s2.shape2
  go_wp2_with fail
  have b12 := b1.trans (b2.mono b1.size)
  have sv := HV.out x2 b12
  refine (H3.out _ _ sv).mono ?_
  rintro e y2 ⟨rfl, rfl⟩
  go_wp2_with fail
  refine (H4.out _).mono ?_
  rintro e x3 ⟨v3, rfl, s3, b3⟩
  obtain ⟨c3, o3, p3, rfl⟩ := _root_.id s3.shape2
  have b13 := b12.trans (b3.mono b12.size)
  have q1 := s1.keep (b2.trans (b3.mono b2.size))
  have q2 := s2.keep b3
  have q3 := sv.keep b3
  have HC := Lib.hid (And.intro (And.intro q1 q2) (And.intro q3 s3))
  clear H0 H1 H2 H3 H4 HV s1 s2 sv s3 q1 q2 q3
  have hbel := Lib.hid b13
  clear b1 b2 b3 b12 b13
  go_wp2_with fail
  have hal : Below x3.heap.size x3 (x3.alloc (Obj.cells #[.slice (some ⟨c1, o1, none⟩) 2 p1, .slice (some ⟨c2, o2, none⟩) 2 p2, .slice a n cap, .slice (some ⟨c3, o3, none⟩) 2 p3] 46)) := (Below.refl _ _).alloc (Nat.le_refl _) _
  have hcells : ∀ i, i < 4 → (x3.alloc (Obj.cells #[.slice (some ⟨c1, o1, none⟩) 2 p1, .slice (some ⟨c2, o2, none⟩) 2 p2, .slice a n cap, .slice (some ⟨c3, o3, none⟩) 2 p3] 46)).cell? ⟨x3.heap.size, i, none⟩ =
      some (([.slice (some ⟨c1, o1, none⟩) 2 p1, .slice (some ⟨c2, o2, none⟩) 2 p2, .slice a n cap, .slice (some ⟨c3, o3, none⟩) 2 p3] : List Value).getD i undef) := by
    intro i hi
    match i, hi with
    | 0, _ => simp
    | 1, _ => simp
    | 2, _ => simp
    | 3, _ => simp
  have hall := HC.out
  generalize hW : x3.alloc (Obj.cells #[.slice (some ⟨c1, o1, none⟩) 2 p1, .slice (some ⟨c2, o2, none⟩) 2 p2, .slice a n cap, .slice (some ⟨c3, o3, none⟩) 2 p3] 46) = x4 at hal hcells ⊢
  clear hW
  refine (concat_any x3.heap.size 4 4 [two n, two (chk (two n)), L, two (chk L)] (fun i => ([.slice (some ⟨c1, o1, none⟩) 2 p1, .slice (some ⟨c2, o2, none⟩) 2 p2, .slice a n cap, .slice (some ⟨c3, o3, none⟩) 2 p3] : List Value).getD i undef) rfl (by decide) (by rw [HF.out, HL.out]; omega) (by rw [HF.out, HL.out]; omega) x4 hcells (by
    intro i hi
    match i, hi with
    | 0, _ => exact hall.1.1.keep hal
    | 1, _ => exact hall.1.2.keep hal
    | 2, _ => exact hall.2.1.keep hal
    | 3, _ => exact hall.2.2.keep hal)).mono ?_
  rintro e x5 ⟨v5, rfl, ho, hb⟩
  rw [HF.out] at ho
  have b14 := hbel.out.trans (hal.mono hbel.out.size)
  have ho2 := Lib.hid (own_low b14.size ho)
  have b15 := Lib.hid (b14.trans (hb.mono b14.size))
  clear ho hb hal hcells hall HC b14
  go_wp2
  go_ret
  exact ⟨_, rfl, ho2.out, b15.out⟩

set_option maxRecDepth 100000 in
set_option maxHeartbeats 1000000 in
theorem frame25_any (v : Value) (L : List Nat) (hl : L.length ≤ 8192) (hy : By L) (w : World) (hs : SlB w v L) :
    Calls Tryz.prog 25 #[v] w fun e w' => ∃ v', e = .returned (.tuple #[v', .int .i64 0]) ∧ w'.ownsRow w.heap.size 5 1 v' (frm L).length (bc (frm L)) ∧ Below w.heap.size w w' := by
  have HF := Lib.hid (frame_any v L hl hy w hs)
  obtain ⟨a, cap, rfl, -, -⟩ := hs
  obtain ⟨n, hn⟩ : ∃ n, L.length = n := ⟨_, rfl⟩
  rw [hn] at HF hl ⊢
  clear hn
  have j1 : decide ((n : Int) > 8192) = false := by simp; omega
  go_enter Tryz.func25, Tryz.ntmps25
  go_wp2_with fail
  refine HF.out.mono ?_
  rintro e w1 ⟨v1, rfl, ho, hb⟩
  have ho := Lib.hid ho
  have hb := Lib.hid hb
  go_wp2
  go_ret2
  exact ⟨_, rfl, ho.out, hb.out⟩

end Go.Proofs.YtcgmmfcphfkdhaaGreat
