/- The abstract machine, part NC. -/
import Derived.Test.YtlocdadkhdcedaaMC
import Derived.Deep.RegionLaw
import Derived.Test.YtlocdadkhdcedaaNB
import Derived.Test.YtlocdadkhdcedaaMA
import Derived.Test.YtlocdadkhdcedaaMD
/- Walks: Delete of one point out of a row of one's own. -/
namespace Go.Proofs.Ytlocdadkhdcedaa
open Go Go.RowKit Go.Proofs Go.Abs Go.Plain

/-- The list with news laid over it from an element on. -/
def overL (xs : List Value) : Nat → List Value → List Value
  | _, [] => xs
  | o, v :: r => overL (xs.set o v) (o + 1) r

theorem own_setCells {base g n cap : Nat} {e : TypeId} {size : Nat} : ∀ (vs : List Value) (o : Nat) (W : World) (xs : List Value), W.ownsRow base e size (.slice (some ⟨g, 0, none⟩) n cap) n xs → o + vs.length ≤ n * size →
    (W.setCells g o vs).ownsRow base e size (.slice (some ⟨g, 0, none⟩) n cap) n (overL xs o vs)
  | [], _, _, _, h, _ => h
  | v :: r, o, W, xs, h, hl => own_setCells r (o + 1) _ _ (own_setCell v h (by simp at hl; omega)) (by simp at hl ⊢; omega)

theorem overL_len : ∀ (vs : List Value) (o : Nat) (xs : List Value), (overL xs o vs).length = xs.length
  | [], _, _ => rfl
  | v :: r, o, xs => by
    show (overL (xs.set o v) (o + 1) r).length = _
    rw [overL_len r]
    simp

theorem overL_get : ∀ (vs : List Value) (o : Nat) (xs : List Value) (t : Nat), o + vs.length ≤ xs.length → (overL xs o vs)[t]? = if o ≤ t ∧ t < o + vs.length then vs[t - o]? else xs[t]?
  | [], o, xs, t, _ => by
    rw [if_neg (by simp)]
    rfl
  | v :: r, o, xs, t, h => by
    simp only [List.length_cons] at h
    show (overL (xs.set o v) (o + 1) r)[t]? = _
    rw [overL_get r (o + 1) (xs.set o v) t (by rw [List.length_set]; omega)]
    by_cases h1 : t = o
    · subst h1
      rw [if_neg (by omega), if_pos (by simp), List.getElem?_set_self (by omega)]
      simp
    · by_cases h2 : o + 1 ≤ t ∧ t < o + 1 + r.length
      · rw [if_pos h2, if_pos (by simp; omega), show t - o = (t - (o + 1)) + 1 by omega, List.getElem?_cons_succ]
      · rw [if_neg h2, if_neg (by simp; omega), List.getElem?_set_ne (by omega)]

/-- A row cut short. -/
theorem own_short {W : World} {base g n m cap : Nat} {e : TypeId} {size : Nat} {xs : List Value} (h : W.ownsRow base e size (.slice (some ⟨g, 0, none⟩) n cap) n xs) (hm : m ≤ n) :
    W.ownsRow base e size (.slice (some ⟨g, 0, none⟩) m cap) m (xs.take (m * size)) := by
  have hms : m * size ≤ n * size := Nat.mul_le_mul_right size hm
  obtain ⟨h1, ⟨h2, _⟩ | ⟨g', cap', cur, e1, e2, e3, e4, e5, e6, e7⟩⟩ := h
  · cases h2
  · cases e1
    refine ⟨by rw [List.length_take, h1]; omega, .inr ⟨g, cap, cur, rfl, e2, e3, by omega, e5, e6, ?_⟩⟩
    rw [← e7, List.take_take]
    congr 1
    omega

theorem grown_setCells (g : Nat) : ∀ (vs : List Value) (o : Nat) (W : World), W.grownBy (W.setCells g o vs) (some g)
  | [], _, _W => World.grownBy.refl _ _
  | v :: r, o, W => (grownBy_set W g o v).trans (grown_setCells g r (o + 1) _)

/-- What Delete leaves: the cells of the list without its k-th point. -/
theorem delete_cells {L : Pl} {k : Nat} (hk : k < L.length) (z : List Value) (hz : z.length = 2) :
    (overL (overL (ptCells L) (k * 2) (ptCells (L.drop (k + 1)))) ((L.length - 1) * 2) z).take ((L.length - 1) * 2) = ptCells (L.eraseIdx k) := by
  have l1 := ptCells_len L
  have l2 := ptCells_len (L.drop (k + 1))
  rw [List.length_drop] at l2
  have l3 := ptCells_len (L.take k)
  rw [List.length_take] at l3
  rw [← cut_one, ptCells_append]
  have e : ptCells L = ptCells (L.take (k + 1)) ++ ptCells (L.drop (k + 1)) := by rw [← ptCells_append, List.take_append_drop]
  have e2 : ptCells L = ptCells (L.take k) ++ ptCells (L.drop k) := by rw [← ptCells_append, List.take_append_drop]
  apply List.ext_getElem?
  intro t
  rw [List.getElem?_take]
  split
  · rename_i ht
    rw [overL_get _ _ _ _ (by rw [overL_len]; omega), if_neg (by omega), overL_get _ _ _ _ (by omega), l2]
    by_cases h1 : k * 2 ≤ t
    · rw [if_pos (by omega), List.getElem?_append_right (by omega), l3]
      congr 1
      omega
    · rw [if_neg (by omega), List.getElem?_append_left (by omega)]
      rw [e2, List.getElem?_append_left (by omega)]
  · rename_i ht
    rw [List.getElem?_eq_none]
    rw [List.length_append, l3, l2]
    omega

theorem own_some {W : World} {base g n cap c : Nat} {e : TypeId} {size : Nat} {xs : List Value} (h : W.ownsRow base e size (.slice (some ⟨g, 0, none⟩) n cap) n xs) (hc : c < n * size) : ∃ v, W.cell? ⟨g, c, none⟩ = some v := by
  have hl := h.1
  have := World.ownsRow.cells (g := g) h rfl c xs[c] (List.getElem?_eq_getElem (by omega))
  rw [Addr.add_lit, Nat.zero_add] at this
  exact ⟨_, this⟩

theorem t_zero23 (w : World) : (zeroValue 23).run Try.prog w = .ok (pt 0 0) w := by kernel_rfl

theorem run_clear_pt (w : World) (ty : TypeId) (g o c : Nat) {u0 u1 : Value} (x0 : w.cell? ⟨g, o, none⟩ = some u0) (x1 : w.cell? ⟨g, o + 1, none⟩ = some u1) (z0 : w.frozen? ⟨g, o, none⟩ = false) (z1 : w.frozen? ⟨g, o + 1, none⟩ = false) :
    (Builtin.clear_ #[32] ty #[.slice (some ⟨g, o, none⟩) 1 c]).run Try.prog w = .ok (.tuple #[]) (w.setCells g o [.int .i64 0, .int .i64 0]) := by
  have hst := run_storeCells_cells (P := Try.prog) g o [.int .i64 0, .int .i64 0] 0 w
    (by intro j hj
        rcases j with _ | _ | j
        · simp [x0]
        · simp [x1]
        · simp at hj; omega)
    (by intro j hj
        rcases j with _ | _ | j
        · simpa using z0
        · simpa using z1
        · simp at hj; omega)
    (by intro v hv; simp at hv; subst hv; rfl)
  simp only [Nat.add_zero] at hst
  have e : List.map (fun i => (pt 0 0).cells[i % (pt 0 0).cells.size]!) (List.range (pt 0 0).cells.size) = [.int .i64 0, .int .i64 0] := by kernel_rfl
  simp [Builtin.clear_, Builtin.zeroCells, run_underlying Try.underlying32]
  rw [e, hst]
  rfl

set_option maxRecDepth 100000 in
set_option maxHeartbeats 4000000 in
theorem delete_any (base g cap k : Nat) (L : Pl) (hs2 : L.length ≤ 1000000) (hk : k < L.length) (w : World) (ho : w.ownsRow base 23 2 (.slice (some ⟨g, 0, none⟩) L.length cap) L.length (ptCells L)) :
    Calls Try.prog 135 #[.slice (some ⟨g, 0, none⟩) L.length cap, .int .i64 k, .int .i64 ((k : Int) + 1)] w fun e w' => e = .returned (.slice (some ⟨g, 0, none⟩) (L.length - 1) cap) ∧
      w'.ownsRow base 23 2 (.slice (some ⟨g, 0, none⟩) (L.length - 1) cap) (L.length - 1) (ptCells (L.eraseIdx k)) ∧ w.grownBy w' (some g) := by
  obtain ⟨i0, hi, hz0, hz1, hz2⟩ := info_parts info23
  obtain ⟨hcap, hmax⟩ : L.length ≤ cap ∧ cap ≤ maxLen := by
    obtain ⟨h1, ⟨h2, _⟩ | ⟨g', cap', cur, e1, e2, e3, e4, e5, e6, e7⟩⟩ := ho
    · cases h2
    · cases e1
      exact ⟨e4, e5⟩
  have HD := Lib.hid (delete_cells hk [.int .i64 0, .int .i64 0] rfl)
  have hnl : (ptCells (L.drop (k + 1))).length = (L.length - 1 - k) * 2 := by rw [ptCells_len, List.length_drop]; omega
  have od := owns_drew 1 ho
  have P0 : PtsAt w.drew g 0 L := fun j hj => by rw [Nat.zero_add]; exact own_pts od j hj
  have hA : ∃ A : Addr, (if cap = k + 1 then some (⟨g, 0, none⟩ : Addr) else some ⟨g, (k + 1) * 2, none⟩) = some A ∧ Hid (∀ t u, (ptCells (L.drop (k + 1)))[t]? = some u → w.drew.cell? (A.add t) = some u) := by
    by_cases h : cap = k + 1
    · refine ⟨⟨g, 0, none⟩, by simp [h], Lib.hid (fun t u hu => ?_)⟩
      have h0 : L.drop (k + 1) = [] := List.drop_eq_nil_of_le (by omega)
      rw [h0] at hu
      cases hu
    · refine ⟨⟨g, (k + 1) * 2, none⟩, by simp [h], Lib.hid ?_⟩
      have := pts_cells (pts_drop P0 (k + 1))
      rwa [Nat.zero_add] at this
  obtain ⟨A, hA1, hA2⟩ := hA
  have H1 := Lib.hid (ptCells_one (L.drop (k + 1)))
  have hsp : Hid (∀ j, j < (ptCells (L.drop (k + 1))).length → (w.drew.cell? ⟨g, 0 + k * 2 + j, none⟩).isSome = true ∧ w.drew.frozen? ⟨g, 0 + k * 2 + j, none⟩ = false) := Lib.hid (fun j hj => by
    rw [hnl] at hj
    obtain ⟨v, hv⟩ := own_some od (c := 0 + k * 2 + j) (by omega)
    exact ⟨by rw [show w.drew.cell? ⟨g, 0 + k * 2 + j, none⟩ = some v from hv]; rfl, own_frozen od⟩)
  have o1 := own_setCells (ptCells (L.drop (k + 1))) (k * 2) _ _ od (by rw [hnl]; omega)
  have g1 := (grown_drew (World.grownBy.refl w (some g))).trans (grown_setCells g (ptCells (L.drop (k + 1))) (k * 2) (w.drewN 1))
  obtain ⟨news, hnews⟩ : ∃ news, ptCells (L.drop (k + 1)) = news := ⟨_, rfl⟩
  rw [hnews] at hnl hA2 H1 hsp o1 g1 HD
  have HNL := Lib.hid hnl
  clear hnews hnl od P0 ho
  obtain ⟨n, hn⟩ : ∃ n, L.length = n := ⟨_, rfl⟩
  rw [hn] at hk hcap hs2 o1 HD HNL ⊢
  obtain ⟨xs, hxs⟩ : ∃ xs, overL (ptCells L) (k * 2) news = xs := ⟨_, rfl⟩
  rw [hxs] at o1 HD
  clear hn hxs
  obtain ⟨W1, hW1⟩ : ∃ W1, (w.drewN 1).setCells g (k * 2) news = W1 := ⟨_, rfl⟩
  rw [hW1] at o1 g1
  have HW1 : Hid (w.drew.setCells g (0 + k * 2) news = W1) := Lib.hid (by rw [Nat.zero_add]; exact hW1)
  clear hW1
  obtain ⟨u0, x0⟩ := own_some o1 (c := (n - 1) * 2) (by omega)
  obtain ⟨u1, x1⟩ := own_some o1 (c := (n - 1) * 2 + 1) (by omega)
  have z0 := own_frozen (c := (n - 1) * 2) o1
  have z1 := own_frozen (c := (n - 1) * 2 + 1) o1
  have O2 := Lib.hid (own_short (own_setCells [.int .i64 0, .int .i64 0] ((n - 1) * 2) _ _ o1 (by simp; omega)) (show n - 1 ≤ n by omega))
  have G2 := Lib.hid (g1.trans (grown_setCells g [.int .i64 0, .int .i64 0] ((n - 1) * 2) W1))
  rw [HD.out] at O2
  clear o1 g1 HD
  have j0 : ¬ (k : Int) = (k : Int) + 1 := by omega
  have j1 : (k : Int) ≤ (k : Int) + 1 := by omega
  have j2 : (k : Int) + 1 ≤ (n : Int) := by omega
  have j3 : (n : Int) ≤ (cap : Int) := by omega
  have j4 : (k : Int) ≤ (cap : Int) := by omega
  have j5 : (k : Int) + 1 ≤ (cap : Int) := by omega
  have j6 : (0 : Int) ≤ (k : Int) + 1 := by omega
  have e9 : k + (n - 1 - k) = n - 1 := by omega
  have e8 : n - (k + 1) = n - 1 - k := by omega
  have e7 : ¬ cap = n - 1 := by omega
  go_enter Try.func135, Try.ntmps135
  go_wp2_with fail
  go_region_law (refine step_append_room rfl (.tmp 22) (.tmp 25) 32 rfl 23 i0 2 Try.underlying32 hi hz1 g 0 k cap (by simp [Act.eval, Act.put]) A (n - 1 - k) (cap - (k + 1)) news (by simp [Act.eval, Act.put]) HNL.out hA2.out H1.out (by omega) hsp.out ?_; rw [HW1.out])
  have e6 : n - (n - 1) = 1 := by omega
  have j7 : ((n - 1 : Nat) : Int) ≤ (n : Int) := by omega
  have j8 : ((n - 1 : Nat) : Int) ≤ (cap : Int) := by omega
  have RC := fun ty => run_clear_pt W1 ty g ((n - 1) * 2) (cap - (n - 1)) x0 x1 z0 z1
  clear x0 x1 z0 z1
  go_wp2
  go_ret
  exact ⟨rfl, O2.out, G2.out⟩

end Go.Proofs.Ytlocdadkhdcedaa

/- Walks: leaveOut. -/
namespace Go.Proofs.Ytlocdadkhdcedaa
open Go Go.RowKit Go.Proofs Go.Abs Go.Plain

def lenV : Value → Nat
  | .slice _ n _ => n
  | _ => 0

theorem AllSm.erase {L : Pl} (h : AllSm L) (i : Nat) : AllSm (L.eraseIdx i) := fun j => by
  have e := px_erase (A := L) (i := i) (j := j)
  rw [e.1, e.2]
  exact h _

theorem own_blt {W : World} {base g n cap : Nat} {e : TypeId} {size : Nat} {xs : List Value} (h : W.ownsRow base e size (.slice (some ⟨g, 0, none⟩) n cap) n xs) : g < W.heap.size := by
  obtain ⟨h1, ⟨h2, _⟩ | ⟨g', cap', cur, e1, e2, e3, e4, e5, e6, e7⟩⟩ := h
  · cases h2
  · cases e1
    exact (Array.getElem?_eq_some_iff.1 e3).1

theorem leaveRep_spec (M : Pl) : (∃ k : Nat, firstR (px M) (py M) M.length = (k : Nat) ∧ FirstAt repK M k) ∨ (firstR (px M) (py M) M.length = -1 ∧ ∀ j, j < M.length → repK M j = false) := by
  unfold firstR
  cases h : (List.range M.length).find? (repX (px M) (py M) M.length) with
  | none =>
    refine .inr ⟨rfl, fun j hj => ?_⟩
    have := List.find?_eq_none.1 h j (List.mem_range.2 hj)
    show repX (px M) (py M) M.length j = false
    simpa using this
  | some k =>
    obtain ⟨h1, i, hi, he, hb⟩ := List.find?_eq_some_iff_getElem.1 h
    simp only [List.getElem_range] at he hb
    subst he
    refine .inl ⟨i, rfl, by simpa using hi, h1, fun j hj => ?_⟩
    have := hb j hj
    show repX (px M) (py M) M.length j = false
    simpa using this

set_option maxRecDepth 100000 in
set_option maxHeartbeats 4000000 in
theorem leaveRep_any (b off cap : Nat) (L : Pl) (hs : 0 < L.length) (hl : L.length ≤ 1000000) (hsm : AllSm L) (w : World) (hp : PtsAt w b off L) :
    Calls Try.prog 81 #[.slice (some ⟨b, off, none⟩) L.length cap, .func (.func 82) #[] #[]] w fun e w' => ∃ g c, e = .returned (.slice (some ⟨g, 0, none⟩) (leaveL repK L).length c) ∧
      w'.ownsRow w.heap.size 23 2 (.slice (some ⟨g, 0, none⟩) (leaveL repK L).length c) (leaveL repK L).length (ptCells (leaveL repK L)) ∧ AllSm (leaveL repK L) ∧ (leaveL repK L).length ≤ L.length ∧ Below w.heap.size w w' := by
  have CL := pclone_any b off cap L hs hl w hp
  have CF := fun (w' : World) (g c n : Nat) (M : Pl) (hn : M.length = n) (hle : n ≤ L.length) (hM : AllSm M) (ho : w'.ownsRow w.heap.size 23 2 (.slice (some ⟨g, 0, none⟩) n c) n (ptCells M)) =>
    firstRep_any g 0 n c (px M) (py M) (by omega) hM w' (fun k hk => own_at hn ho k (by omega)) (own_blt ho)
  go_enter Try.func81, Try.ntmps81
  go_wp2_with fail
  refine CL.mono ?_
  rintro e w1 ⟨v1, rfl, o1, b1⟩
  obtain ⟨g, c, rfl⟩ := own_slice o1 hs
  clear CL
  go_wp2_with fail
  refine (CF w1 g c L.length L rfl (Nat.le_refl _) hsm (own_low o1 (Nat.le_refl _))).mono ?_
  rintro e w2 ⟨rfl, b2⟩
  have b2' := keep_below b1 b2
  replace o1 := own_low (own_keep o1 b2) (Nat.le_refl w.heap.size)
  go_wp2_with fail
  clear b1 b2
  go_loopw [5, 6] (fun v i wr => ∃ (g c n : Nat) (M : Pl), v = .slice (some ⟨g, 0, none⟩) n c ∧ M.length = n ∧ wr.ownsRow w.heap.size 23 2 (.slice (some ⟨g, 0, none⟩) n c) n (ptCells M) ∧ i = .int .i64 (firstR (px M) (py M) n) ∧ leaveL repK L = leaveL repK M ∧ n ≤ L.length ∧ AllSm M ∧ Below w.heap.size w wr) (fun v _ _ => lenV v)
  case atStart => exact ⟨g, c, L.length, L, rfl, rfl, o1, rfl, rfl, Nat.le_refl _, hsm, b2'⟩
  case round =>
    clear o1 b2'
    obtain ⟨g, c, n, M, rfl, hn, hown, rfl, hE, hle, hM, hbel⟩ := hrel
    have hE := Lib.hid hE
    have hMs := Lib.hid hM
    clear hM
    rcases leaveRep_spec M with ⟨k, hk, hF⟩ | ⟨hk, hF⟩
    · rw [hn] at hk
      rw [hk]
      have hkn : k < n := by rw [← hn]; exact hF.1
      have HE2 := Lib.hid (hE.out.trans (leaveL_some hF))
      have hel : (M.eraseIdx k).length = n - 1 := by rw [List.length_eraseIdx_of_lt hF.1, hn]
      have CD := delete_any w.heap.size g c k M (by omega) hF.1 wr (by rw [hn]; exact hown)
      rw [hn] at CD
      have HCE := Lib.hid (hMs.out.erase k)
      clear hF hE hk
      have j0 : (0 : Int) ≤ (k : Int) := by omega
      have HO := Lib.hid (own_blt hown)
      have HCAP := Lib.hid (World.ownsRow.lt hown)
      go_wp2_with fail
      refine CD.mono ?_
      rintro e w3 ⟨rfl, o3, hg3⟩
      have hbel3 : Below w.heap.size w w3 := hbel.grown hg3 hbel.size (fun j e => (HCAP.out j e).1)
      clear CD hg3 hbel hown
      have CFk := CF w3 g c (n - 1) (M.eraseIdx k) hel (by omega) HCE.out o3
      go_wp2_with fail
      refine CFk.mono ?_
      rintro e w4 ⟨rfl, hb⟩
      have hbel4 := keep_below hbel3 hb
      have o4 := own_low (own_keep o3 hb) (Nat.le_refl w.heap.size)
      clear CFk hb hbel3 o3 HO HCAP
      go_wp2
      exact ⟨⟨g, c, n - 1, M.eraseIdx k, rfl, hel, o4, rfl, HE2.out, by omega, HCE.out, hbel4⟩, by simp [lenV]; omega⟩
    · rw [hn] at hk
      rw [hk]
      have HE2 := Lib.hid (hE.out.trans (leaveL_none hF))
      clear hF hE hk
      go_wp2
      go_ret
      rw [HE2.out, hn]
      exact ⟨g, c, rfl, hown, hMs.out, hle, hbel⟩

theorem leaveStr_spec (M : Pl) : (∃ k : Nat, firstS (px M) (py M) M.length = (k : Nat) ∧ FirstAt strL M k) ∨ (firstS (px M) (py M) M.length = -1 ∧ ∀ j, j < M.length → strL M j = false) := by
  unfold firstS
  cases h : (List.range M.length).find? (strK (px M) (py M) M.length) with
  | none =>
    refine .inr ⟨rfl, fun j hj => ?_⟩
    have := List.find?_eq_none.1 h j (List.mem_range.2 hj)
    show strK (px M) (py M) M.length j = false
    simpa using this
  | some k =>
    obtain ⟨h1, i, hi, he, hb⟩ := List.find?_eq_some_iff_getElem.1 h
    simp only [List.getElem_range] at he hb
    subst he
    refine .inl ⟨i, rfl, by simpa using hi, h1, fun j hj => ?_⟩
    have := hb j hj
    show strK (px M) (py M) M.length j = false
    simpa using this

set_option maxRecDepth 100000 in
set_option maxHeartbeats 4000000 in
theorem leaveStr_any (b off cap : Nat) (L : Pl) (hs : 0 < L.length) (hl : L.length ≤ 1000000) (hsm : AllSm L) (w : World) (hp : PtsAt w b off L) :
    Calls Try.prog 81 #[.slice (some ⟨b, off, none⟩) L.length cap, .func (.func 83) #[] #[]] w fun e w' => ∃ g c, e = .returned (.slice (some ⟨g, 0, none⟩) (leaveL strL L).length c) ∧
      w'.ownsRow w.heap.size 23 2 (.slice (some ⟨g, 0, none⟩) (leaveL strL L).length c) (leaveL strL L).length (ptCells (leaveL strL L)) ∧ AllSm (leaveL strL L) ∧ (leaveL strL L).length ≤ L.length ∧ Below w.heap.size w w' := by
  have CL := pclone_any b off cap L hs hl w hp
  have CF := fun (w' : World) (g c n : Nat) (M : Pl) (hn : M.length = n) (hle : n ≤ L.length) (hM : AllSm M) (ho : w'.ownsRow w.heap.size 23 2 (.slice (some ⟨g, 0, none⟩) n c) n (ptCells M)) =>
    first_any g 0 n c (px M) (py M) (by omega) hM w' (fun k hk => own_at hn ho k (by omega)) (own_blt ho)
  go_enter Try.func81, Try.ntmps81
  go_wp2_with fail
  refine CL.mono ?_
  rintro e w1 ⟨v1, rfl, o1, b1⟩
  obtain ⟨g, c, rfl⟩ := own_slice o1 hs
  clear CL
  go_wp2_with fail
  refine (CF w1 g c L.length L rfl (Nat.le_refl _) hsm (own_low o1 (Nat.le_refl _))).mono ?_
  rintro e w2 ⟨rfl, b2⟩
  have b2' := keep_below b1 b2
  replace o1 := own_low (own_keep o1 b2) (Nat.le_refl w.heap.size)
  go_wp2_with fail
  clear b1 b2
  go_loopw [5, 6] (fun v i wr => ∃ (g c n : Nat) (M : Pl), v = .slice (some ⟨g, 0, none⟩) n c ∧ M.length = n ∧ wr.ownsRow w.heap.size 23 2 (.slice (some ⟨g, 0, none⟩) n c) n (ptCells M) ∧ i = .int .i64 (firstS (px M) (py M) n) ∧ leaveL strL L = leaveL strL M ∧ n ≤ L.length ∧ AllSm M ∧ Below w.heap.size w wr) (fun v _ _ => lenV v)
  case atStart => exact ⟨g, c, L.length, L, rfl, rfl, o1, rfl, rfl, Nat.le_refl _, hsm, b2'⟩
  case round =>
    clear o1 b2'
    obtain ⟨g, c, n, M, rfl, hn, hown, rfl, hE, hle, hM, hbel⟩ := hrel
    have hE := Lib.hid hE
    have hMs := Lib.hid hM
    clear hM
    rcases leaveStr_spec M with ⟨k, hk, hF⟩ | ⟨hk, hF⟩
    · rw [hn] at hk
      rw [hk]
      have hkn : k < n := by rw [← hn]; exact hF.1
      have HE2 := Lib.hid (hE.out.trans (leaveL_some hF))
      have hel : (M.eraseIdx k).length = n - 1 := by rw [List.length_eraseIdx_of_lt hF.1, hn]
      have CD := delete_any w.heap.size g c k M (by omega) hF.1 wr (by rw [hn]; exact hown)
      rw [hn] at CD
      have HCE := Lib.hid (hMs.out.erase k)
      clear hF hE hk
      have j0 : (0 : Int) ≤ (k : Int) := by omega
      have HO := Lib.hid (own_blt hown)
      have HCAP := Lib.hid (World.ownsRow.lt hown)
      go_wp2_with fail
      refine CD.mono ?_
      rintro e w3 ⟨rfl, o3, hg3⟩
      have hbel3 : Below w.heap.size w w3 := hbel.grown hg3 hbel.size (fun j e => (HCAP.out j e).1)
      clear CD hg3 hbel hown
      have CFk := CF w3 g c (n - 1) (M.eraseIdx k) hel (by omega) HCE.out o3
      go_wp2_with fail
      refine CFk.mono ?_
      rintro e w4 ⟨rfl, hb⟩
      have hbel4 := keep_below hbel3 hb
      have o4 := own_low (own_keep o3 hb) (Nat.le_refl w.heap.size)
      clear CFk hb hbel3 o3 HO HCAP
      go_wp2
      exact ⟨⟨g, c, n - 1, M.eraseIdx k, rfl, hel, o4, rfl, HE2.out, by omega, HCE.out, hbel4⟩, by simp [lenV]; omega⟩
    · rw [hn] at hk
      rw [hk]
      have HE2 := Lib.hid (hE.out.trans (leaveL_none hF))
      clear hF hE hk
      go_wp2
      go_ret
      rw [HE2.out, hn]
      exact ⟨g, c, rfl, hown, hMs.out, hle, hbel⟩

end Go.Proofs.Ytlocdadkhdcedaa
