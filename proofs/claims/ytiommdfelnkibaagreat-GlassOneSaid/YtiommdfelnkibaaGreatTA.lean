/- The abstract machine, part TA. -/
import Derived.Test.YtiommdfelnkibaaGreatSA
import Derived.Test.YtiommdfelnkibaaGreatRK
import Derived.Test.YtiommdfelnkibaaGreatSJ
/- GlassOne, plain: alike is symmetric under the inverse setting; what the merged piece fits, both fit. -/
namespace Go.Proofs.YtiommdfelnkibaaGreat
open Go Go.RowKit Go.Proofs Go.Abs

/-- The inverse's place. -/
def iv (n s : Nat) (b : Bool) : Nat := if b then s else if s = 0 then 0 else n - s
theorem iv_lt {n s : Nat} {b : Bool} (hs : s < n) : iv n s b < n := by unfold iv; (repeat' split) <;> omega
theorem iv_iv {n s : Nat} {b : Bool} (hs : s < n) : iv n (iv n s b) b = s := by unfold iv; (repeat' split) <;> omega
theorem iv_int {n s : Nat} {b : Bool} (hs : s < n) : (iv n s b : Int) = Plain.inv s b n := by unfold iv Plain.inv; (repeat' split) <;> omega

theorem mem_all {k s : Nat} {b : Bool} : (s, b) ∈ allS k ↔ s < k := by
  unfold allS
  rw [List.mem_flatMap]
  constructor
  · rintro ⟨x, hx, hm⟩
    have := List.mem_range.1 hx
    simp at hm
    rcases hm with ⟨rfl, _⟩ | ⟨rfl, _⟩ <;> exact this
  · intro h
    exact ⟨s, List.mem_range.2 h, by cases b <;> simp⟩

theorem nodup_all (k : Nat) : (allS k).Nodup := by
  induction k with
  | zero => exact List.nodup_nil
  | succ k ih =>
    rw [allS_succ, List.nodup_append]
    refine ⟨ih, by simp, fun a ha b hb => ?_⟩
    rintro rfl
    have h1 : a.1 < k := mem_all.1 (show (a.1, a.2) ∈ allS k from ha)
    simp at hb
    rcases hb with rfl | rfl <;> simp at h1

theorem len_le_of_sub {α : Type} [DecidableEq α] : ∀ {l m : List α}, l.Nodup → (∀ x ∈ l, x ∈ m) → l.length ≤ m.length
  | [], _, _, _ => Nat.zero_le _
  | a :: l, m, hn, hs => by
    rw [List.nodup_cons] at hn
    have ha := hs a (by simp)
    have := len_le_of_sub (l := l) (m := m.erase a) hn.2 (fun x hx => (List.mem_erase_of_ne (fun e => hn.1 (by rw [← e]; exact hx))).2 (hs x (by simp [hx])))
    rw [List.length_erase_of_mem ha] at this
    have hp := List.length_pos_of_mem ha
    simp only [List.length_cons]
    omega

theorem cmpG_iff {g h : G5} : cmpG g h = true ↔ max g.a h.a ≤ min g.b h.b ∧ max g.c h.c ≤ min g.d h.d ∧ (g.e = h.e ∨ g.e = 0 ∨ h.e = 0) := by
  unfold cmpG
  simp only [Bool.and_eq_true, Bool.or_eq_true, decide_eq_true_eq, beq_iff_eq]

theorem okG_iff {g : G5} : g.ok = true ↔ 0 < g.a ∧ g.a ≤ g.b ∧ g.b ≤ 33554432 ∧ 0 ≤ g.c ∧ g.c ≤ g.d ∧ g.d ≤ 33554432 ∧ -1 ≤ g.e ∧ g.e ≤ 1 := by
  unfold G5.ok vG wi
  simp only [Bool.and_eq_true, decide_eq_true_eq, and_assoc]

theorem cmpG_self {g : G5} (h : g.ok = true) : cmpG g g = true := by
  rw [okG_iff] at h
  rw [cmpG_iff]
  omega

theorem cmpG_comm (g h : G5) : cmpG g h = cmpG h g := by
  rw [Bool.eq_iff_iff, cmpG_iff, cmpG_iff]
  omega

theorem cmpG_mix {g h k l : G5} (h1 : cmpG g h = true) (h2 : cmpG k l = true) : cmpG ⟨g.a, g.b, k.c, k.d, k.e⟩ ⟨h.a, h.b, l.c, l.d, l.e⟩ = true := by
  rw [cmpG_iff] at h1 h2 ⊢
  exact ⟨h1.1, h2.2⟩

theorem comG_ok {g h : G5} (h1 : g.ok = true) (h2 : h.ok = true) (hc : cmpG g h = true) : (comG g h).ok = true := by
  rw [okG_iff] at h1 h2 ⊢
  rw [cmpG_iff] at hc
  unfold comG
  refine ⟨?_, ?_, ?_, ?_, ?_, ?_, ?_, ?_⟩ <;> dsimp only <;> first | omega | (split <;> omega)

theorem okM_com {g h : G5} {a b c : Int} (hc : cmpG g h = true) (ho : okM (comG g h) a b c = true) : okM g a b c = true ∧ okM h a b c = true := by
  rw [cmpG_iff] at hc
  unfold okM comG wi at *
  simp only [Bool.and_eq_true, Bool.or_eq_true, decide_eq_true_eq] at ho ⊢
  split at ho <;> omega

theorem cmpL_iff {G H : List G5} : cmpL G H = true ↔ G.length = H.length ∧ ∀ k, k < G.length → cmpG (gz G k) (gz H k) = true := by
  unfold cmpL
  rw [Bool.and_eq_true, decide_eq_true_eq, List.all_eq_true]
  exact ⟨fun h => ⟨h.1, fun k hk => h.2 k (List.mem_range.2 hk)⟩, fun h => ⟨h.1, fun k hk => h.2 k (List.mem_range.1 hk)⟩⟩

theorem cmpL_self {G : List G5} (h : ∀ k, k < G.length → (gz G k).ok = true) : cmpL G G = true :=
  cmpL_iff.2 ⟨rfl, fun k hk => cmpG_self (h k hk)⟩

theorem cmpL_comm (G H : List G5) : cmpL G H = cmpL H G := by
  rw [Bool.eq_iff_iff, cmpL_iff, cmpL_iff]
  constructor <;> exact fun h => ⟨h.1.symm, fun k hk => by rw [cmpG_comm]; exact h.2 k (by omega)⟩

theorem cmp_lay {G H : List G5} {n s x : Nat} (b : Bool) (h : cmpL G H = true) (hn : G.length = n) (hs : s < n) (hx : x < n) : cmpG (lay G n s b x) (lay H n s b x) = true := by
  rw [cmpL_iff, hn] at h
  unfold lay
  split
  · exact cmpG_mix (h.2 _ (kb_lt hs hx)) (h.2 _ (pr_lt (kb_lt hs hx)))
  · exact h.2 _ (kf_lt hs hx)

theorem cmpL_lay {G H : List G5} {n s : Nat} (b : Bool) (h : cmpL G H = true) (hn : G.length = n) (hs : s < n) : cmpL (layL G n s b) (layL H n s b) = true := by
  rw [cmpL_iff, layL_len, layL_len]
  refine ⟨rfl, fun x hx => ?_⟩
  rw [layL_gz G b hx, layL_gz H b hx]
  exact cmp_lay b h hn hs hx

theorem alk_iff {r q : PcD} : alk r q = true ↔ r.c = q.c ∧ r.r = q.r ∧ r.m = q.m ∧ r.s = q.s ∧ r.M = q.M ∧ cmpL r.G q.G = true := by
  unfold alk
  simp only [Bool.and_eq_true, beq_iff_eq, eqM_iff]

theorem alk_comm (r q : PcD) : alk r q = alk q r := by
  rw [Bool.eq_iff_iff, alk_iff, alk_iff, cmpL_comm]
  constructor <;> exact fun ⟨a, b, c, d, e, f⟩ => ⟨a.symm, b.symm, c.symm, d.symm, e.symm, f⟩

theorem alk_rs {r q : PcD} {s : Nat} (b : Bool) (h : alk r q = true) (hs : s < r.G.length) : alk (rsD r s b) (rsD q s b) = true := by
  rw [alk_iff] at h ⊢
  obtain ⟨h1, h2, h3, h4, h5, h6⟩ := h
  have hl : q.G.length = r.G.length := (cmpL_iff.1 h6).1.symm
  unfold rsD
  dsimp only
  rw [hl, ← h5, h1, h2]
  exact ⟨rfl, rfl, h3, h4, rfl, cmpL_lay b h6 rfl hs⟩

theorem alk_self {p : PcD} (h : p.ok = true) : alk (rsD p 0 false) p = true := by
  rw [rsD_zero h, alk_iff]
  exact ⟨rfl, rfl, rfl, rfl, rfl, cmpL_self ((vGs_iff _).1 (ok_parts h).2.1).2⟩

theorem ld_inv {n s : Nat} (b : Bool) (hs : s < n) : ld n (iv n s b) b s = 0 := by
  unfold ld iv kb fw
  cases b
  · simp only [Bool.false_eq_true, if_false]
    (repeat' split) <;> omega
  · simp only [if_true]
    (repeat' split) <;> omega

theorem alk_inv {p q : PcD} {s : Nat} {b : Bool} (hp : p.ok = true) (hs : s < p.G.length) (h : alk (rsD p s b) q = true) : alk (rsD q (iv p.G.length s b) b) p = true := by
  have := alk_rs (s := iv p.G.length s b) b h (by rw [rsD_len]; exact iv_lt hs)
  rw [rsD_rsD b b hp hs (iv_lt hs), ld_inv b hs, show (b != b) = false by cases b <;> rfl, rsD_zero hp, alk_comm] at this
  exact this

theorem mem_agS {p q : PcD} {s : Nat} {b : Bool} : (s, b) ∈ agS p q ↔ p.ok = true ∧ q.ok = true ∧ s < p.G.length ∧ alk (rsD p s b) q = true := by
  unfold agS
  split
  · rename_i h
    rw [List.mem_filter, mem_all]
    exact ⟨fun k => ⟨h.1, h.2, k⟩, fun k => k.2.2⟩
  · rename_i h
    constructor
    · intro k; simp at k
    · exact fun k => absurd ⟨k.1, k.2.1⟩ h

theorem agS_glen {p q : PcD} {s : Nat} {b : Bool} (h : (s, b) ∈ agS p q) : p.G.length = q.G.length := by
  have := alk_len (mem_agS.1 h).2.2.2
  rwa [rsD_len] at this

theorem agS_inv {p q : PcD} {s : Nat} {b : Bool} (h : (s, b) ∈ agS p q) : (iv p.G.length s b, b) ∈ agS q p := by
  have hl := agS_glen h
  rw [mem_agS] at h ⊢
  exact ⟨h.2.1, h.1, by rw [← hl]; exact iv_lt h.2.2.1, alk_inv h.1 h.2.2.1 h.2.2.2⟩

theorem agS_self {p : PcD} (h : p.ok = true) : (0, false) ∈ agS p p :=
  mem_agS.2 ⟨h, h, by have := (ok_parts h).1; omega, alk_self h⟩

theorem nodup_agS (p q : PcD) : (agS p q).Nodup := by
  unfold agS
  split
  · exact (nodup_all _).filter _
  · exact List.nodup_nil

theorem agS_len_le (p q : PcD) : (agS p q).length ≤ (agS q p).length := by
  have h1 : ((agS p q).map fun x => (iv p.G.length x.1 x.2, x.2)).Nodup := by
    refine List.pairwise_map.2 ((nodup_agS p q).imp_of_mem ?_)
    rintro ⟨s, b⟩ ⟨t, c⟩ hs ht hne he
    simp only [Prod.mk.injEq] at he
    obtain ⟨e1, rfl⟩ := he
    have hs2 := (mem_agS.1 hs).2.2.1
    have ht2 := (mem_agS.1 ht).2.2.1
    have := congrArg (fun x => iv p.G.length x b) e1
    simp only [iv_iv hs2, iv_iv ht2] at this
    exact hne (by rw [this])
  have h2 := len_le_of_sub h1 (m := agS q p) (by
    intro x hx
    obtain ⟨⟨s, b⟩, hm, rfl⟩ := List.mem_map.1 hx
    exact agS_inv hm)
  simpa using h2

theorem agS_len_eq (p q : PcD) : (agS p q).length = (agS q p).length := Nat.le_antisymm (agS_len_le p q) (agS_len_le q p)

theorem lay_com {G H : List G5} {n s x : Nat} (b : Bool) (hs : s < n) (hx : x < n) : lay (comL G H n) n s b x = comG (lay G n s b x) (lay H n s b x) := by
  unfold lay
  split
  · rw [comL_gz G H (kb_lt hs hx), comL_gz G H (pr_lt (kb_lt hs hx))]
    rfl
  · rw [comL_gz G H (kf_lt hs hx)]

theorem fit_com {G H : List G5} {L : List (Int × Int)} {n t : Nat} (c : Bool) (hc : cmpL G H = true) (hn : G.length = n) (ht : t < n) (hf : fitP (comL G H n) L n t c = true) :
    fitP G L n t c = true ∧ fitP H L n t c = true := by
  unfold fitP at *
  rw [List.all_eq_true] at hf ⊢
  rw [List.all_eq_true]
  have : ∀ x, x ∈ List.range n → okM (lay G n t c x) (m1 L x) (m2 L x) (m3 L x) = true ∧ okM (lay H n t c x) (m1 L x) (m2 L x) (m3 L x) = true := fun x hx => by
    have hx' := List.mem_range.1 hx
    have := hf x hx
    rw [lay_com c ht hx'] at this
    exact okM_com (cmp_lay c hc hn ht hx') this
  exact ⟨fun x hx => (this x hx).1, fun x hx => (this x hx).2⟩

/-- Whatever the merged piece fits, both fit. -/
theorem both_fit {p q : PcD} {s t : Nat} {b c : Bool} {L : List (Int × Int)} (h : (s, b) ∈ agS p q) (ht : t < p.G.length) (hf : fitP (mgD (rsD p s b) q).G L p.G.length t c = true) :
    fitP p.G L p.G.length (ld p.G.length t c s) (b != c) = true ∧ fitP q.G L p.G.length t c = true := by
  have hl := agS_glen h
  obtain ⟨_, _, hs, ha⟩ := mem_agS.1 h
  have hc := (alk_iff.1 ha).2.2.2.2.2
  have hf' : fitP (comL (layL p.G p.G.length s b) q.G p.G.length) L p.G.length t c = true := by
    rw [hl] at hf ⊢
    exact (by rw [← hl] at hf ⊢; simpa only [mgD, rsD, hl] using hf)
  have := fit_com c hc (layL_len _ _ _ _) ht hf'
  exact ⟨by rw [← fit_lay p.G L b c hs ht]; exact this.1, this.2⟩

theorem mgD_ok {r q : PcD} (hr : r.ok = true) (hq : q.ok = true) (ha : alk r q = true) : (mgD r q).ok = true := by
  have hc := cmpL_iff.1 (alk_iff.1 ha).2.2.2.2.2
  have gr := (vGs_iff _).1 (ok_parts hr).2.1
  have gq := (vGs_iff _).1 (ok_parts hq).2.1
  have g2 : vGs (comL r.G q.G q.G.length) = true := by
    rw [vGs_iff, comL_len]
    refine ⟨gq.1, fun k hk => ?_⟩
    rw [comL_gz _ _ hk]
    exact comG_ok (gr.2 k (by omega)) (gq.2 k hk) (hc.2 k (by omega))
  unfold PcD.ok vP mgD at *
  rw [comL_len]
  simp only [Bool.and_eq_true] at hq ⊢
  exact ⟨⟨hq.1.1, g2⟩, hq.2⟩

end Go.Proofs.YtiommdfelnkibaaGreat

/- Walks: law 9 (GlassOne), where a piece or the outline isn't valid. -/
namespace Go.Proofs.YtiommdfelnkibaaGreat
open Go Go.RowKit Go.Proofs Go.Abs

theorem pcs2_w (w : World) (P Q : Obj) :
    ((w.alloc P).alloc Q).heap[w.heap.size]? = some P ∧ ((w.alloc P).alloc Q).heap[w.heap.size + 1]? = some Q ∧ Below w.heap.size w ((w.alloc P).alloc Q) := by
  refine ⟨?_, ?_, (((Below.refl _ _).alloc (Nat.le_refl _) _).alloc (by simp) _)⟩
  · exact (alloc_heap_old _ _ (by simp)).trans (alloc_heap_new _ _)
  · have := alloc_heap_new (w.alloc P) Q
    rwa [World.size_alloc] at this

set_option maxRecDepth 100000 in
set_option maxHeartbeats 16000000 in
theorem oneLaw_bad (p q : PcD) (pv : Value) (la : Option Addr) (ln lcap : Nat) (hpv : pv = .slice la ln lcap) (agp amp agq amq : Option Addr) (gcp mcp gcq mcq : Nat) (w : World) (fp fq fl : Bool) (hbad : (fp && fq && fl) = false)
    (HFp : Hid (∀ W, Below w.heap.size w W → Calls Tryz.prog 35 #[pcs p.id p.c p.r p.m p.s (.slice agp p.G.length gcp) (.slice amp p.M.length mcp)] W fun e w' => e = .returned (.bool fp) ∧ Below W.heap.size W w'))
    (HFq : Hid (∀ W, Below w.heap.size w W → Calls Tryz.prog 35 #[pcs q.id q.c q.r q.m q.s (.slice agq q.G.length gcq) (.slice amq q.M.length mcq)] W fun e w' => e = .returned (.bool fq) ∧ Below W.heap.size W w'))
    (HFl : Hid (∀ W, Below w.heap.size w W → Calls Tryz.prog 29 #[pv] W fun e w' => e = .returned (.bool fl) ∧ Below W.heap.size W w')) :
    Calls Tryz.prog 9 #[pcs p.id p.c p.r p.m p.s (.slice agp p.G.length gcp) (.slice amp p.M.length mcp), pcs q.id q.c q.r q.m q.s (.slice agq q.G.length gcq) (.slice amq q.M.length mcq), pv] w fun e w' => e = .returned (.bool true) ∧ Below w.heap.size w w' := by
  subst hpv
  obtain ⟨hp0, hq0, b0⟩ := pcs2_w w (pcsObj p.id p.c p.r p.m p.s (.slice agp p.G.length gcp) (.slice amp p.M.length mcp)) (pcsObj q.id q.c q.r q.m q.s (.slice agq q.G.length gcq) (.slice amq q.M.length mcq))
  go_enter Tryz.func9, Tryz.ntmps9
  go_upto_region 2 with (go_at_call 10; refine (awake_any _).mono ?_; rintro e w1 ⟨rfl, hb⟩)
  have b1 := keep_below b0 hb
  have hp := (hb.block w.heap.size (by simp; omega)).trans hp0
  have hq := (hb.block (w.heap.size + 1) (by simp)).trans hq0
  clear hp0 hq0 b0 hb
  obtain ⟨hp_0, hp_1, hp_2, hp_3, hp_4, hp_5, hp_6⟩ := And.intro (cell_of hp (k := 0) rfl) (And.intro (cell_of hp (k := 1) rfl) (And.intro (cell_of hp (k := 2) rfl) (And.intro (cell_of hp (k := 3) rfl) (And.intro (cell_of hp (k := 4) rfl) (And.intro (cell_of hp (k := 5) rfl) (cell_of hp (k := 6) rfl))))))
  obtain ⟨hq_0, hq_1, hq_2, hq_3, hq_4, hq_5, hq_6⟩ := And.intro (cell_of hq (k := 0) rfl) (And.intro (cell_of hq (k := 1) rfl) (And.intro (cell_of hq (k := 2) rfl) (And.intro (cell_of hq (k := 3) rfl) (And.intro (cell_of hq (k := 4) rfl) (And.intro (cell_of hq (k := 5) rfl) (cell_of hq (k := 6) rfl))))))
  cases fp <;> cases fq <;> cases fl
  case true.true.true => cases hbad
  all_goals clear hbad
  all_goals go_wp2_with (first
    | (go_at_call 35; with_reducible refine (HFp.out _ b1).mono ?_; rintro e w2 ⟨rfl, hb⟩
       have b1 := keep_below b1 hb
       replace hq_0 := keep_cell hb hq_0
       replace hq_1 := keep_cell hb hq_1
       replace hq_2 := keep_cell hb hq_2
       replace hq_3 := keep_cell hb hq_3
       replace hq_4 := keep_cell hb hq_4
       replace hq_5 := keep_cell hb hq_5
       replace hq_6 := keep_cell hb hq_6
       clear hb)
    | (go_at_call 35; with_reducible refine (HFq.out _ b1).mono ?_; rintro e w3 ⟨rfl, hb⟩
       have b1 := keep_below b1 hb
       clear hb)
    | (go_at_call 29; with_reducible refine (HFl.out _ b1).mono ?_; rintro e w4 ⟨rfl, hb⟩
       have b1 := keep_below b1 hb
       clear hb))
  all_goals go_ret
  all_goals exact ⟨rfl, b1⟩

end Go.Proofs.YtiommdfelnkibaaGreat

/- GlassOne, plain: what the law's calls answer, for every setting by which the pieces agree. -/
namespace Go.Proofs.YtiommdfelnkibaaGreat
open Go Go.RowKit Go.Proofs Go.Abs

set_option maxRecDepth 100000 in
set_option maxHeartbeats 4000000 in
theorem among_at {L : List (Nat × Bool)} {v : Value} (w : World) (h : SetAt w v L) (hl : L.length ≤ 1000) (s : Nat) (b : Bool) (hm : (s, b) ∈ L) :
    Calls Tryz.prog 34 #[v, st s b] w fun e w' => e = .returned (.bool true) ∧ Below w.heap.size w w' := by
  obtain ⟨g, cap, rfl, hr⟩ : ∃ g cap, v = .slice (some ⟨g, 0, none⟩) L.length cap ∧ RowS w g L := by
    rcases h with ⟨rfl, -⟩ | h
    · simp at hm
    · exact h
  obtain ⟨q, hq, hqe⟩ := List.getElem_of_mem hm
  have hx : ∀ i p, L[i]? = some p → w.cell? ⟨g, i * 2, none⟩ = some (.int .i64 p.1) ∧ w.cell? ⟨g, i * 2 + 1, none⟩ = some (.bool p.2) := fun i p hp => hr.cell hp
  have HX := Lib.hid hx
  have hqe' : L[q]? = some (s, b) := List.getElem?_eq_some_iff.2 ⟨hq, hqe⟩
  clear h hr hx hm hqe
  have n0 := st_new w s b
  have B0 : Below w.heap.size w (w.alloc (stObj s b)) := (Below.refl _ _).alloc (Nat.le_refl _) _
  obtain ⟨n, hn⟩ : ∃ n, L.length = n := ⟨_, rfl⟩
  have HLn := Lib.hid hn
  rw [hn] at hl hq ⊢
  clear hn
  go_enter Tryz.func34, Tryz.ntmps34
  go_wp2_with fail
  go_loopw [5] (fun i wr => ∃ k : Nat, k ≤ q ∧ i = .int .i64 k ∧ Below (w.alloc (stObj s b)).heap.size (w.alloc (stObj s b)) wr) (fun i _ => n - (intOf i).toNat)
  case atStart => exact ⟨0, Nat.zero_le _, rfl, Below.refl _ _⟩
  case round =>
    obtain ⟨k, hk, rfl, hbel⟩ := hrel
    have j1 : (k : Int) < (n : Int) := by omega
    obtain ⟨⟨t, c⟩, hp⟩ : ∃ p, L[k]? = some p := ⟨_, List.getElem?_eq_getElem (by rw [HLn.out]; omega)⟩
    have a0 := keep_cell2 (keep_below B0 hbel) (HX.out k _ hp).1
    have a1 := keep_cell2 (keep_below B0 hbel) (HX.out k _ hp).2
    have s0 := keep_cell2 hbel n0.1
    have s1 := keep_cell2 hbel n0.2
    have HK : Hid (k = q → t = s ∧ c = b) := Lib.hid (fun e => by
      subst e
      rw [hp] at hqe'
      simpa using hqe')
    have bel := keep_below B0 hbel
    clear hp
    go_wp2_with fail
    have G0 := grow_cell a0
    have G1 := grow_cell a1
    have G2 := grow_cell s0
    have G3 := grow_cell s1
    have hq := run_st_eql
    refine wp_region_grow (by kernel_rfl) (by kernel_rfl) ?_
    repeat (go_big_quiet_step (fail))
    refine wpQuiet_nil ?_
    rintro w4 ⟨z, hz⟩
    have hb : Below wr.heap.size wr w4 := by rw [hz]; exact z.b
    clear hz z G0 G1 G2 G3 a0 a1 s0 s1 hq
    have bel4 := keep_below bel hb
    replace hbel := keep_below hbel hb
    clear hb
    by_cases hts : t = s ∧ c = b
    · obtain ⟨rfl, rfl⟩ := hts
      go_wp2
      all_goals first
        | (exfalso; simp_all; done)
        | (go_ret; exact ⟨rfl, bel4⟩)
    · have hkq : k ≠ q := fun e => hts (HK.out e)
      have e1 : ((t : Int) == (s : Int) && c == b) = false := by
        rw [Bool.and_eq_false_iff]
        by_cases h : t = s
        · exact .inr (by simpa using fun h2 => hts ⟨h, h2⟩)
        · exact .inl (by simpa using fun h2 => h (by omega))
      rw [e1]
      clear e1 hts HK
      go_wp2
      exact ⟨⟨k + 1, by omega, by simp, hbel⟩, by simp [intOf]; omega⟩

/-- Merging by a setting of the list. -/
theorem agS_merge {p q : PcD} {s : Nat} {b : Bool} (h : (s, b) ∈ agS p q) :
    vset (s : Int) p.G.length = true ∧ mgE p q s b = 0 ∧ mgV p q s b = mgD (rsD p s b) q ∧ (mgD (rsD p s b) q).ok = true ∧ (mgD (rsD p s b) q).G.length = p.G.length := by
  obtain ⟨hp, hq, hs, ha⟩ := mem_agS.1 h
  have hv := vset_of (ok_parts hp).1 hs
  have e : ((s : Int)).toNat = s := rfl
  refine ⟨hv, ?_, ?_, mgD_ok (rsD_ok b hp hs) hq ha, ?_⟩
  · unfold mgE
    rw [if_pos ⟨hp, hq⟩, if_pos hv, e, if_pos ha]
  · unfold mgV
    rw [e, if_pos ⟨hp, hq, hv, ha⟩]
  · unfold mgD
    rw [comL_len]
    exact (agS_glen h).symm

/-- The back setting lies in the other list. -/
theorem agS_back {p q : PcD} {s : Nat} {b : Bool} (h : (s, b) ∈ agS p q) : Plain.inv s b (p.G.length : Nat) = (iv p.G.length s b : Nat) ∧ (iv p.G.length s b, b) ∈ agS q p :=
  ⟨(iv_int (mem_agS.1 h).2.2.1).symm, agS_inv h⟩

/-- What the merged piece fits by a setting, both fit. -/
theorem agS_fits {p q : PcD} {s t : Nat} {b c : Bool} {L : List (Int × Int)} (h : (s, b) ∈ agS p q) (hf : (t, c) ∈ setsV true (mgD (rsD p s b) q).G L) :
    vset (t : Int) p.G.length = true ∧ Plain.ed t c p.G.length s = (ld p.G.length t c s : Nat) ∧
    fitsV p.ok p.G L (ld p.G.length t c s : Nat) (b != c) = true ∧ fitsE p.ok p.G L (ld p.G.length t c s : Nat) = 0 ∧ fitsV q.ok q.G L t c = true ∧ fitsE q.ok q.G L t = 0 := by
  obtain ⟨hp, hq, hs, ha⟩ := mem_agS.1 h
  have hl := (agS_merge h).2.2.2.2
  have hg := agS_glen h
  unfold setsV at hf
  split at hf
  · rename_i hc
    obtain ⟨-, ho, hn⟩ := hc
    rw [List.mem_filter, mem_all, ← hn, hl] at hf
    obtain ⟨ht, hf⟩ := hf
    have hv := vset_of (ok_parts hp).1 ht
    have hw := vset_of (ok_parts hp).1 (ld_lt c ht hs)
    have hb := both_fit h ht hf
    have hL : L.length = p.G.length := by rw [← hn, hl]
    have e : ∀ k : Nat, ((k : Int)).toNat = k := fun k => rfl
    refine ⟨hv, ed_ld c ht hs, ?_, ?_, ?_, ?_⟩
    · unfold fitsV
      rw [hp, hw, ho, e, hL, hb.1, decide_eq_true rfl]
      rfl
    · unfold fitsE
      rw [if_pos hp, if_pos ⟨hw, ho⟩]
    · unfold fitsV
      rw [hq, ← hg, hv, ho, e, hL, hb.2, decide_eq_true rfl]
      rfl
    · unfold fitsE
      rw [if_pos hq, ← hg, if_pos ⟨hv, ho⟩]
  · simp at hf

end Go.Proofs.YtiommdfelnkibaaGreat
