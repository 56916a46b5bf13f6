/- Resetting, plain: twice is once by both; by the inverse it leads back; what is reset is valid. -/
import Derived.Test.YtkmcboincjohlaaGreatGrRC
import Derived.Test.YtkmcboincjohlaaGreatGrRF
namespace Go.Proofs.YtkmcboincjohlaaGreat
open Go Go.RowKit Go.Proofs

/-! ### gauges -/

set_option maxHeartbeats 2000000 in
theorem layL_lay (G : List G5) {n s t x : Nat} (b c : Bool) (hs : s < n) (ht : t < n) (hx : x < n) :
    lay (layL G n s b) n t c x = lay G n (ld n t c s) (b != c) x := by
  have hkf := kf_lt ht hx
  have hkb := kb_lt ht hx
  have hpb := pr_lt hkb
  cases c
  · have e : lay (layL G n s b) n t false x = lay G n s b (kf n t x) := by
      unfold lay; simp only [Bool.false_eq_true, if_false]; rw [layL_gz G b hkf]; rfl
    rw [e]
    cases b
    · have h1 : kf n s (kf n t x) = kf n (fw n t s) x := by unfold kf fw; (repeat' split) <;> omega
      unfold lay ld
      simp only [Bool.false_eq_true, if_false, bne_self_eq_false]
      rw [h1]
    · unfold lay ld
      simp only [Bool.false_eq_true, if_false, if_true, Bool.true_bne, Bool.not_false]
      have h1 : kb n s (kf n t x) = kb n (fw n t s) x := by unfold kb kf fw; (repeat' split) <;> omega
      rw [h1]
  · cases b
    · have h1 : kf n s (kb n t x) = kb n (kb n t s) x := by unfold kb kf; (repeat' split) <;> omega
      have h2 : kf n s (pr n (kb n t x)) = pr n (kb n (kb n t s) x) := by unfold pr kb kf; (repeat' split) <;> omega
      unfold lay
      simp only [if_true, Bool.false_bne]
      rw [layL_gz G false hkb, layL_gz G false hpb]
      unfold lay ld
      simp only [Bool.false_eq_true, if_false, if_true]
      rw [h1, h2]
    · have h1 : kb n s (kb n t x) = kf n (kb n t s) x := by unfold kb kf; (repeat' split) <;> omega
      have h2 : pr n (kb n s (pr n (kb n t x))) = kf n (kb n t s) x := by unfold pr kb kf; (repeat' split) <;> omega
      unfold lay
      simp only [if_true, bne_self_eq_false, Bool.false_eq_true, if_false]
      rw [layL_gz G true hkb, layL_gz G true hpb]
      unfold lay ld
      simp only [if_true]
      rw [h1, h2]

theorem list_gz {A B : List G5} (hl : A.length = B.length) (h : ∀ x, x < A.length → gz A x = gz B x) : A = B := by
  apply List.ext_getElem hl
  intro i h1 h2
  have := h i h1
  unfold gz at this
  simpa [List.getD_eq_getElem?_getD, h1, h2] using this

theorem layL_zero (G : List G5) {n : Nat} (hn : G.length = n) : layL G n 0 false = G := by
  refine list_gz (by rw [layL_len, hn]) (fun x hx => ?_)
  rw [layL_len] at hx
  rw [layL_gz G false hx]
  unfold lay kf
  simp

theorem vGs_iff (G : List G5) : vGs G = true ↔ (3 ≤ G.length ∧ G.length ≤ 24) ∧ ∀ k, k < G.length → (gz G k).ok = true := by
  unfold vGs badG wi
  simp only [Bool.and_eq_true, decide_eq_true_eq, Bool.not_eq_true', List.any_eq_false, List.mem_range]
  constructor
  · rintro ⟨⟨h1, h2⟩, h3⟩
    exact ⟨⟨by omega, by omega⟩, fun k hk => by have := h3 k hk; simpa using this⟩
  · rintro ⟨⟨h1, h2⟩, h3⟩
    exact ⟨⟨by omega, by omega⟩, fun k hk => by have := h3 k hk; simpa using this⟩

theorem ok_mix {g h : G5} (hg : g.ok = true) (hh : h.ok = true) : (⟨g.a, g.b, h.c, h.d, h.e⟩ : G5).ok = true := by
  unfold G5.ok vG at *
  simp only [Bool.and_eq_true] at *
  exact ⟨⟨⟨⟨⟨⟨hg.1.1.1.1.1.1, hg.1.1.1.1.1.2⟩, hg.1.1.1.1.2⟩, hh.1.1.1.2⟩, hh.1.1.2⟩, hh.1.2⟩, hh.2⟩

theorem layL_ok (G : List G5) {s : Nat} (b : Bool) (h : vGs G = true) (hs : s < G.length) : vGs (layL G G.length s b) = true := by
  rw [vGs_iff] at *
  refine ⟨by rw [layL_len]; exact h.1, fun k hk => ?_⟩
  rw [layL_len] at hk
  rw [layL_gz G b hk]
  unfold lay
  split
  · exact ok_mix (h.2 _ (kb_lt hs hk)) (h.2 _ (pr_lt (kb_lt hs hk)))
  · exact h.2 _ (kf_lt hs hk)

theorem fit_lay (G : List G5) (L : List (Int × Int)) {n s t : Nat} (b c : Bool) (hs : s < n) (ht : t < n) :
    fitP (layL G n s b) L n t c = fitP G L n (ld n t c s) (b != c) := by
  unfold fitP
  rw [Bool.eq_iff_iff, List.all_eq_true, List.all_eq_true]
  constructor
  · intro h x hx
    rw [← layL_lay G b c hs ht (List.mem_range.1 hx)]
    exact h x hx
  · intro h x hx
    rw [layL_lay G b c hs ht (List.mem_range.1 hx)]
    exact h x hx

/-! ### marks -/

theorem setM_setM {n s t : Int} (b c : Bool) {m : M3} (h1 : 0 ≤ s) (h2 : s < n) (h3 : 0 ≤ t) (h4 : t < n) (h5 : 0 ≤ m.x) (h6 : m.x < n) :
    setM n t c (setM n s b m) = setM n (Plain.ed t c n s) (b != c) m := by
  unfold setM
  rw [Plain.ed_ed h1 h2 h3 h4 h5 h6]
  congr 1
  cases b <;> cases c <;> simp <;> omega

theorem mem_mq {M : List M3} {m : M3} (h : m ∈ M) : ∃ k, k < M.length ∧ mq M k = m := by
  obtain ⟨k, hk, rfl⟩ := List.mem_iff_getElem.1 h
  exact ⟨k, hk, mq_get hk⟩

theorem mq_mem {M : List M3} {k : Nat} (h : k < M.length) : mq M k ∈ M := by
  rw [mq_get h]; exact List.getElem_mem h

theorem setM_zero {n : Int} (m : M3) (h5 : 0 ≤ m.x) (h6 : m.x < n) : setM n 0 false m = m := by
  unfold setM
  rw [Plain.zero_ed h5 h6]
  simp

theorem rises_pairwise {M : List M3} (h : risesM M = true) : M.Pairwise (fun a b => Go.Proofs.ltOf cfM a b = true) := by
  have tr : ∀ a b c : M3, Go.Proofs.ltOf cfM a b = true → Go.Proofs.ltOf cfM b c = true → Go.Proofs.ltOf cfM a c = true := swoM.trans
  unfold risesM at h
  rw [List.all_eq_true] at h
  have hs : ∀ k, k + 1 < M.length → Go.Proofs.ltOf cfM (mq M k) (mq M (k + 1)) = true := fun k hk => by
    have := h k (List.mem_range.2 (by omega))
    unfold Go.Proofs.ltOf cfM
    exact this
  have hall : ∀ d k, k + d + 1 < M.length → Go.Proofs.ltOf cfM (mq M k) (mq M (k + d + 1)) = true := by
    intro d
    induction d with
    | zero => intro k hk; exact hs k hk
    | succ d ih => intro k hk; exact tr _ _ _ (ih k (by omega)) (hs (k + d + 1) (by omega))
  rw [List.pairwise_iff_getElem]
  intro i j hi hj hij
  have := hall (j - i - 1) i (by omega)
  rw [show i + (j - i - 1) + 1 = j by omega] at this
  rwa [mq_get hi, mq_get hj] at this

theorem sortM_rises {M : List M3} (h : risesM M = true) : sortM M = M :=
  (sorted_eq ((rises_pairwise h).imp leM_of_lt) (List.Perm.refl M)).symm

theorem shM_zero {n : Int} {M : List M3} (h : risesM M = true) (hM : ∀ m ∈ M, 0 ≤ m.x ∧ m.x < n) : shM n 0 false M = M := by
  unfold shM
  rw [show M.map (setM n 0 false) = M from ?_, sortM_rises h]
  conv => rhs; rw [← List.map_id M]
  exact List.map_congr_left fun m hm => setM_zero m (hM m hm).1 (hM m hm).2

theorem setM_inj {n s : Int} {b : Bool} {m k : M3} (h1 : 0 ≤ s) (h2 : s < n) (hm : 0 ≤ m.x ∧ m.x < n) (hk : 0 ≤ k.x ∧ k.x < n) (h : setM n s b m = setM n s b k) : m = k := by
  have hi := Plain.inv_range (b := b) h1 h2
  have e := Plain.inv_ed (b := b) h1 h2
  have e1 := setM_setM b b (t := Plain.inv s b n) h1 h2 hi.1 hi.2 hm.1 hm.2
  have e2 := setM_setM b b (t := Plain.inv s b n) h1 h2 hi.1 hi.2 hk.1 hk.2
  rw [h, e2, e, bne_self_eq_false, setM_zero m hm.1 hm.2, setM_zero k hk.1 hk.2] at e1
  exact e1.symm

theorem rises_of {M : List M3} (h1 : M.Pairwise leM) (h2 : M.Nodup) : risesM M = true := by
  refine risesM_true fun k hk => ?_
  have a := List.pairwise_iff_getElem.1 h1 k (k + 1) (by omega) hk (by omega)
  have b := List.pairwise_iff_getElem.1 h2 k (k + 1) (by omega) hk (by omega)
  have hlt : Go.Proofs.ltOf cfM (mq M k) (mq M (k + 1)) = true := by
    cases hc : Go.Proofs.ltOf cfM (mq M k) (mq M (k + 1)) with
    | true => rfl
    | false =>
      exfalso
      rw [mq_get (by omega), mq_get hk] at hc
      exact b (partM _ _ hc a)
  unfold Go.Proofs.ltOf cfM at hlt
  have := of_decide_eq_true hlt
  exact this

theorem vMs_iff (lo hi : Int) (M : List M3) : vMs lo hi M = true ↔ M.length ≤ 32 ∧ (∀ m ∈ M, m.ok lo hi = true) ∧ risesM M = true := by
  unfold vMs badM
  simp only [Bool.and_eq_true, decide_eq_true_eq, Bool.not_eq_true', List.any_eq_false, List.mem_range, and_assoc]
  constructor
  · rintro ⟨h1, h2, h3⟩
    exact ⟨h1, fun m hm => by obtain ⟨k, hk, rfl⟩ := mem_mq hm; have := h2 k hk; simpa using this, h3⟩
  · rintro ⟨h1, h2, h3⟩
    exact ⟨h1, fun k hk => by have := h2 _ (mq_mem hk); simpa using this, h3⟩

theorem ok_range {lo hi : Int} {m : M3} (h : m.ok lo hi = true) : (lo ≤ m.x ∧ m.x ≤ hi) ∧ (0 ≤ m.y ∧ m.y ≤ 16) ∧ 1 ≤ m.z ∧ m.z ≤ 16 := by
  unfold M3.ok wi at h
  simp only [Bool.and_eq_true, decide_eq_true_eq] at h
  omega

theorem shM_ok {n s : Int} (b : Bool) {M : List M3} (h1 : 0 ≤ s) (h2 : s < n) (hv : vMs 0 (n - 1) M = true) : vMs 0 (n - 1) (shM n s b M) = true := by
  rw [vMs_iff] at *
  obtain ⟨ha, hb, hc⟩ := hv
  have hr : ∀ m ∈ M, 0 ≤ m.x ∧ m.x < n := fun m hm => by have := ok_range (hb m hm); omega
  refine ⟨by rw [shM_len]; exact ha, fun m hm => ?_, ?_⟩
  · unfold shM at hm
    rw [(sortM_perm _).mem_iff] at hm
    obtain ⟨k, hk, rfl⟩ := List.mem_map.1 hm
    have := ok_range (hb k hk)
    have e := Plain.ed_range (b := b) h1 h2 (hr k hk).1 (hr k hk).2
    unfold M3.ok wi setM
    simp only [Bool.and_eq_true, decide_eq_true_eq]
    cases b <;> simp <;> omega
  · refine rises_of (sortM_pairwise _) ?_
    refine (sortM_perm _).nodup_iff.2 ?_
    have hp := rises_pairwise hc
    rw [List.Nodup, List.pairwise_map]
    refine List.Pairwise.imp_of_mem ?_ hp
    intro a c hma hmc hlt e
    have := setM_inj h1 h2 (hr a hma) (hr c hmc) e
    subst this
    rw [swoM.irrefl] at hlt
    cases hlt

theorem vMs_range {n : Int} {M : List M3} (hv : vMs 0 (n - 1) M = true) : ∀ m ∈ M, 0 ≤ m.x ∧ m.x < n := fun m hm => by
  have := ok_range (((vMs_iff _ _ _).1 hv).2.1 m hm)
  omega

theorem vMs_rises {lo hi : Int} {M : List M3} (hv : vMs lo hi M = true) : risesM M = true := ((vMs_iff _ _ _).1 hv).2.2

end Go.Proofs.YtkmcboincjohlaaGreat
