/- What the map of panes holds. -/
import Derived.Test.YtdnljbdngbphnaaGreatF6
import Derived.Test.YtdnljbdngbphnaaGreatS1
import Derived.Maps.OwnOps
import Derived.Maps.Views
namespace Go.Proofs.YtdnljbdngbphnaaGreat
open Go Go.RowKit Go.Proofs Go.Reads Go.Maps

def kl (n : Int) : Lit := .int .i64 n
def dh (x : H5) : DataW Unit := .agg [.lit (.int .i64 x.n), .lit (.int .i64 x.p), .lit (.int .i64 x.c), .lit (.int .i64 x.sh), .lit (.bool x.bk)]
def RL : List Value → Option (DataW Unit × List MemPlace)
  | [.int .i64 a, .int .i64 b, .int .i64 c, .int .i64 s, .bool k] => some (dh ⟨a, b, c, s, k⟩, [])
  | _ => none
def RH : Value → Option (DataW Unit × List MemPlace)
  | .agg cs => RL cs.toList
  | _ => none

theorem RH_ag (x : H5) : RH (agH x) = some (dh x, []) := rfl
theorem dh_inj {x y : H5} (h : dh x = dh y) : x = y := by
  obtain ⟨a, b, c, d, e⟩ := x
  obtain ⟨a', b', c', d', e'⟩ := y
  simp [dh] at h
  obtain ⟨rfl, rfl, rfl, rfl, rfl⟩ := h
  rfl
theorem RH_inv {v : Value} {z : DataW Unit × List MemPlace} (h : RH v = some z) : ∃ x, v = agH x ∧ z = (dh x, []) := by
  unfold RH at h
  split at h
  · rename_i cs
    unfold RL at h
    split at h
    · rename_i a b c s k hcs
      simp only [Option.some.injEq] at h
      refine ⟨⟨a, b, c, s, k⟩, ?_, h.symm⟩
      unfold agH
      rw [← hcs]
    · cases h
  · cases h

def Wfi (n : Int) : Prop := (Lit.int .i64 n).wf = true
theorem K3 : Keyed Tryz.prog 3 := int_keyed Tryz.underlying3
theorem key3 {n : Int} (h : Wfi n) : keyOf Tryz.prog 3 (.int .i64 n) = some (kl n) := keyOf_int_mk Tryz.underlying3 h
theorem isk {n : Int} (h : Wfi n) : WideAt.IsKeyLit (kl n) := K3.key (key3 h)

/-- What the map holds when l has been gone through. -/
def mpD (l : List H5) : DataW Unit := l.foldl (fun D h => if has D (kl h.n) then D else D.put (kl h.n) (dh h)) (.map [])

structure MP (l : List H5) (D : DataW Unit) : Prop where
  tidy : Tidy D
  keys : ∀ es, D = .map es → ∀ p ∈ es, ∃ x ∈ l, p.1 = kl x.n
  has' : ∀ n, Wfi n → has D (kl n) = (fst l n).isSome
  at' : ∀ n x z, Wfi n → fst l n = some x → D.atKey (kl n) z = dh x

theorem mpD_snoc (l : List H5) (h : H5) : mpD (l ++ [h]) = if has (mpD l) (kl h.n) then mpD l else (mpD l).put (kl h.n) (dh h) := by unfold mpD; rw [List.foldl_append]; rfl

theorem mem_insert (x : Lit × DataW Unit) : ∀ (l : List (Lit × DataW Unit)) (p : Lit × DataW Unit), p ∈ DataW.insert x l → p = x ∨ p ∈ l
  | [], p, h => by simp [DataW.insert] at h; exact .inl h
  | y :: l, p, h => by
    unfold DataW.insert at h
    split at h
    · rcases List.mem_cons.1 h with e | e
      · exact .inl e
      · exact .inr e
    · rcases List.mem_cons.1 h with e | e
      · exact .inr (by rw [e]; simp)
      · rcases mem_insert x l p e with g | g
        · exact .inl g
        · exact .inr (List.mem_cons_of_mem _ g)

theorem kl_ne {a b : Int} (h : a ≠ b) : kl a ≠ kl b := fun e => h (by simpa [kl] using e)

theorem mpD_ok : ∀ (l : List H5), (∀ x ∈ l, Wfi x.n) → MP l (mpD l) := by
  intro l
  induction hn : l.length generalizing l with
  | zero =>
    intro _
    have : l = [] := List.eq_nil_of_length_eq_zero hn
    subst this
    exact ⟨tidy_empty, fun es e p hp => by simp [mpD] at e; subst e; simp at hp, fun n _ => rfl, fun n x z _ h => by simp [fst] at h⟩
  | succ k ih =>
    intro hw
    obtain ⟨m, h, rfl⟩ : ∃ m h, l = m ++ [h] := by
      have hne : l ≠ [] := by intro e; subst e; simp at hn
      exact ⟨l.dropLast, l.getLast hne, (List.dropLast_concat_getLast hne).symm⟩
    have im := ih m (by simpa using hn) (fun x hx => hw x (by simp [hx]))
    have hh := hw h (by simp)
    rw [mpD_snoc]
    cases hb : has (mpD m) (kl h.n) with
    | true =>
      rw [if_pos rfl]
      have hs : (fst m h.n).isSome = true := by rw [← im.has' _ hh]; exact hb
      have key : ∀ n, fst (m ++ [h]) n = fst m n := fun n => by
        rw [fst_snoc]
        by_cases e : h.n = n
        · subst e
          cases hf : fst m h.n with
          | none => rw [hf] at hs; cases hs
          | some y => rfl
        · rw [if_neg e]; simp
      exact ⟨im.tidy, fun es e p hp => by obtain ⟨x, hx, g⟩ := im.keys es e p hp; exact ⟨x, by simp [hx], g⟩, fun n hn => by rw [key]; exact im.has' n hn, fun n x z hn hx => by rw [key] at hx; exact im.at' n x z hn hx⟩
    | false =>
      rw [if_neg (by simp)]
      have hs : fst m h.n = none := by
        have := im.has' _ hh
        rw [hb] at this
        cases hf : fst m h.n with
        | none => rfl
        | some y => rw [hf] at this; cases this
      refine ⟨im.tidy.put (isk hh) _, ?_, fun n hn => ?_, fun n x z hn hx => ?_⟩
      · intro es e p hp
        obtain ⟨es0, e0⟩ := im.tidy.isMap
        rw [e0] at e
        simp only [DataW.put, DataW.map.injEq] at e
        rw [← e] at hp
        rcases mem_insert _ _ _ hp with g | g
        · exact ⟨h, by simp, by rw [g]⟩
        · obtain ⟨x, hx, g'⟩ := im.keys es0 e0 p (List.mem_filter.1 g).1
          exact ⟨x, by simp [hx], g'⟩
      · rw [fst_snoc]
        by_cases e : h.n = n
        · subst e
          rw [has_put_same im.tidy.isMap (isk hh), hs]
          simp
        · rw [has_put_other (kl_ne (fun g => e g.symm)), im.has' n hn, if_neg e]
          simp
      · rw [fst_snoc] at hx
        by_cases e : h.n = n
        · subst e
          rw [hs] at hx
          simp at hx
          subst hx
          exact atKey_put_same im.tidy.isMap (isk hh) _ _
        · rw [if_neg e] at hx
          simp at hx
          rw [atKey_put_other (kl_ne (fun g => e g.symm))]
          exact im.at' n x z hn hx

theorem intOf_kl (n : Int) : Go.intOf (kl n) = n := rfl

theorem keys_of {l : List H5} (hw : ∀ x ∈ l, Wfi x.n) {ss : List Int} (hp : ss.Perm (intKeys (mpD l))) :
    (ss.mergeSort (fun x y => decide (x ≤ y))).Pairwise (· < ·) ∧ ∀ n, n ∈ ss.mergeSort (fun x y => decide (x ≤ y)) ↔ ∃ x ∈ l, x.n = n := by
  have M := mpD_ok l hw
  obtain ⟨es, e, hpw⟩ := M.tidy
  have hk := M.keys es e
  rw [e] at hp
  have hnd : (intKeys (DataW.map es)).Nodup := by
    unfold intKeys List.Nodup
    rw [List.pairwise_map]
    refine List.Pairwise.imp_of_mem ?_ hpw
    intro p q hpm hqm hne he
    obtain ⟨x, -, hx⟩ := hk p hpm
    obtain ⟨y, -, hy⟩ := hk q hqm
    rw [hx, hy, intOf_kl, intOf_kl] at he
    exact hne (by rw [hx, hy, he])
  have hP := (List.mergeSort_perm ss (fun x y => decide (x ≤ y))).trans hp
  have hs : (ss.mergeSort (fun x y => decide (x ≤ y))).Pairwise (fun x y => decide (x ≤ y) = true) := List.pairwise_mergeSort (fun a b c h1 h2 => by simp at *; omega) (fun a b => by simp; omega) ss
  have hn2 : (ss.mergeSort (fun x y => decide (x ≤ y))).Nodup := hP.nodup_iff.2 hnd
  refine ⟨(hs.and hn2).imp (fun h => by have h1 := h.1; have h2 := h.2; simp at h1; omega), fun n => ?_⟩
  rw [hP.mem_iff]
  unfold intKeys
  rw [List.mem_map]
  constructor
  · rintro ⟨p, hpm, rfl⟩
    obtain ⟨x, hx, g⟩ := hk p hpm
    exact ⟨x, hx, by rw [g, intOf_kl]⟩
  · rintro ⟨x, hx, rfl⟩
    have h1 := M.has' x.n (hw x hx)
    have h2 : (fst l x.n).isSome = true := by
      cases hf : fst l x.n with
      | none => exact absurd rfl (fst_none.1 hf x hx)
      | some _ => rfl
    rw [h2, e, has_eq, List.any_eq_true] at h1
    obtain ⟨p, hpm, hs⟩ := h1
    refine ⟨p, hpm, ?_⟩
    have : p.1 = kl x.n := by
      rcases Classical.em (p.1 = kl x.n) with g | g
      · exact g
      · rw [sameKey_ne g] at hs; cases hs
    rw [this, intOf_kl]

theorem size_mpD {l : List H5} (hw : ∀ x ∈ l, Wfi x.n) : size (mpD l) ≤ l.length := by
  induction hn : l.length generalizing l with
  | zero =>
    have : l = [] := List.eq_nil_of_length_eq_zero hn
    subst this
    exact Nat.le_refl _
  | succ k ih =>
    obtain ⟨m, h, rfl⟩ : ∃ m h, l = m ++ [h] := by
      have hne : l ≠ [] := by intro e; subst e; simp at hn
      exact ⟨l.dropLast, l.getLast hne, (List.dropLast_concat_getLast hne).symm⟩
    have hm : m.length = k := by simpa using hn
    have := ih (l := m) (fun x hx => hw x (by simp [hx])) hm
    rw [mpD_snoc]
    split
    · omega
    · rw [size_put (mpD_ok m (fun x hx => hw x (by simp [hx]))).tidy]
      split <;> omega

theorem zero64 (w : World) : (zeroValue 64).run Tryz.prog w = .ok (agH h0) w := by kernel_rfl

/-- The map's elements: looked up, with the ok. -/
theorem look_ok {w : World} {b n : Nat} {D : DataW Unit} (h : w.ownsMap Tryz.prog 3 RH b n D) {k : Int} (hk : Wfi k) :
    ∃ y : H5, (Instr.lookup 65 (.map (some b)) (.int .i64 k) true).run Tryz.prog w = .ok (.tuple #[agH y, .bool (has D (kl k))]) w := by
  obtain ⟨es, clock, hb, F, -, rfl⟩ := h
  rcases fit_look true K3 Tryz.underlying65 (zero64 w) hb F (key3 hk) with ⟨h1, -, h3⟩ | ⟨e0, y, -, -, h1, h2, h3, -⟩
  · refine ⟨h0, ?_⟩
    rw [has_false_of_atKey h3]
    exact h1
  · obtain ⟨x, hx, -⟩ := RH_inv h2
    refine ⟨x, ?_⟩
    rw [has_true_of_atKey h3, ← hx]
    exact h1

/-- .. without it. -/
theorem look_at {w : World} {b n : Nat} {l : List H5} (hw : ∀ x ∈ l, Wfi x.n) (h : w.ownsMap Tryz.prog 3 RH b n (mpD l)) {k : Int} (hk : Wfi k) {x : H5} (hx : fst l k = some x) :
    (Instr.lookup 65 (.map (some b)) (.int .i64 k) false).run Tryz.prog w = .ok (agH x) w := by
  obtain ⟨v, ps, h1, h2⟩ := h.lookup K3 Tryz.underlying65 (zero64 w) (RH_ag h0) (key3 hk)
  rw [(mpD_ok l hw).at' k x _ hk hx] at h2
  obtain ⟨y, rfl, e⟩ := RH_inv h2
  simp only [Prod.mk.injEq] at e
  rw [dh_inj e.1]
  exact h1

/-- A cell stays while the map is written. -/
theorem keepM {w w' : World} {b n g o : Nat} {D : DataW Unit} {v : Value} (h : w.ownsMap Tryz.prog 3 RH b n D) (hg : w.grownBy w' (some b)) (hc : w.cell? ⟨g, o, none⟩ = some v) : w'.cell? ⟨g, o, none⟩ = some v := by
  have hne : g ≠ b := by
    rintro rfl
    obtain ⟨es, clock, hb, -⟩ := h
    unfold World.cell? at hc
    simp [hb] at hc
  rw [World.cell?_of_block (hg.block g (lt_of_cell hc) (by simpa using hne))]
  exact hc

theorem SlH.keepM {w w' : World} {b n : Nat} {D : DataW Unit} {v : Value} {L : List H5} (h : w.ownsMap Tryz.prog 3 RH b n D) (hg : w.grownBy w' (some b)) (hs : SlH w v L) : SlH w' v L := by
  obtain ⟨a, cap, rfl, h1, h2⟩ := hs
  refine ⟨a, cap, rfl, h1, fun hp => ?_⟩
  obtain ⟨g, off, rfl, h3⟩ := h2 hp
  refine ⟨g, off, rfl, fun i hi => ?_⟩
  obtain ⟨c0, c1, c2, c3, c4⟩ := h3 i hi
  exact ⟨Go.Proofs.YtdnljbdngbphnaaGreat.keepM h hg c0, Go.Proofs.YtdnljbdngbphnaaGreat.keepM h hg c1, Go.Proofs.YtdnljbdngbphnaaGreat.keepM h hg c2, Go.Proofs.YtdnljbdngbphnaaGreat.keepM h hg c3, Go.Proofs.YtdnljbdngbphnaaGreat.keepM h hg c4⟩

end Go.Proofs.YtdnljbdngbphnaaGreat
