/- Journals, plainly: what a scan of a journal finds, whole and with one bit inverted. -/
import Derived.Test.YtcgmmfcphfkdhaaGreatT1
namespace Go.Torn

/-- All records, one after the other. -/
def jrn (Ps : List (List Nat)) : List Nat := (Ps.map frm).flatten

theorem jrn_take (Ps : List (List Nat)) (k : Nat) (h : k < Ps.length) : jrn (Ps.take (k + 1)) = jrn (Ps.take k) ++ frm (Ps.getD k []) := by
  unfold jrn
  rw [List.take_succ_eq_append_getElem h, List.map_append, List.flatten_append]
  simp [List.getD, h]

theorem jrn_split (Ps : List (List Nat)) (k : Nat) (h : k < Ps.length) : jrn Ps = jrn (Ps.take k) ++ (frm (Ps.getD k []) ++ jrn (Ps.drop (k + 1))) := by
  have h1 : Ps = Ps.take (k + 1) ++ Ps.drop (k + 1) := (List.take_append_drop _ _).symm
  have h2 : jrn Ps = jrn (Ps.take (k + 1)) ++ jrn (Ps.drop (k + 1)) := by
    unfold jrn
    rw [← List.flatten_append, ← List.map_append, ← h1]
  rw [h2, jrn_take Ps k h, List.append_assoc]

theorem scan_nil (mx n : Nat) : scan mx n [] = ([], []) := scan_bad (by unfold good ckd; simp)

theorem scan_whole {mx : Nat} {Ps : List (List Nat)} (h : ∀ b ∈ Ps, b.length ≤ mx) (n : Nat) : scan mx (Ps.length + n) (jrn Ps) = (Ps, []) := by
  have := scan_frms Ps n [] h
  rw [List.append_nil, scan_nil, List.append_nil] at this
  exact this

theorem scan_uniq {mx : Nat} {L r r' : List Nat} {a b : List (List Nat)} (h : ∀ n, scan mx (a.length + n) L = (a, r)) (h' : ∀ n, scan mx (b.length + n) L = (b, r')) : a = b ∧ r = r' := by
  have h1 := h b.length
  have h2 := h' a.length
  rw [Nat.add_comm b.length, h1] at h2
  exact Prod.mk.inj h2

theorem scan_torn {Ps : List (List Nat)} {k p j : Nat} (hl : ∀ b ∈ Ps, b.length ≤ 300) (hb : ∀ b ∈ Ps, ∀ v ∈ b, v < 256) (hj : j < 8) (hk : k < Ps.length) (h1 : (jrn (Ps.take k)).length ≤ p) (h2 : p < (jrn (Ps.take (k + 1))).length) :
    ∃ r, ∀ n, scan 8192 ((Ps.take k).length + n) ((jrn Ps).set p ((jrn Ps).getD p 0 ^^^ 2 ^ j)) = (Ps.take k, r) := by
  have hm : Ps.getD k [] ∈ Ps := by
    have : Ps.getD k [] = Ps[k] := by simp [List.getD, hk]
    rw [this]; exact List.getElem_mem hk
  rw [jrn_take Ps k hk, List.length_append] at h2
  rw [jrn_split Ps k hk]
  obtain ⟨A, hA⟩ : ∃ A, jrn (Ps.take k) = A := ⟨_, rfl⟩
  obtain ⟨C, hC⟩ : ∃ C, jrn (Ps.drop (k + 1)) = C := ⟨_, rfl⟩
  obtain ⟨b, hbb⟩ : ∃ b, Ps.getD k [] = b := ⟨_, rfl⟩
  rw [hbb] at hm h2 ⊢
  rw [hC]
  obtain ⟨q, rfl⟩ : ∃ q, p = A.length + q := ⟨p - A.length, by rw [hA] at h1; omega⟩
  have hq : q < (frm b).length := by rw [hA] at h2; omega
  have e1 : (jrn (Ps.take k) ++ (frm b ++ C)).getD (A.length + q) 0 = (frm b).getD q 0 := by
    rw [hA]
    simp only [List.getD]
    rw [List.getElem?_append_right (by omega), Nat.add_sub_cancel_left, List.getElem?_append_left hq]
  have e2 : (jrn (Ps.take k) ++ (frm b ++ C)).set (A.length + q) ((frm b).getD q 0 ^^^ 2 ^ j) = jrn (Ps.take k) ++ ((frm b).set q ((frm b).getD q 0 ^^^ 2 ^ j) ++ C) := by
    rw [hA, List.set_append_right _ _ (by omega), Nat.add_sub_cancel_left, List.set_append_left _ _ hq]
  rw [e1, e2]
  have hbad := torn_bad (mx := 8192) (b := b) (p := q) (j := j) (hl b hm) (Nat.le_trans (hl b hm) (by decide)) (by decide) (hb b hm) hj hq C
  refine ⟨(frm b).set q ((frm b).getD q 0 ^^^ 2 ^ j) ++ C, fun n => ?_⟩
  have := scan_frms (mx := 8192) (Ps.take k) n ((frm b).set q ((frm b).getD q 0 ^^^ 2 ^ j) ++ C) (fun x hx => Nat.le_trans (hl x (List.mem_of_mem_take hx)) (by decide))
  rw [scan_bad hbad, List.append_nil] at this
  exact this

theorem frm_pos (b : List Nat) : 6 ≤ (frm b).length := by rw [frm_len]; omega

theorem jrn_len_mono (Ps : List (List Nat)) (k : Nat) : (jrn (Ps.take k)).length ≤ (jrn Ps).length := by
  have : jrn Ps = jrn (Ps.take k) ++ jrn (Ps.drop k) := by
    unfold jrn
    rw [← List.flatten_append, ← List.map_append, List.take_append_drop]
  rw [this, List.length_append]
  omega

theorem jrn_bound : ∀ (Ps : List (List Nat)), (∀ b ∈ Ps, b.length ≤ 300) → (jrn Ps).length ≤ 306 * Ps.length
  | [], _ => by simp [jrn]
  | b :: l, h => by
    have h1 := h b (by simp)
    have ih := jrn_bound l (fun x hx => h x (by simp [hx]))
    have : jrn (b :: l) = frm b ++ jrn l := by simp [jrn]
    rw [this, List.length_append, frm_len, List.length_cons]
    omega

theorem jrn_by {Ps : List (List Nat)} (hl : ∀ b ∈ Ps, b.length ≤ 65535) (hb : ∀ b ∈ Ps, ∀ v ∈ b, v < 256) : ∀ v ∈ jrn Ps, v < 256 := by
  intro v hv
  unfold jrn at hv
  rw [List.mem_flatten] at hv
  obtain ⟨l, h1, h2⟩ := hv
  rw [List.mem_map] at h1
  obtain ⟨b, h3, rfl⟩ := h1
  have q1 := hl b h3
  have q2 := chk_lt b
  have q3 := chk_lt (two b.length)
  unfold frm at h2
  simp only [List.mem_append, two, List.mem_cons, List.not_mem_nil, or_false] at h2
  rcases h2 with (((h2 | h2) | (h2 | h2)) | h2) | (h2 | h2)
  · omega
  · omega
  · omega
  · rw [h2]; change (chk (two b.length)) / 256 < 256; omega
  · exact hb b h3 v h2
  · omega
  · omega

end Go.Torn
