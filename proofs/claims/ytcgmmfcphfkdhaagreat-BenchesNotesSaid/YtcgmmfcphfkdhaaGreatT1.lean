/- Journals, plainly: frames, checks, what a scan finds; one bit inverted. -/
namespace Go.Torn

/-- The sum that a check is made of: weights from k on. -/
def ws : Nat → List Nat → Nat
  | _, [] => 0
  | k, x :: l => k * x + ws (k + 1) l

def chk (b : List Nat) : Nat := (1 + ws 1 b) % 65521
def two (n : Nat) : List Nat := [n % 256, n / 256]
def frm (b : List Nat) : List Nat := two b.length ++ two (chk (two b.length)) ++ b ++ two (chk b)
def ckd (b : List Nat) (n : Nat) : Bool := decide (n + 2 ≤ b.length) && decide ((b.drop n).take 2 = two (chk (b.take n)))
def len0 (r : List Nat) : Nat := r.getD 0 0 + 256 * r.getD 1 0
def good (mx : Nat) (r : List Nat) : Bool := ckd r 2 && (decide (len0 r ≤ mx) && ckd (r.drop 4) (len0 r))

/-- What a scan finds, and what is left. -/
def scan (mx : Nat) : Nat → List Nat → List (List Nat) × List Nat
  | 0, r => ([], r)
  | n + 1, r => if good mx r then let p := scan mx n ((r.drop 4).drop (len0 r + 2)); (((r.drop 4).take (len0 r)) :: p.1, p.2) else ([], r)

theorem two_len (n : Nat) : (two n).length = 2 := rfl
theorem chk_lt (b : List Nat) : chk b < 65521 := Nat.mod_lt _ (by decide)
theorem two_inj {n m : Nat} (h : two n = two m) : n = m := by
  simp only [two, List.cons.injEq, and_true] at h
  omega

theorem frm_len (b : List Nat) : (frm b).length = b.length + 6 := by
  simp [frm, two_len]; omega

theorem ckd_of (x y : List Nat) : ckd (x ++ two (chk x) ++ y) x.length = true := by
  unfold ckd
  have e1 : (x ++ two (chk x) ++ y).take x.length = x := by simp
  have e2 : ((x ++ two (chk x) ++ y).drop x.length).take 2 = two (chk x) := by
    rw [List.append_assoc, List.drop_left, List.take_append_of_le_length (by simp [two]), List.take_of_length_le (by simp [two])]
  rw [e1, e2, decide_eq_true rfl, Bool.and_true]
  simp only [List.length_append, two_len, decide_eq_true_eq]
  omega

theorem ckd_ne {x c y : List Nat} (hc : c.length = 2) (h : c ≠ two (chk x)) : ckd (x ++ c ++ y) x.length = false := by
  unfold ckd
  have e1 : (x ++ c ++ y).take x.length = x := by simp
  have e2 : ((x ++ c ++ y).drop x.length).take 2 = c := by
    rw [List.append_assoc, List.drop_left, List.take_append_of_le_length (by omega), List.take_of_length_le (by omega)]
  rw [e1, e2, decide_eq_false h, Bool.and_false]

/-- A record at the head of what is scanned. -/
theorem good_frm {mx : Nat} {b r : List Nat} (hb : b.length ≤ mx) : good mx (frm b ++ r) = true ∧ len0 (frm b ++ r) = b.length ∧ ((frm b ++ r).drop 4).take b.length = b ∧ ((frm b ++ r).drop 4).drop (b.length + 2) = r := by
  have hl : len0 (frm b ++ r) = b.length := by
    unfold len0 frm two
    simp
    omega
  have hd : (frm b ++ r).drop 4 = b ++ two (chk b) ++ r := by
    unfold frm
    simp [two]
  refine ⟨?_, hl, ?_, ?_⟩
  · unfold good
    rw [hl, hd, ckd_of b r, decide_eq_true hb]
    have : frm b ++ r = two b.length ++ two (chk (two b.length)) ++ (b ++ two (chk b) ++ r) := by simp [frm]
    rw [this]
    have := ckd_of (two b.length) (b ++ two (chk b) ++ r)
    rw [two_len] at this
    rw [this]
    rfl
  · rw [hd]; simp
  · rw [hd, List.append_assoc, ← List.drop_drop, List.drop_left]
    rw [List.drop_append_of_le_length (by simp [two_len])]
    simp [two]

theorem scan_good {mx n : Nat} {r : List Nat} (h : good mx r = true) : scan mx (n + 1) r = (((r.drop 4).take (len0 r)) :: (scan mx n ((r.drop 4).drop (len0 r + 2))).1, (scan mx n ((r.drop 4).drop (len0 r + 2))).2) := by
  show (if good mx r then _ else _) = _
  rw [if_pos h]

theorem scan_frms {mx : Nat} : ∀ (l : List (List Nat)) (n : Nat) (r : List Nat), (∀ b ∈ l, b.length ≤ mx) → scan mx (l.length + n) ((l.map frm).flatten ++ r) = (l ++ (scan mx n r).1, (scan mx n r).2)
  | [], n, r, _ => by simp
  | b :: l, n, r, h => by
    have h1 := h b (by simp)
    have ih := scan_frms l n r (fun x hx => h x (by simp [hx]))
    obtain ⟨g1, g2, g3, g4⟩ := good_frm (r := (l.map frm).flatten ++ r) h1
    rw [show (b :: l).length + n = (l.length + n) + 1 by simp; omega]
    rw [show ((b :: l).map frm).flatten ++ r = frm b ++ ((l.map frm).flatten ++ r) by simp]
    rw [scan_good g1, g2, g3, g4, ih]
    rfl

theorem scan_bad {mx n : Nat} {r : List Nat} (h : good mx r = false) : scan mx n r = ([], r) := by
  cases n with
  | zero => rfl
  | succ n => unfold scan; rw [if_neg (by rw [h]; simp)]

/-! ### One bit inverted -/

set_option maxRecDepth 100000 in
theorem flip_byte : ∀ (x : Fin 256) (j : Fin 8), (x.val ^^^ 2 ^ j.val = x.val + 2 ^ j.val ∨ x.val = (x.val ^^^ 2 ^ j.val) + 2 ^ j.val) ∧ x.val ^^^ 2 ^ j.val < 256 := by decide

theorem flip_nat {x j : Nat} (hx : x < 256) (hj : j < 8) : (x ^^^ 2 ^ j = x + 2 ^ j ∨ x = (x ^^^ 2 ^ j) + 2 ^ j) ∧ x ^^^ 2 ^ j < 256 := flip_byte ⟨x, hx⟩ ⟨j, hj⟩

theorem pow_le {j : Nat} (hj : j < 8) : 1 ≤ 2 ^ j ∧ 2 ^ j ≤ 128 := by
  have : ∀ j : Fin 8, 1 ≤ 2 ^ j.val ∧ 2 ^ j.val ≤ 128 := by decide
  exact this ⟨j, hj⟩

theorem ws_set : ∀ (l : List Nat) (k p y : Nat), p < l.length → ws k (l.set p y) + (k + p) * l.getD p 0 = ws k l + (k + p) * y
  | [], _, p, _, h => by simp at h
  | x :: l, k, 0, y, _ => by simp [ws]; omega
  | x :: l, k, p + 1, y, h => by
    have ih := ws_set l (k + 1) p y (by simpa using h)
    simp only [List.set_cons_succ, ws, List.getD_cons_succ]
    rw [show k + 1 + p = k + (p + 1) by omega] at ih
    omega

theorem chk_set {l : List Nat} {p j : Nat} (hp : p < l.length) (hl : l.length ≤ 300) (hb : l.getD p 0 < 256) (hj : j < 8) : chk (l.set p (l.getD p 0 ^^^ 2 ^ j)) ≠ chk l := by
  obtain ⟨h1, -⟩ := flip_nat hb hj
  obtain ⟨q1, q2⟩ := pow_le hj
  have hw := ws_set l 1 p (l.getD p 0 ^^^ 2 ^ j) hp
  obtain ⟨x, hx⟩ : ∃ x, x = l.getD p 0 := ⟨_, rfl⟩
  obtain ⟨y, hy⟩ : ∃ y, y = x ^^^ 2 ^ j := ⟨_, rfl⟩
  obtain ⟨t, ht⟩ : ∃ t, t = 2 ^ j := ⟨_, rfl⟩
  rw [← hx] at h1 hw ⊢
  rw [← hy] at h1 hw ⊢
  rw [← ht] at h1 q1 q2
  obtain ⟨c, hc⟩ : ∃ c, c = 1 + p := ⟨_, rfl⟩
  rw [← hc] at hw
  have c1 : 1 ≤ c ∧ c ≤ 300 := by omega
  have m1 : 1 ≤ c * t := Nat.mul_pos c1.1 q1
  have m2 : c * t ≤ 300 * 128 := Nat.mul_le_mul c1.2 q2
  unfold chk
  obtain ⟨u, hu⟩ : ∃ u, u = c * t := ⟨_, rfl⟩
  rw [← hu] at m1 m2
  obtain ⟨A, hA⟩ : ∃ A, A = ws 1 l := ⟨_, rfl⟩
  obtain ⟨B, hB⟩ : ∃ B, B = ws 1 (l.set p y) := ⟨_, rfl⟩
  rw [← hA, ← hB] at hw ⊢
  clear hA hB hp hl hb hj hx hy ht
  rcases h1 with h1 | h1
  · rw [h1, Nat.mul_add, ← hu] at hw
    intro e
    omega
  · rw [h1, Nat.mul_add, ← hu] at hw
    intro e
    omega

/-- What stands with its check fails, if one bit of both is inverted. -/
theorem seg_bad {x : List Nat} {p j : Nat} (hl : x.length ≤ 300) (hb : ∀ v ∈ x, v < 256) (hj : j < 8) (hp : p < x.length + 2) (y : List Nat) :
    ckd ((x ++ two (chk x)).set p ((x ++ two (chk x)).getD p 0 ^^^ 2 ^ j) ++ y) x.length = false := by
  by_cases hx : p < x.length
  · have e1 : (x ++ two (chk x)).getD p 0 = x.getD p 0 := by
      simp [List.getD, List.getElem?_append_left hx]
    rw [e1, List.set_append_left _ _ hx]
    have hv : x.getD p 0 < 256 := by
      have : x.getD p 0 = x[p] := by simp [List.getD, hx]
      rw [this]
      exact hb _ (List.getElem_mem hx)
    have := ckd_ne (x := x.set p (x.getD p 0 ^^^ 2 ^ j)) (c := two (chk x)) (y := y) rfl (fun e => chk_set hx hl hv hj (two_inj e).symm)
    rwa [List.length_set] at this
  · have hle : x.length ≤ p := by omega
    obtain ⟨c, hc⟩ : ∃ c, c = chk x := ⟨_, rfl⟩
    have hcl : c < 65521 := by rw [hc]; exact chk_lt x
    rw [← hc]
    have e1 : (x ++ two c).getD p 0 = (two c).getD (p - x.length) 0 := by
      simp [List.getD, List.getElem?_append_right hle]
    rw [e1, List.set_append_right _ _ hle]
    obtain ⟨q1, q2⟩ := pow_le hj
    refine ckd_ne (by simp [two]) ?_
    rw [← hc]
    have hq : p - x.length = 0 ∨ p - x.length = 1 := by omega
    rcases hq with hq | hq
    · rw [hq]
      obtain ⟨h1, -⟩ := flip_nat (x := c % 256) (Nat.mod_lt _ (by decide)) hj
      simp only [two, List.getD_cons_zero, List.set_cons_zero]
      intro e
      simp only [List.cons.injEq, and_true] at e
      omega
    · rw [hq]
      obtain ⟨h1, -⟩ := flip_nat (x := c / 256) (by omega) hj
      simp only [two, List.getD_cons_succ, List.getD_cons_zero, List.set_cons_succ, List.set_cons_zero]
      intro e
      simp only [List.cons.injEq, and_true, true_and] at e
      omega

/-- A record with one bit inverted is found no more. -/
theorem torn_bad {mx : Nat} {b : List Nat} {p j : Nat} (hl : b.length ≤ 300) (hm : b.length ≤ mx) (hm2 : mx < 65536) (hb : ∀ v ∈ b, v < 256) (hj : j < 8) (hp : p < (frm b).length) (y : List Nat) :
    good mx ((frm b).set p ((frm b).getD p 0 ^^^ 2 ^ j) ++ y) = false := by
  rw [frm_len] at hp
  have hf : frm b = (two b.length ++ two (chk (two b.length))) ++ (b ++ two (chk b)) := by simp [frm]
  have h4 : (two b.length ++ two (chk (two b.length))).length = 4 := rfl
  rw [hf]
  by_cases h : p < 4
  · have e1 : ((two b.length ++ two (chk (two b.length))) ++ (b ++ two (chk b))).getD p 0 = (two b.length ++ two (chk (two b.length))).getD p 0 := by
      simp only [List.getD]
      rw [List.getElem?_append_left (by omega)]
    rw [e1, List.set_append_left _ _ (by omega), List.append_assoc]
    have := seg_bad (x := two b.length) (p := p) (j := j) (by rw [two_len]; decide) (fun v hv => by
      simp only [two, List.mem_cons, List.not_mem_nil, or_false] at hv
      omega) hj h ((b ++ two (chk b)) ++ y)
    rw [two_len] at this
    unfold good
    rw [this]
    rfl
  · have hle : 4 ≤ p := by omega
    have e1 : ((two b.length ++ two (chk (two b.length))) ++ (b ++ two (chk b))).getD p 0 = (b ++ two (chk b)).getD (p - 4) 0 := by
      simp only [List.getD]
      rw [List.getElem?_append_right (by omega), h4]
    rw [e1, List.set_append_right _ _ (by omega), h4, List.append_assoc]
    have := seg_bad (x := b) (p := p - 4) (j := j) hl hb hj (by omega) y
    unfold good
    have hl0 : len0 ((two b.length ++ two (chk (two b.length))) ++ ((b ++ two (chk b)).set (p - 4) ((b ++ two (chk b)).getD (p - 4) 0 ^^^ 2 ^ j) ++ y)) = b.length := by
      unfold len0 two
      simp
      omega
    have hd : ((two b.length ++ two (chk (two b.length))) ++ ((b ++ two (chk b)).set (p - 4) ((b ++ two (chk b)).getD (p - 4) 0 ^^^ 2 ^ j) ++ y)).drop 4 = (b ++ two (chk b)).set (p - 4) ((b ++ two (chk b)).getD (p - 4) 0 ^^^ 2 ^ j) ++ y := by
      simp [two]
    rw [hl0, hd, this]
    simp

end Go.Torn
