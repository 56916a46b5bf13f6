/- The abstract machine, part SC. -/
import Derived.Test.YtiommdfelnkibaaGreatSB
import Derived.Test.YtiommdfelnkibaaGreatSA
import Derived.Test.YtiommdfelnkibaaGreatLP
/- Walks: the test that Agree makes, and Agree. -/
namespace Go.Proofs.YtiommdfelnkibaaGreat
open Go Go.RowKit Go.Proofs Go.Abs

/-- What the operations of the test yield. -/
def AgrV (p q y : PcD) (agp amp agq amq : Option Addr) (gcp mcp gcq mcq : Nat) (sh : Int) (b a : Bool) : Nat → Value → World → Prop
  | 0, v, _ => v = pcs p.id p.c p.r p.m p.s (.slice agp p.G.length gcp) (.slice amp p.M.length mcp)
  | 1, v, _ => v = st sh b
  | 2, v, W => PcV W 0 v y
  | 3, v, _ => v = pcs q.id q.c q.r q.m q.s (.slice agq q.G.length gcq) (.slice amq q.M.length mcq)
  | 4, v, _ => v = .bool a
  | 5, v, _ => v = .bool (!a)
  | _, v, _ => v = .bool (!a)

theorem AgrV.keep {p q y : PcD} {agp amp agq amq : Option Addr} {gcp mcp gcq mcq : Nat} {sh : Int} {b a : Bool} : ∀ i v W W', AgrV p q y agp amp agq amq gcp mcp gcq mcq sh b a i v W → Below W.heap.size W W' → AgrV p q y agp amp agq amq gcp mcp gcq mcq sh b a i v W'
  | 0, _, _, _, h, _ => h
  | 1, _, _, _, h, _ => h
  | 2, _, _, _, h, hb => PcV.keep h hb
  | 3, _, _, _, h, _ => h
  | 4, _, _, _, h, _ => h
  | 5, _, _, _, h, _ => h
  | _ + 6, _, _, _, h, _ => h

set_option maxRecDepth 100000 in
set_option maxHeartbeats 8000000 in
theorem clo53_walk (p q y : PcD) (agp amp agq amq : Option Addr) (gcp mcp gcq mcq B0 B1 : Nat) (sh : Int) (b a : Bool) (w : World)
    (h0 : w.heap[B0]? = some (pcsObj p.id p.c p.r p.m p.s (.slice agp p.G.length gcp) (.slice amp p.M.length mcp)))
    (h1 : w.heap[B1]? = some (pcsObj q.id q.c q.r q.m q.s (.slice agq q.G.length gcq) (.slice amq q.M.length mcq)))
    (C50 : Hid (∀ W, Below w.heap.size w W → Calls Tryz.prog 50 #[pcs p.id p.c p.r p.m p.s (.slice agp p.G.length gcp) (.slice amp p.M.length mcp), st sh b] W fun e W' => ∃ v, e = .returned v ∧ PcV W' 0 v y ∧ Below W.heap.size W W'))
    (C54 : Hid (∀ W v, Below w.heap.size w W → PcV W 0 v y → Calls Tryz.prog 54 #[v, pcs q.id q.c q.r q.m q.s (.slice agq q.G.length gcq) (.slice amq q.M.length mcq)] W fun e W' => e = .returned (.bool a) ∧ Below W.heap.size W W')) :
    Calls Tryz.prog 53 #[st sh b, .pointer (some ⟨B0, 0, none⟩), .pointer (some ⟨B1, 0, none⟩)] w fun e w' => e = .returned (.bool (!a)) ∧ Below w.heap.size w w' := by
  obtain ⟨W0, hW0⟩ : ∃ W0, w.alloc (stObj sh b) = W0 := ⟨_, rfl⟩
  obtain ⟨S, hS⟩ : ∃ S, w.heap.size = S := ⟨_, rfl⟩
  have x2 : W0.heap[S]? = some (stObj sh b) := by rw [← hW0, ← hS]; exact alloc_heap_new _ _
  have bb : Below w.heap.size w W0 := by rw [← hW0]; exact (Below.refl _ _).alloc (Nat.le_refl _) _
  have x0 := (bb.block _ (Array.getElem?_eq_some_iff.1 h0).1).trans h0
  have x1 := (bb.block _ (Array.getElem?_eq_some_iff.1 h1).1).trans h1
  replace C50 := Lib.hid (fun W (hW : Below W0.heap.size W0 W) => C50.out W (keep_below bb hW))
  replace C54 := Lib.hid (fun W v (hW : Below W0.heap.size W0 W) => C54.out W v (keep_below bb hW))
  clear h0 h1
  have HS := Lib.hid hS
  clear hS
  go_enter Tryz.func53, Tryz.ntmps53
  go_wp2_with fail
  rw [HS.out]
  clear hW0
  replace bb := Lib.hid bb
  refine wp_region_vals (AgrV p q y agp amp agq amq gcp mcp gcq mcq sh b a) (by kernel_rfl) (by kernel_rfl) AgrV.keep ?_ ?_
  · intro i o ho a' W hW hfr hdep
    have f1 : a'.tmps[1]?.getD undef = .pointer (some ⟨B0, 0, none⟩) := Array.getD_eq_getD_getElem?.symm.trans (hfr 1 rfl)
    have f2 : a'.tmps[2]?.getD undef = .pointer (some ⟨B1, 0, none⟩) := Array.getD_eq_getD_getElem?.symm.trans (hfr 2 rfl)
    have f3 : a'.tmps[3]?.getD undef = .pointer (some ⟨S, 0, none⟩) := Array.getD_eq_getD_getElem?.symm.trans (hfr 3 rfl)
    have y0 := (hW.block _ (Array.getElem?_eq_some_iff.1 x0).1).trans x0
    have y1 := (hW.block _ (Array.getElem?_eq_some_iff.1 x1).1).trans x1
    have y2 := (hW.block _ (Array.getElem?_eq_some_iff.1 x2).1).trans x2
    clear hfr
    have hi : i < 7 := by have := (List.getElem?_eq_some_iff.1 ho).1; simpa using this
    obtain rfl | rfl | rfl | rfl | rfl | rfl | rfl : i = 0 ∨ i = 1 ∨ i = 2 ∨ i = 3 ∨ i = 4 ∨ i = 5 ∨ i = 6 := by omega
    all_goals simp only [List.getElem?_cons_zero, List.getElem?_cons_succ, Option.some.injEq] at ho
    all_goals subst ho
    · have c0 : W.cell? ⟨B0, 0, none⟩ = some (.int .i64 p.id) := cell_of y0 rfl
      have c1 : W.cell? ⟨B0, 1, none⟩ = some (.int .i64 p.c) := cell_of y0 rfl
      have c2 : W.cell? ⟨B0, 2, none⟩ = some (.int .i64 p.r) := cell_of y0 rfl
      have c3 : W.cell? ⟨B0, 3, none⟩ = some (.int .i64 p.m) := cell_of y0 rfl
      have c4 : W.cell? ⟨B0, 4, none⟩ = some (.int .i64 p.s) := cell_of y0 rfl
      have c5 : W.cell? ⟨B0, 5, none⟩ = some (.slice agp p.G.length gcp) := cell_of y0 rfl
      have c6 : W.cell? ⟨B0, 6, none⟩ = some (.slice amp p.M.length mcp) := cell_of y0 rfl
      clear hdep y0 y1 y2
      refine .inl ⟨_, W, ?_, Below.refl _ _, rfl⟩
      go_simp
    · have s0 : W.cell? ⟨S, 0, none⟩ = some (.int .i64 sh) := cell_of y2 rfl
      have s1 : W.cell? ⟨S, 1, none⟩ = some (.bool b) := cell_of y2 rfl
      clear hdep y0 y1 y2
      refine .inl ⟨_, W, ?_, Below.refl _ _, rfl⟩
      go_simp
    · have d0 : a'.tmps[5]?.getD undef = pcs p.id p.c p.r p.m p.s (.slice agp p.G.length gcp) (.slice amp p.M.length mcp) := Array.getD_eq_getD_getElem?.symm.trans (hdep ⟨0, .data⟩ (by simp) rfl 5 rfl)
      have d1 : a'.tmps[6]?.getD undef = st sh b := Array.getD_eq_getD_getElem?.symm.trans (hdep ⟨1, .data⟩ (by simp) rfl 6 rfl)
      clear hdep y0 y1 y2
      refine .inr ⟨50, #[pcs p.id p.c p.r p.m p.s (.slice agp p.G.length gcp) (.slice amp p.M.length mcp), st sh b], W, ?_, Below.refl _ _, (C50.out W hW).mono ?_⟩
      · go_simp
      · rintro e W' ⟨v, rfl, hv, hb⟩
        exact ⟨_, rfl, hb, hv⟩
    · have c0 : W.cell? ⟨B1, 0, none⟩ = some (.int .i64 q.id) := cell_of y1 rfl
      have c1 : W.cell? ⟨B1, 1, none⟩ = some (.int .i64 q.c) := cell_of y1 rfl
      have c2 : W.cell? ⟨B1, 2, none⟩ = some (.int .i64 q.r) := cell_of y1 rfl
      have c3 : W.cell? ⟨B1, 3, none⟩ = some (.int .i64 q.m) := cell_of y1 rfl
      have c4 : W.cell? ⟨B1, 4, none⟩ = some (.int .i64 q.s) := cell_of y1 rfl
      have c5 : W.cell? ⟨B1, 5, none⟩ = some (.slice agq q.G.length gcq) := cell_of y1 rfl
      have c6 : W.cell? ⟨B1, 6, none⟩ = some (.slice amq q.M.length mcq) := cell_of y1 rfl
      clear hdep y0 y1 y2
      refine .inl ⟨_, W, ?_, Below.refl _ _, rfl⟩
      go_simp
    · have d3 : a'.tmps[8]?.getD undef = pcs q.id q.c q.r q.m q.s (.slice agq q.G.length gcq) (.slice amq q.M.length mcq) := Array.getD_eq_getD_getElem?.symm.trans (hdep ⟨3, .data⟩ (by simp) rfl 8 rfl)
      have hdep2 : PcV W 0 (a'.tmps.getD 7 undef) y := hdep ⟨2, .data⟩ (by simp) rfl 7 rfl
      clear hdep y0 y1 y2
      have d2' := hdep2
      obtain ⟨v2, hv2⟩ : ∃ v2, a'.tmps.getD 7 undef = v2 := ⟨_, rfl⟩
      rw [hv2] at d2'
      have d2 : a'.tmps[7]?.getD undef = v2 := Array.getD_eq_getD_getElem?.symm.trans hv2
      refine .inr ⟨54, #[v2, pcs q.id q.c q.r q.m q.s (.slice agq q.G.length gcq) (.slice amq q.M.length mcq)], W, ?_, Below.refl _ _, (C54.out W v2 hW d2').mono ?_⟩
      · go_simp
      · rintro e W' ⟨rfl, hb⟩
        exact ⟨_, rfl, hb, rfl⟩
    · have d4 : a'.tmps[9]?.getD undef = .bool a := Array.getD_eq_getD_getElem?.symm.trans (hdep ⟨4, .data⟩ (by simp) rfl 9 rfl)
      clear hdep y0 y1 y2
      refine .inl ⟨_, W, ?_, Below.refl _ _, rfl⟩
      go_simp
    · have d5 : a'.tmps[10]?.getD undef = .bool (!a) := Array.getD_eq_getD_getElem?.symm.trans (hdep ⟨5, .data⟩ (by simp) rfl 10 rfl)
      clear hdep y0 y1 y2
      refine .inl ⟨_, W, ?_, Below.refl _ _, rfl⟩
      go_simp
  · intro W hW
    simp only [List.map_cons, List.map_nil, VQ]
    rintro _ rfl _ rfl v2 hv2 _ rfl _ rfl _ rfl _ rfl
    clear hv2 x0 x1 x2
    simp only [List.setIfInBounds_toArray, List.set_cons_zero, List.set_cons_succ]
    simp only [Exit.then]
    go_at_K
    go_wp2
    go_ret
    exact ⟨rfl, keep_below bb.out hW⟩

theorem clo53_any {p q : PcD} (agp amp agq amq : Option Addr) (gcp mcp gcq mcq B0 B1 : Nat) (s : Nat) (b : Bool) (w : World)
    (h0 : w.heap[B0]? = some (pcsObj p.id p.c p.r p.m p.s (.slice agp p.G.length gcp) (.slice amp p.M.length mcp)))
    (h1 : w.heap[B1]? = some (pcsObj q.id q.c q.r q.m q.s (.slice agq q.G.length gcq) (.slice amq q.M.length mcq)))
    (gp : SlG w (.slice agp p.G.length gcp) p.G) (mp : SlM w (.slice amp p.M.length mcp) p.M) (hq : PcV w 0 (pcs q.id q.c q.r q.m q.s (.slice agq q.G.length gcq) (.slice amq q.M.length mcq)) q)
    (hok : p.ok = true) (hs : s < p.G.length) (hqs : q.sm) :
    Calls Tryz.prog 53 #[st s b, .pointer (some ⟨B0, 0, none⟩), .pointer (some ⟨B1, 0, none⟩)] w fun e w' => e = .returned (.bool (!alk (rsD p s b) q)) ∧ Below w.heap.size w w' := by
  obtain ⟨h3, h4⟩ := vP_marks hok
  have h5 := vGs_ok h3
  have hv : vset (s : Int) p.G.length = true := by
    simp only [vset, Bool.and_eq_true, decide_eq_true_eq]
    omega
  have hy : (rsD p s b).sm := by
    have h6 := vMs_len h4
    refine ⟨?_, ?_⟩
    · show (layL _ _ _ _).length ≤ 1000
      rw [layL_len]; omega
    · show (shM _ _ _ _).length ≤ 1000
      rw [shM_len]; omega
  exact clo53_walk p q (rsD p s b) agp amp agq amq gcp mcp gcq mcq B0 B1 s b (alk (rsD p s b) q) w h0 h1
    (Lib.hid fun W hW => by
      refine (reset50_any p _ _ (s : Int) b W (gp.keep hW) (mp.keep hW) hok hv).mono ?_
      rintro e W' ⟨v, rfl, h, hb⟩
      exact ⟨v, rfl, h.mono (Nat.zero_le _), hb⟩)
    (Lib.hid fun W v hW hv => alike_any W hv (hq.keep hW) hy hqs)

set_option maxRecDepth 100000 in
set_option maxHeartbeats 8000000 in
theorem agree25_walk (id c r m s id' c' r' m' s' : Int) (ag am ag' am' : Option Addr) (n gc n' gc' l mc l' mc' : Nat) (w : World) (pb qb : Bool) (F : List (Nat × Bool))
    (H1 : Hid (∀ W, Below w.heap.size w W → Calls Tryz.prog 39 #[pcs id c r m s (.slice ag n gc) (.slice am l mc)] W fun e w' => e = .returned (.bool pb) ∧ Below W.heap.size W w'))
    (H2 : Hid (∀ W, Below w.heap.size w W → Calls Tryz.prog 39 #[pcs id' c' r' m' s' (.slice ag' n' gc') (.slice am' l' mc')] W fun e w' => e = .returned (.bool qb) ∧ Below W.heap.size W w'))
    (HS : Hid (pb = true → qb = true → ∀ W, Calls Tryz.prog 48 #[.int .i64 (n : Nat)] W fun e w' => ∃ a k cp, e = .returned (.slice a k cp) ∧ w'.ownsRow W.heap.size 28 2 (.slice a k cp) (allS n).length (encS (allS n)) ∧ Below W.heap.size W w'))
    (HD : Hid (pb = true → qb = true → ∀ W W2 v, Below w.heap.size w W → W.heap[w.heap.size]? = some (pcsObj id c r m s (.slice ag n gc) (.slice am l mc)) → W.heap[w.heap.size + 1]? = some (pcsObj id' c' r' m' s' (.slice ag' n' gc') (.slice am' l' mc')) → Below W.heap.size W W2 → W2.ownsRow W.heap.size 28 2 v (allS n).length (encS (allS n)) →
      Calls Tryz.prog 55 #[v, .func (.func 53) #[] #[.pointer (some ⟨w.heap.size, 0, none⟩), .pointer (some ⟨w.heap.size + 1, 0, none⟩)]] W2 fun e w' => ∃ v', e = .returned v' ∧ SetAt w' v' F ∧ Below W.heap.size W w')) :
    Calls Tryz.prog 25 #[pcs id c r m s (.slice ag n gc) (.slice am l mc), pcs id' c' r' m' s' (.slice ag' n' gc') (.slice am' l' mc')] w fun e w' => ∃ v, e = .returned (.tuple #[v, .int .i64 (if pb && qb then 0 else 30)]) ∧ SetAt w' v (if pb && qb then F else []) ∧ Below w.heap.size w w' := by
  have hp : ((w.alloc (pcsObj id c r m s (.slice ag n gc) (.slice am l mc))).alloc (pcsObj id' c' r' m' s' (.slice ag' n' gc') (.slice am' l' mc'))).heap[w.heap.size]? = some (pcsObj id c r m s (.slice ag n gc) (.slice am l mc)) := (alloc_heap_old _ _ (by simp)).trans (alloc_heap_new _ _)
  have hq : ((w.alloc (pcsObj id c r m s (.slice ag n gc) (.slice am l mc))).alloc (pcsObj id' c' r' m' s' (.slice ag' n' gc') (.slice am' l' mc'))).heap[w.heap.size + 1]? = some (pcsObj id' c' r' m' s' (.slice ag' n' gc') (.slice am' l' mc')) := by
    have := alloc_heap_new (w.alloc (pcsObj id c r m s (.slice ag n gc) (.slice am l mc))) (pcsObj id' c' r' m' s' (.slice ag' n' gc') (.slice am' l' mc')); rwa [World.size_alloc] at this
  have b0 : Below w.heap.size w ((w.alloc (pcsObj id c r m s (.slice ag n gc) (.slice am l mc))).alloc (pcsObj id' c' r' m' s' (.slice ag' n' gc') (.slice am' l' mc'))) := ((Below.refl _ _).alloc (Nat.le_refl _) _).alloc (by simp) _
  obtain ⟨W0, hW0⟩ : ∃ W0, (w.alloc (pcsObj id c r m s (.slice ag n gc) (.slice am l mc))).alloc (pcsObj id' c' r' m' s' (.slice ag' n' gc') (.slice am' l' mc')) = W0 := ⟨_, rfl⟩
  rw [hW0] at hp hq b0
  obtain ⟨p0, p1, p2, p3, p4, p5, p6⟩ := And.intro (cell_of hp (k := 0) rfl) (And.intro (cell_of hp (k := 1) rfl) (And.intro (cell_of hp (k := 2) rfl) (And.intro (cell_of hp (k := 3) rfl) (And.intro (cell_of hp (k := 4) rfl) (And.intro (cell_of hp (k := 5) rfl) (cell_of hp (k := 6) rfl))))))
  have NE : ∀ W, SetAt W (.slice none 0 0) [] := fun W => .inl ⟨rfl, rfl⟩
  have HNE := Lib.hid NE
  clear NE
  cases pb
  · clear HS HD
    go_enter Tryz.func25, Tryz.ntmps25
    go_wp2_with (go_at_call 39; with_reducible refine (H1.out _ b0).mono ?_; rintro e w1 ⟨rfl, hb⟩)
    go_ret2
    exact ⟨_, rfl, HNE.out _, keep_below b0 hb⟩
  · go_enter Tryz.func25, Tryz.ntmps25
    go_wp2_with fail
    refine (H1.out _ b0).mono ?_
    rintro e w1 ⟨rfl, hb⟩
    have b1 := keep_below b0 hb
    replace hp := (hb.block _ (Array.getElem?_eq_some_iff.1 hp).1).trans hp
    replace hq := (hb.block _ (Array.getElem?_eq_some_iff.1 hq).1).trans hq
    clear hb p0 p1 p2 p3 p4 p5 p6 b0
    obtain ⟨q0, q1, q2, q3, q4, q5, q6⟩ := And.intro (cell_of hq (k := 0) rfl) (And.intro (cell_of hq (k := 1) rfl) (And.intro (cell_of hq (k := 2) rfl) (And.intro (cell_of hq (k := 3) rfl) (And.intro (cell_of hq (k := 4) rfl) (And.intro (cell_of hq (k := 5) rfl) (cell_of hq (k := 6) rfl))))))
    go_wp2_with fail
    refine (H2.out _ b1).mono ?_
    rintro e w2 ⟨rfl, hb⟩
    replace b1 := keep_below b1 hb
    replace hp := (hb.block _ (Array.getElem?_eq_some_iff.1 hp).1).trans hp
    replace hq := (hb.block _ (Array.getElem?_eq_some_iff.1 hq).1).trans hq
    clear hb q0 q1 q2 q3 q4 q5 q6
    cases qb
    · clear HS HD
      go_wp2
      go_ret2
      exact ⟨_, rfl, HNE.out _, b1⟩
    · have HDD := Lib.hid (HD.out (by trivial) (by trivial) w2)
      have HSS := HS.out (by trivial) (by trivial)
      have p5 : w2.cell? ⟨w.heap.size, 5, none⟩ = some (.slice ag n gc) := cell_of hp (k := 5) rfl
      clear HD HS H1 H2
      go_wp2_with fail
      refine (HSS _).mono ?_
      rintro e w3 ⟨a3, k3, cp3, rfl, ho, hb⟩
      have C55 := HDD.out w3 _ b1 hp hq hb ho
      clear ho hp hq p5 HDD HSS
      go_wp2_with fail
      refine C55.mono ?_
      rintro e w4 ⟨v4, rfl, hs, hb4⟩
      go_wp2
      go_ret2
      exact ⟨_, rfl, hs, keep_below b1 hb4⟩

end Go.Proofs.YtiommdfelnkibaaGreat

/- Agree of the program. -/
namespace Go.Proofs.YtiommdfelnkibaaGreat
open Go Go.RowKit Go.Proofs Go.Abs

theorem ok_sm {d : PcD} (h : d.ok = true) : d.sm := by
  obtain ⟨h3, h4⟩ := vP_marks h
  have h5 := vGs_ok h3
  have h6 := vMs_len h4
  exact ⟨by omega, by omega⟩

theorem agree25_any (p q : PcD) (vg vm vg' vm' : Value) (w : World) (hG : SlG w vg p.G) (hM : SlM w vm p.M) (hG' : SlG w vg' q.G) (hM' : SlM w vm' q.M) :
    Calls Tryz.prog 25 #[pcs p.id p.c p.r p.m p.s vg vm, pcs q.id q.c q.r q.m q.s vg' vm'] w fun e w' => ∃ v, e = .returned (.tuple #[v, .int .i64 (agE p q)]) ∧ SetAt w' v (agS p q) ∧ Below w.heap.size w w' := by
  obtain ⟨agp, gcp, rfl, -⟩ := _root_.id hG
  obtain ⟨amp, mcp, rfl, -⟩ := _root_.id hM
  obtain ⟨agq, gcq, rfl, -⟩ := _root_.id hG'
  obtain ⟨amq, mcq, rfl, -⟩ := _root_.id hM'
  have e1 : agE p q = if p.ok && q.ok then 0 else 30 := by
    unfold agE; cases p.ok <;> cases q.ok <;> rfl
  have e2 : agS p q = if p.ok && q.ok then ((allS p.G.length).filter fun s => alk (rsD p s.1 s.2) q) else [] := by
    unfold agS; cases p.ok <;> cases q.ok <;> rfl
  rw [e1, e2]
  refine agree25_walk p.id p.c p.r p.m p.s q.id q.c q.r q.m q.s agp amp agq amq p.G.length gcp q.G.length gcq p.M.length mcp q.M.length mcq w p.ok q.ok _
    (Lib.hid fun W hW => validPiece_any p.id p.c p.r p.m p.s _ _ p.G p.M W (hG.keep hW) (hM.keep hW))
    (Lib.hid fun W hW => validPiece_any q.id q.c q.r q.m q.s _ _ q.G q.M W (hG'.keep hW) (hM'.keep hW))
    (Lib.hid fun hp _ W => ?_) (Lib.hid fun hp hq W W2 v hW b0 b1 hW2 ho => ?_)
  · obtain ⟨h3, -, -⟩ := (⟨(vGs_ok (vP_marks hp).1).1, trivial, trivial⟩ : 3 ≤ p.G.length ∧ True ∧ True)
    have h24 := (vGs_ok (vP_marks hp).1).2.1
    refine (settings48_any p.G.length (by omega) W).mono ?_
    rintro e w' ⟨v, rfl, ho, hb⟩
    obtain ⟨g, cap, rfl, -⟩ := row_of_own ho (by rw [allS_len]; omega)
    exact ⟨_, _, _, rfl, ho, hb⟩
  · have hk := vGs_ok (vP_marks hp).1
    obtain ⟨g, cap, rfl, hg, hcap, hrow⟩ := row_of_own ho (by rw [allS_len]; omega)
    have HT : Tests 53 #[.pointer (some ⟨w.heap.size, 0, none⟩), .pointer (some ⟨w.heap.size + 1, 0, none⟩)] (fun s => alk (rsD p s.1 s.2) q) g W2 (allS p.G.length) := by
      intro W3 s hg3 hs
      have b3 : Below W.heap.size W W3 := hW2.grown hg3 hW2.size (fun k e => by cases e; exact hg)
      have bw : Below w.heap.size w W3 := keep_below hW b3
      have := clo53_any (p := p) (q := q) agp amp agq amq gcp mcp gcq mcq w.heap.size (w.heap.size + 1) s.1 s.2 W3 ((b3.block _ (Array.getElem?_eq_some_iff.1 b0).1).trans b0) ((b3.block _ (Array.getElem?_eq_some_iff.1 b1).1).trans b1)
        (hG.keep bw) (hM.keep bw) ⟨_, _, rfl, hG'.keep bw, hM'.keep bw, fun _ _ _ _ => Nat.zero_le _, fun _ _ _ _ => Nat.zero_le _⟩ hp (allS_lt s hs) (ok_sm hq)
      exact this
    refine (delete53_any _ _ (fun s => alk (rsD p s.1 s.2) q) g cap (allS p.G.length) (by rw [allS_len]; omega) hcap W2 hrow HT).mono ?_
    rintro e w' ⟨rfl, hr, hgr⟩
    exact ⟨_, rfl, .inr ⟨g, cap, rfl, hr⟩, hW2.grown hgr hW2.size (fun k e => by cases e; exact hg)⟩

end Go.Proofs.YtiommdfelnkibaaGreat
