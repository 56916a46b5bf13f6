/- The abstract machine, part XC. -/
import Derived.Test.YtlocdadkhdcedaaXB
import Derived.Test.YtlocdadkhdcedaaCA
import Derived.Test.YtlocdadkhdcedaaNA
import Derived.Test.YtlocdadkhdcedaaKC
/- Walks: leastBlock. -/
namespace Go.Proofs.Ytlocdadkhdcedaa
open Go Go.RowKit Go.Proofs Go.Abs Go.Plain

attribute [local go_sem] Oper.semAt_some

/-- What stands between two sizes. -/
structure MidB (xs ys : Nat → Int) (w : World) (v : Value) (n s : Nat) (Ds : List Nat) (W : World) : Prop where
  box : Boxed W w.heap.size 32 v
  res : Boxed W (w.heap.size + 1) 38 (.slice none 0 0)
  bel : Below w.heap.size w W
  nod : Ds.Nodup
  opn : Opens W Ds
  far : ∀ D ∈ Ds, w.heap.size + 2 ≤ D
  big : w.heap.size + 2 ≤ W.heap.size
  one : 1 ≤ s
  few : s ≤ n
  less : ∀ t g, t < s → Cho n t g → ¬ Blk xs ys (lst t g)

/-- The points with the first k numbers of a list. -/
def selL (xs ys : Nat → Int) (f : Nat → Nat) (k : Nat) : List (Int × Int) := (List.range k).map fun i => (xs (f i), ys (f i))

theorem selL_succ (xs ys : Nat → Int) (f : Nat → Nat) (k : Nat) : selL xs ys f (k + 1) = selL xs ys f k ++ [(xs (f k), ys (f k))] := by simp [selL, List.range_succ]

theorem selL_len (xs ys : Nat → Int) (f : Nat → Nat) (k : Nat) : (selL xs ys f k).length = k := by simp [selL]

theorem selL_own {xs ys : Nat → Int} {f : Nat → Nat} {k base g cap : Nat} {W : World} (h : W.ownsRow base 23 2 (.slice (some ⟨g, 0, none⟩) k cap) k (ptCells (selL xs ys f k))) :
    ∀ j, j < k → W.cell? ⟨g, 0 + j * 2, none⟩ = some (.int .i64 (xs (f j))) ∧ W.cell? ⟨g, 0 + j * 2 + 1, none⟩ = some (.int .i64 (ys (f j))) := by
  intro j hj
  obtain ⟨h1, h2⟩ := ptCells_get (selL xs ys f k) j (by rw [selL_len]; exact hj)
  have e : (selL xs ys f k).getD j (0, 0) = (xs (f j), ys (f j)) := by simp [selL, List.getD_eq_getElem?_getD, hj]
  rw [e] at h1 h2
  have c1 := World.ownsRow.cells (g := g) h rfl _ _ h1
  have c2 := World.ownsRow.cells (g := g) h rfl _ _ h2
  rw [Addr.add_lit] at c1 c2
  exact ⟨c1, by rw [Nat.add_assoc]; exact c2⟩

theorem row_not {W : World} {g s l : Nat} {f : Nat → Nat} {r : Loop} (h : RowAt W g s f) (hs : 0 < s) (hl : W.heap[l]? = some (.loop r)) : g ≠ l := by
  rintro rfl
  have hc := h.cell 0 hs
  simp [World.cell?, hl] at hc

/-- What is known between two rounds; what a round leaves that ends all. -/
def IB (xs ys : Nat → Int) (w : World) (v0 : Value) (s : Nat) (Ds : List Nat) (z : Nat) (pre : List (Nat × (Nat → Nat))) (X : World) : Prop :=
  (∀ x ∈ pre, ¬ Blk xs ys (lst s x.2)) ∧ (X.heap[w.heap.size]? = some (.cells #[v0] 32 (0, 0)) ∧ (X.heap[w.heap.size + 1]? = some (.cells #[.slice none 0 0] 38 (0, 0)) ∧ (Below w.heap.size w X ∧ (Opens X Ds ∧ z ≤ X.heap.size))))

def IxB (xs ys : Nat → Int) (w : World) (s : Nat) (Ds : List Nat) (c : Code) (pre : List (Nat × (Nat → Nat))) (X : World) : Prop :=
  (c = .ret ∧ ∃ pre' x v, pre = pre' ++ [x] ∧ (∀ y ∈ pre', ¬ Blk xs ys (lst s y.2)) ∧ Blk xs ys (lst s x.2) ∧ Boxed X (w.heap.size + 1) 38 v ∧ X.ownsRow w.heap.size 3 1 v s (numL s x.2)) ∧ Below w.heap.size w X ∧ Opens X Ds

set_option maxRecDepth 100000 in
set_option maxHeartbeats 8000000 in
theorem leastBlock_any (b off n cap : Nat) (xs ys : Nat → Int) (w : World) (hn : n ≤ 1000) (hs : ∀ k, k < n → Small (xs k) ∧ Small (ys k)) (hz : Plain.NonZ xs ys n)
    (hc : ∀ k, k < n → w.cell? ⟨b, off + k * 2, none⟩ = some (.int .i64 (xs k)) ∧ w.cell? ⟨b, off + k * 2 + 1, none⟩ = some (.int .i64 (ys k))) (hb : Blk xs ys (List.range n)) :
    Calls Try.prog 117 #[.slice (some ⟨b, off, none⟩) n cap] w fun e w' => ∃ s f v, e = .returned v ∧ LeastB xs ys n s f ∧ w'.ownsRow w.heap.size 3 1 v s (numL s f) ∧ Below w.heap.size w w' := by
  obtain ⟨v0, hv0⟩ : ∃ v0, Value.slice (some ⟨b, off, none⟩) n cap = v0 := ⟨_, rfl⟩
  refine (callsIn_wide (n := 6)).1 ?_
  refine callsIn_of_wp_marks Try.func117 rfl trivial ?_ rfl
  simp only [Try.ntmps117, List.size_toArray, List.length_cons, List.length_nil, Nat.reduceAdd, Nat.reduceSub, Array.replicate_succ, Array.replicate_zero, List.push_toArray, List.append_toArray, List.nil_append, List.cons_append]
  gi_wp2_with fail
  refine wpIn_loop (fun a W => ∃ s Ds u10 u11 u12 u13 u14 u15, MidB xs ys w v0 n s Ds W ∧ a = { tmps := #[v0, .pointer (some ⟨w.heap.size, 0, none⟩), .pointer (some ⟨w.heap.size + 1, 0, none⟩), .int .i64 (s : Nat), undef, undef, undef, undef, undef, undef, u10, u11, u12, u13, u14, u15, undef, undef, undef, undef, undef, undef, undef, undef, undef, undef, undef, undef, undef, undef, undef, undef, undef, undef, undef, undef, undef, undef, undef, undef], defers := Ds.map markD }) (fun a _ => n + 1 - (intOf (a.tmps.getD 3 undef)).toNat) ?start ?round
  case start =>
    refine ⟨1, [], _, _, _, _, _, _, ?_, by rw [← hv0]; rfl⟩
    have h1 := (Boxed.new w 32 v0).alloc (.cells #[.slice none 0 0] 38)
    have h2 := Boxed.new (w.alloc (.cells #[v0] 32)) 38 (.slice none 0 0)
    rw [World.size_alloc] at h2
    refine ⟨h1, h2, ((Below.refl _ w).alloc (Nat.le_refl _) _).alloc (by simp) _, List.nodup_nil, (fun D hD => by cases hD), (fun D hD => by cases hD), by simp, Nat.le_refl _, ?_, fun t g ht hg hk => small_blk (by omega) hk⟩
    rcases Nat.eq_zero_or_pos n with h0 | h0
    · subst h0
      exact absurd rfl hb.1
    · exact h0
  case round =>
    rintro a W ⟨s, Ds, u10, u11, u12, u13, u14, u15, hm, rfl⟩
    subst hv0
    have c0 := hm.box.cell
    gi_wp2_with (refine ⟨trivial, ?_⟩; gi_at_call 146; refine (choices_in 5 _ _ _).mono ?_; rintro e w' ⟨rfl, rfl⟩)
    have fx := hm.few
    have bx0 := (hm.box.alloc (.cells #[.int .i64 (n : Nat)] 3)).alloc (.cells #[.int .i64 (s : Nat)] 3)
    have rs0 := (hm.res.alloc (.cells #[.int .i64 (n : Nat)] 3)).alloc (.cells #[.int .i64 (s : Nat)] 3)
    have B0 := (hm.bel.alloc hm.bel.size (.cells #[.int .i64 (n : Nat)] 3)).alloc (Nat.le_trans hm.bel.size (by simp)) (.cells #[.int .i64 (s : Nat)] 3)
    have G0 := ((Below.refl _ W).alloc (Nat.le_refl _) (.cells #[.int .i64 (n : Nat)] 3)).alloc (by simp) (.cells #[.int .i64 (s : Nat)] 3)
    have op0 := open_keep hm.opn G0
    have cn := ((Boxed.new W 3 (.int .i64 (n : Nat))).alloc (.cells #[.int .i64 (s : Nat)] 3)).cell
    have cs := (Boxed.new (W.alloc (.cells #[.int .i64 (n : Nat)] 3)) 3 (.int .i64 (s : Nat))).cell
    rw [World.size_alloc] at cs
    have z0 : ((W.alloc (.cells #[.int .i64 (n : Nat)] 3)).alloc (.cells #[.int .i64 (s : Nat)] 3)).heap.size = W.heap.size + 2 := by simp
    obtain ⟨W0, hW0⟩ : ∃ W0, (W.alloc (.cells #[.int .i64 (n : Nat)] 3)).alloc (.cells #[.int .i64 (s : Nat)] 3) = W0 := ⟨_, rfl⟩
    rw [hW0] at bx0 rs0 B0 G0 op0 cn cs z0 ⊢
    have zb := hm.big
    have one := hm.one
    clear hW0 c0
    refine range_shows (gf := 159) (lb := #[.pointer (some ⟨W.heap.size + 1, 0, none⟩), .pointer (some ⟨W.heap.size, 0, none⟩)]) rfl (by omega) rfl trivial (enters_of Try.func159 (by kernel_rfl) rfl)
      (choices_shows 5 (by omega) (W.heap.size + 1) W.heap.size n s (by omega) fx (by omega) W0 cs cn) (fun _ => rfl)
      (IB xs ys w (.slice (some ⟨b, off, none⟩) n cap) s Ds W0.heap.size) (IxB xs ys w s Ds)
      ((past_pure _).and ((past_block (by omega)).and ((past_block (by omega)).and ((past_below (Nat.le_refl _) (by omega)).and ((past_open Ds (fun D hD => open_lt op0 D hD)).and past_size))))) ?hIx ⟨by simp, bx0, rs0, B0, op0, Nat.le_refl _⟩ ?rnd ?done ?stop
    case hIx =>
      rintro c pre X Y row ⟨⟨hc1, pre', x, v, h1, h2, h3, h4, h5⟩, h6, h7⟩ hg hr
      refine ⟨⟨hc1, pre', x, v, h1, h2, h3, h4.kept hg (fun e => ?_), h5.kept hg ?_⟩, h6.grown hg (Nat.le_trans (Nat.le_refl _) h6.size) (fun k e => by have := (hr k e).1; omega), fun D hD => (hg.block D (open_lt h7 D hD) (fun e => ?_)).trans (h7 D hD)⟩
      · have := (hr _ e.symm).1; omega
      · rcases h5.2 with ⟨rfl, _⟩ | ⟨g, cap, cur, rfl, _, hgb, _⟩
        · exact .inl rfl
        · refine .inr fun e' => ?_
          obtain ⟨_, o, ho, hc⟩ := hr g (by simpa [Value.ownBlock] using e'.symm)
          rw [hgb] at ho; cases ho; cases hc
      · have := (hr D e.symm).1
        have := open_lt op0 D hD
        omega
    case rnd =>
      rintro l pre ⟨g, f⟩ X hl ⟨r, hr⟩ ⟨hpre, hbx, hrs, hB, hO, hzz⟩ ⟨hR, hf⟩
      have hgl := row_not hR one hr
      have zz : w.heap.size + 2 ≤ W0.heap.size := by omega
      have Z0 := Lib.hid z0
      clear z0
      have hlX := (Array.getElem?_eq_some_iff.1 hr).1
      gi_wp2
      refine ⟨KeepsFrom.refl _ _, KeepsRows.refl _, fun o => ?_⟩
      have R1 := hR.put o hgl
      have bx1 : Boxed (X.putObj l o) w.heap.size 32 (.slice (some ⟨b, off, none⟩) n cap) := (World.putObj_heap_other (by omega)).trans hbx
      have rs1 : Boxed (X.putObj l o) (w.heap.size + 1) 38 (.slice none 0 0) := (World.putObj_heap_other (by omega)).trans hrs
      have B1 : Below w.heap.size w (X.putObj l o) := hB.grown (grownBy_putObj' X l o) hB.size (fun k e => by cases e; omega)
      have O1 := open_put hO o (fun h => by have := open_lt op0 l h; omega)
      have z1 : W0.heap.size ≤ (X.putObj l o).heap.size := by simpa using hzz
      obtain ⟨X1, hX1⟩ : ∃ X1, X.putObj l o = X1 := ⟨_, rfl⟩
      rw [hX1] at R1 bx1 rs1 B1 O1 z1 ⊢
      have HPRE := Lib.hid hpre
      have HF := Lib.hid hf
      clear hX1 hR hbx hrs hB hO hzz hr hlX hgl hpre hf
      obtain ⟨i0, hi, hz0, hz1, hz2⟩ := info_parts info23
      gi_wp2_with fail
      gi_loopw [5, 19] (fun t i wr => ∃ (k : Nat) (v : Value), k ≤ s ∧ i = .int .i64 k ∧ t = v ∧ wr.ownsRow X1.heap.size 23 2 v k (ptCells (selL xs ys f k)) ∧ Below X1.heap.size X1 wr) (fun _ i _ => s - (intOf i).toNat)
      case atStart => exact ⟨0, _, Nat.zero_le _, rfl, rfl, World.ownsRow_nil _ _ _ _, Below.refl _ _⟩
      case round =>
        obtain ⟨k, v, hk, rfl, rfl, hown, hbel⟩ := hrel
        by_cases hlt : k < s
        · have j1 : (k : Int) < (s : Int) := by omega
          have fk := HF.out.lt k hlt
          have e0 := (R1.below hbel).cell k hlt
          have e1 := keep_cell (hbel) bx1.cell
          have p0 := keep_cell ((B1.trans (hbel.mono B1.size))) (hc (f k) fk).1
          have p1 := keep_cell ((B1.trans (hbel.mono B1.size))) (hc (f k) fk).2
          have j2 : (f k : Int) < (n : Int) := by omega
          have hsuc := Lib.hid (selL_succ xs ys f k)
          have hptc := Lib.hid (ptCells_snoc (selL xs ys f k) (xs (f k)) (ys (f k)))
          generalize xs (f k) = x at *
          generalize ys (f k) = y at *
          generalize f k = q at *
          gi_wp2_with (gi_at_builtin; refine wpListIn_append_own _ rfl _ _ 32 rfl X1.heap.size 23 i0 (pt 0 0) 2 16 Try.underlying32 hi hz0 hz1 hz2 rfl (by decide) _ _ _ rfl (hown.alloc _) _ 1 1 [.int .i64 x, .int .i64 y] rfl rfl (two_new _ _ _) (two_cells _ _) (by unfold maxLen; omega) (by omega) (by have := hbel.size; simp; omega) ?_; intro v1 w3 hown1 hgrow _)
          refine ⟨⟨k + 1, v1, by omega, by simp, rfl, ?_, (hbel.alloc hbel.size _).grown hgrow (by have := hbel.size; simp; omega) (fun j e => (hown.lt j e).1)⟩, by simp [intOf]; omega⟩
          rw [hsuc.out, hptc.out]
          exact hown1
        · obtain rfl : k = s := by omega
          obtain ⟨g', cap', rfl⟩ := own_slice hown one
          have FD := freeDirection_any g' 0 k cap' (fun i => xs (f i)) (fun i => ys (f i)) wr (by omega) one (fun i hi => hs (f i) (HF.out.lt i hi)) (nonZ_comp hz (fun i hi => HF.out.lt i hi)) (selL_own hown)
          have HQ := Lib.hid (freeD_comp (f := f) hz (fun i hi => HF.out.lt i hi))
          obtain ⟨D, hD⟩ : ∃ D, freeD (fun i => xs (f i)) (fun i => ys (f i)) k = D := ⟨_, rfl⟩
          rw [hD] at FD HQ
          have R2 := R1.below hbel
          have bx2 := below_box hbel bx1
          have rs2 := below_box hbel rs1
          have B2 := B1.trans (hbel.mono B1.size)
          have O2 := open_keep O1 hbel
          have HB1 := Lib.hid hbel
          clear hD hown R1
          cases D with
          | none =>
            simp only [dirV, Option.isSome_none] at FD
            gi_wp2_with fail
            refine ⟨trivial, ?_⟩
            refine (CallsIn.inRound l (callsIn_wide.2 FD)).mono ?_
            rintro e w4 ⟨rfl, hbw⟩
            change Below wr.heap.size wr w4 at hbw
            have R4 := (R2.below hbw).below ((Below.refl _ _).alloc (Nat.le_refl _) (ptObj 0 0))
            have CL := clone_any g k k f one (by omega) _ R4
            gi_wp2_with fail
            refine ⟨trivial, ?_⟩
            refine (CallsIn.inRound l (callsIn_wide.2 CL)).mono ?_
            rintro e w5 ⟨v', rfl, hown', hb5⟩
            obtain ⟨gv, cv, rfl⟩ := own_slice hown' one
            have hall := (HB1.out.trans (hbw.mono HB1.out.size)).trans ((((Below.refl _ w4).alloc (Nat.le_refl _) (ptObj 0 0)).trans (hb5.mono (by simp))).mono (Nat.le_trans HB1.out.size hbw.size))
            have hall2 : Below wr.heap.size wr w5 := hbw.trans ((((Below.refl _ w4).alloc (Nat.le_refl _) (ptObj 0 0)).trans (hb5.mono (by simp))).mono hbw.size)
            have rs5 := below_box hall2 rs2
            have B5 := B2.trans (hall2.mono B2.size)
            have O5 := open_keep O2 hall2
            have kf5 := keepsFrom_below W0.heap.size hall
            have own5 := own_low hown' (b' := w.heap.size) (by have := B2.size; have := hbw.size; simp; omega)
            have cR := rs5.cell
            have fR := rs5.frozen
            gi_wp2
            refine ⟨kf5.trans ((KeepsOthers.setCell _ _ _).from _), ⟨rfl, pre, (g, f), _, rfl, HPRE.out, HQ.out.1 (by trivial), rs5.set _, own5.kept (grownBy_setCell' w5 (w.heap.size + 1) _) (.inr ?_)⟩, B5.setCell (by simp) _, fun E hE => ?_⟩
            · intro e
              have h1 : gv = w.heap.size + 1 := by simpa [Value.ownBlock] using e
              have h2 := hown'.lt gv rfl
              have := B2.size
              have := hbw.size
              simp at h2
              have := rs2.lt
              omega
            · exact (Below.heap_setCell _ _ _ _ (by have := hm.far E hE; show E ≠ w.heap.size + 1; omega)).trans (O5 E hE)
          | some d =>
            obtain ⟨dx, dy⟩ := d
            simp only [dirV, Option.isSome_some] at FD
            gi_wp2_with fail
            refine ⟨trivial, ?_⟩
            refine (CallsIn.inRound l (callsIn_wide.2 FD)).mono ?_
            rintro e w4 ⟨rfl, hbw⟩
            change Below wr.heap.size wr w4 at hbw
            gi_wp2_with fail
            have hall2 : Below wr.heap.size wr (w4.alloc (ptObj dx dy)) := hbw.alloc hbw.size _
            have hall := HB1.out.trans (hall2.mono HB1.out.size)
            have rs5 := below_box hall2 rs2
            have bx5 := below_box hall2 bx2
            refine ⟨keepsFrom_below _ hall, KeepsRows.below hall, ?_, bx5, rs5, B2.trans (hall2.mono B2.size), open_keep O2 hall2, Nat.le_trans (by omega) hall.size⟩
            intro x hx
            rcases List.mem_append.1 hx with h1 | h1
            · exact HPRE.out x h1
            · rw [List.mem_singleton.1 h1]
              intro hbl
              have := HQ.out.2 hbl
              cases this
    case done =>
      rintro D pre X hD hS ⟨hpre, hbx, hrs, hB, hO, hzz⟩ hK
      gi_wp2
      refine ⟨⟨s + 1, D :: Ds, _, _, _, _, _, _, ⟨hbx, hrs, hB, List.nodup_cons.2 ⟨fun h => ?_, hm.nod⟩, fun E hE => ?_, fun E hE => ?_, Nat.le_trans (by omega) hzz, by omega, ?_, fun t g ht hg hk => ?_⟩, by rw [show ((s + 1 : Nat) : Int) = (s : Int) + 1 by omega]; rfl⟩, ?_⟩
      · have := open_lt op0 D h
        omega
      · rcases List.mem_cons.1 hE with rfl | h
        · exact hK
        · exact hO E h
      · rcases List.mem_cons.1 hE with rfl | h
        · omega
        · exact hm.far E h
      · obtain ⟨t, g, ht, hg, hk⟩ := blk_four hb
        rcases Nat.lt_trichotomy t s with h | h | h
        · exact absurd hk (hm.less t g h hg)
        · subst h
          obtain ⟨x, hx, hsm⟩ := hS g hg
          rw [lst_same hsm] at hk
          exact absurd hk (hpre x hx)
        · have := hg.size
          omega
      · rcases Nat.lt_or_ge t s with h | h
        · exact hm.less t g h hg hk
        · obtain rfl : t = s := by omega
          obtain ⟨x, hx, hsm⟩ := hS g hg
          rw [lst_same hsm] at hk
          exact hpre x hx hk
      · simp [intOf]
        omega
    case stop =>
      rintro D c pre X hD ⟨pre2, x2, e2, hcho, hbef⟩ ⟨⟨rfl, pre', x, v, h1, h2, h3, h4, h5⟩, h6, h7⟩ hK
      obtain ⟨rfl, rfl⟩ : pre2 = pre' ∧ x2 = x := by
        have := e2.symm.trans h1
        obtain ⟨a1, a2⟩ := List.append_inj' this rfl
        exact ⟨a1, by simpa using a2⟩
      have hnod : (D :: Ds).Nodup := List.nodup_cons.2 ⟨fun h => by have := open_lt op0 D h; omega, hm.nod⟩
      have hops : Opens X (D :: Ds) := fun E hE => (List.mem_cons.1 hE).elim (fun e => by rw [e]; exact hK) (h7 E)
      have hnot : w.heap.size + 1 ∉ (D :: Ds) := fun h => by
        rcases List.mem_cons.1 h with h | h
        · omega
        · have := hm.far _ h; omega
      have hc5 : (shut X (D :: Ds)).cell? ⟨w.heap.size + 1, 0, none⟩ = some v := cell_at ((shut_block _ _ hnot).trans h4) rfl
      have hlen := h5.1
      generalize hSX : shut X (D :: Ds) = SX at hc5
      gi_wp2
      refine leaves_marks (D :: Ds) X hnod hops ⟨v, by rw [hSX]; simp [results, Try.f117, go_sem, hc5], s, x2.2, v, rfl, ⟨hcho, h3, hm.less, fun g hg hl hk => ?_⟩, shut_own _ _ hnod hops h5, h6.trans (shut_below _ _ (fun E hE => ?_) h6.size)⟩
      · obtain ⟨y, hy, hsm⟩ := hbef g hg hl
        rw [lst_same hsm] at hk
        exact h2 y hy hk
      · rcases List.mem_cons.1 hE with rfl | h
        · omega
        · have := hm.far E h; omega

end Go.Proofs.Ytlocdadkhdcedaa

/- Walks: Exit. -/
namespace Go.Proofs.Ytlocdadkhdcedaa
open Go Go.RowKit Go.Proofs Go.Abs Go.Plain

def allN (xs ys : Nat → Int) (n : Nat) : Bool := (List.range n).all fun j => validN (xs j) (ys j)
def okN (xs ys : Nat → Int) (n : Nat) : Bool := decide (n ≤ 24) && allN xs ys n

theorem allN_succ (xs ys : Nat → Int) (n : Nat) : allN xs ys (n + 1) = (allN xs ys n && validN (xs n) (ys n)) := by
  simp [allN, List.range_succ, List.all_append]

theorem allN_false {xs ys : Nat → Int} {k n : Nat} (hk : k < n) (h : validN (xs k) (ys k) = false) : allN xs ys n = false := by
  unfold allN
  rw [List.all_eq_false]
  exact ⟨k, List.mem_range.2 hk, by simp [h]⟩

theorem allN_get {xs ys : Nat → Int} {n : Nat} (h : allN xs ys n = true) {k : Nat} (hk : k < n) : validN (xs k) (ys k) = true := by
  unfold allN at h
  rw [List.all_eq_true] at h
  exact h k (List.mem_range.2 hk)

theorem validN_small {x y : Int} (h : validN x y = true) : Small x ∧ Small y := by
  unfold validN withinB at h
  simp only [Bool.and_eq_true, decide_eq_true_eq] at h
  unfold Small
  omega

theorem validN_ne {x y : Int} (h : validN x y = true) : x ≠ 0 ∨ y ≠ 0 := by
  unfold validN withinB at h
  simp only [Bool.and_eq_true, Bool.not_eq_true', Bool.and_eq_false_iff, beq_eq_false_iff_ne] at h
  exact h.2.2

/-- What Exit says: the direction, the block, the error. -/
def ExitS (xs ys : Nat → Int) (n base : Nat) (W : World) (dv bv : Value) (E : Int) : Prop :=
  (E = 1 ∧ okN xs ys n = false ∧ dv = pt 0 0 ∧ bv = .slice none 0 0) ∨
  (E = 0 ∧ okN xs ys n = true ∧ bv = .slice none 0 0 ∧ ∃ d, freeD xs ys n = some d ∧ dv = pt d.1 d.2) ∨
  (E = 13 ∧ okN xs ys n = true ∧ freeD xs ys n = none ∧ dv = pt 0 0 ∧ ∃ s f, LeastB xs ys n s f ∧ W.ownsRow base 3 1 bv s (numL s f))

set_option maxRecDepth 100000 in
set_option maxHeartbeats 8000000 in
theorem exit_any (b off n cap : Nat) (xs ys : Nat → Int) (w : World) (hpos : 0 < n) (hbig : n ≤ 9223372036854775807)
    (hc : ∀ k, k < n → w.cell? ⟨b, off + k * 2, none⟩ = some (.int .i64 (xs k)) ∧ w.cell? ⟨b, off + k * 2 + 1, none⟩ = some (.int .i64 (ys k))) :
    Calls Try.prog 61 #[.slice (some ⟨b, off, none⟩) n cap] w fun e w' => ∃ dv bv E, e = .returned (.tuple #[dv, bv, .int .i64 E]) ∧ ExitS xs ys n w.heap.size w' dv bv E ∧ Below w.heap.size w w' := by
  have HC := Lib.hid hc
  clear hc
  have p0 := Pb.new w 0 0
  have b0 : Below w.heap.size w (w.alloc (ptObj 0 0)) := (Below.refl _ _).alloc (Nat.le_refl _) _
  by_cases h24 : n ≤ 24
  · have i0 : ¬ (n : Int) > 24 := by omega
    go_enter Try.func61, Try.ntmps61
    go_wp2_with fail
    go_loopw [15] (fun i wr => ∃ k : Nat, k ≤ n ∧ i = .int .i64 k ∧ Below w.heap.size w wr ∧ Pb wr w.heap.size 0 0 ∧ allN xs ys k = true) (fun i _ => n - (intOf i).toNat)
    case atStart => exact ⟨0, Nat.zero_le _, rfl, b0, p0, rfl⟩
    case round =>
      clear b0 p0
      obtain ⟨k, hk, rfl, hbel, hp, hall⟩ := hrel
      have HA := Lib.hid hall
      clear hall
      have r0 := hp.c0
      have r1 := hp.c1
      have r2 := hp.f 0
      have r3 := hp.f 1
      by_cases hlt : k < n
      · have j1 : (k : Int) < (n : Int) := by omega
        have e0 := keep_cell hbel (HC.out k hlt).1
        have e1 := keep_cell hbel (HC.out k hlt).2
        have V := fun w => validNormal_any (xs k) (ys k) w
        obtain ⟨v, hv⟩ : ∃ v, validN (xs k) (ys k) = v := ⟨_, rfl⟩
        rw [hv] at V
        have HV := Lib.hid hv
        clear hv
        obtain ⟨x, hx⟩ : ∃ x, xs k = x := ⟨_, rfl⟩
        obtain ⟨y, hy⟩ : ∃ y, ys k = y := ⟨_, rfl⟩
        rw [hx] at e0 V
        rw [hy] at e1 V
        clear hx hy
        have b1 := hbel.alloc hbel.size (ptObj x y)
        have p1 := hp.alloc (ptObj x y)
        go_wp2_with fail
        refine (V _).mono ?_
        rintro e w2 ⟨rfl, hb⟩
        have b2 := keep_below b1 hb
        have p2 := p1.keep hb
        clear hb b1 p1 e0 e1 r0 r1 r2 r3
        have r0 := p2.c0
        have r1 := p2.c1
        have r2 := p2.f 0
        have r3 := p2.f 1
        cases v
        · go_wp2
          refine bodyPost_ret (v := .tuple #[pt 0 0, .slice none 0 0, .int .i64 1]) ?_ rfl ⟨pt 0 0, .slice none 0 0, 1, rfl, .inl ⟨rfl, ?_, rfl, rfl⟩, (b2.setCell (Nat.le_refl _) _).setCell (Nat.le_refl _) _⟩
          · exact (res_cell_tmp2 (fn := Try.f61) rfl _ (by rfl) (p2.set _ _).load).trans (by rfl)
          · unfold okN
            rw [allN_false hlt HV.out, Bool.and_false]
        · go_wp2
          refine ⟨⟨k + 1, by omega, by simp, b2, p2, ?_⟩, by simp [intOf]; omega⟩
          rw [allN_succ, HA.out, HV.out]
          rfl
      · obtain rfl : k = n := by omega
        have hs : ∀ j, j < k → Small (xs j) ∧ Small (ys j) := fun j hj => validN_small (allN_get HA.out hj)
        have hz : NonZ xs ys k := fun j hj => validN_ne (allN_get HA.out hj)
        have FD := fun W (hb : Below w.heap.size w W) => freeDirection_any b off k cap xs ys W (by omega) hpos hs hz (fun j hj => ⟨keep_cell hb (HC.out j hj).1, keep_cell hb (HC.out j hj).2⟩)
        have HF := Lib.hid (freeD_none hz)
        have LB := fun W (hb : Below w.heap.size w W) hB => leastBlock_any b off k cap xs ys W (by omega) hs hz (fun j hj => ⟨keep_cell hb (HC.out j hj).1, keep_cell hb (HC.out j hj).2⟩) hB
        have HD : Hid (∀ D, freeD xs ys k = D → freeD xs ys k = D) := Lib.hid (fun D h => h)
        obtain ⟨D, hD⟩ : ∃ D, freeD xs ys k = D := ⟨_, rfl⟩
        have HDD := Lib.hid hD
        rw [hD] at FD
        clear hs hz hD
        cases D with
        | some d =>
          obtain ⟨dx, dy⟩ := d
          simp only [dirV, Option.isSome_some] at FD
          go_wp2_with fail
          refine (FD _ hbel).mono ?_
          rintro e w2 ⟨rfl, hb⟩
          have b2 := keep_below hbel hb
          have p2 := hp.keep hb
          clear hb r0 r1 r2 r3
          have r0 := p2.c0
          have r1 := p2.c1
          have r2 := p2.f 0
          have r3 := p2.f 1
          have z2 := p2.lt
          go_wp2
          refine bodyPost_ret (v := .tuple #[pt dx dy, .slice none 0 0, .int .i64 0]) ?_ rfl ⟨pt dx dy, .slice none 0 0, 0, rfl, .inr (.inl ⟨rfl, by unfold okN; rw [HA.out, decide_eq_true h24]; rfl, rfl, (dx, dy), HDD.out, rfl⟩), ((b2.setCell (Nat.le_refl _) _).setCell (Nat.le_refl _) _).alloc (by have := b2.size; simpa using this) _⟩
          exact (res_cell_tmp2 (fn := Try.f61) rfl _ (by rfl) ((p2.set _ _).alloc _).load).trans (by rfl)
        | none =>
          simp only [dirV, Option.isSome_none] at FD
          go_wp2_with fail
          refine (FD _ hbel).mono ?_
          rintro e w2 ⟨rfl, hb⟩
          have b2 := keep_below hbel hb
          have p2 := hp.keep hb
          clear hb r0 r1 r2 r3
          have p3 := p2.alloc (ptObj 0 0)
          have b3 := b2.alloc b2.size (ptObj 0 0)
          have r0 := p3.c0
          have r1 := p3.c1
          have r2 := p3.f 0
          have r3 := p3.f 1
          have z2 := p2.lt
          go_wp2_with fail
          refine (LB _ b3 (HF.out.1 HDD.out)).mono ?_
          rintro e w4 ⟨s, f, v, rfl, hL, hown, hb⟩
          have b4 := keep_below b3 hb
          have p4 := p3.keep hb
          have b3z := b3.size
          clear hb r0 r1 r2 r3
          have r0 := p4.c0
          have r1 := p4.c1
          have r2 := p4.f 0
          have r3 := p4.f 1
          go_wp2
          refine bodyPost_ret (v := .tuple #[pt 0 0, v, .int .i64 13]) ?_ rfl ⟨pt 0 0, v, 13, rfl, .inr (.inr ⟨rfl, by unfold okN; rw [HA.out, decide_eq_true h24]; rfl, HDD.out, rfl, s, f, hL, ?_⟩), (b4.setCell (Nat.le_refl _) _).setCell (Nat.le_refl _) _⟩
          · exact (res_cell_tmp2 (fn := Try.f61) rfl _ (by rfl) (p4.set _ _).load).trans (by rfl)
          · have hnb : v.ownBlock = none ∨ v.ownBlock ≠ some w.heap.size := by
              cases ho : v.ownBlock with
              | none => exact .inl rfl
              | some g =>
                refine .inr (fun e => ?_)
                have := hown.lt g ho
                have hz3 : (w2.alloc (ptObj 0 0)).heap.size = w2.heap.size + 1 := by simp
                cases e
                omega
            exact ((own_low hown b3z).kept (grownBy_set w4 w.heap.size 0 _) hnb).kept (grownBy_set _ w.heap.size 1 _) hnb
  · have i0 : (n : Int) > 24 := by omega
    go_enter Try.func61, Try.ntmps61
    go_wp2
    refine bodyPost_ret (v := .tuple #[pt 0 0, .slice none 0 0, .int .i64 1]) ?_ rfl ⟨pt 0 0, .slice none 0 0, 1, rfl, .inl ⟨rfl, by unfold okN; rw [decide_eq_false h24]; rfl, rfl, rfl⟩, b0⟩
    exact (res_cell_tmp2 (fn := Try.f61) rfl _ (by rfl) p0.load).trans (by rfl)

end Go.Proofs.Ytlocdadkhdcedaa

/- Walks: Exit of no normals; the reference's Frees. -/
namespace Go.Proofs.Ytlocdadkhdcedaa
open Go Go.RowKit Go.Proofs Go.Abs Go.Plain

set_option maxRecDepth 100000 in
set_option maxHeartbeats 4000000 in
theorem exit_zero (a : Option Addr) (cap : Nat) (xs ys : Nat → Int) (w : World) :
    Calls Try.prog 61 #[.slice a 0 cap] w fun e w' => ∃ dv bv E, e = .returned (.tuple #[dv, bv, .int .i64 E]) ∧ ExitS xs ys 0 w.heap.size w' dv bv E ∧ Below w.heap.size w w' := by
  have p0 := Pb.new w 0 0
  have b0 : Below w.heap.size w (w.alloc (ptObj 0 0)) := (Below.refl _ _).alloc (Nat.le_refl _) _
  go_enter Try.func61, Try.ntmps61
  go_wp2_with fail
  go_loopw [15] (fun i wr => i = .int .i64 0 ∧ Below w.heap.size w wr ∧ Pb wr w.heap.size 0 0) (fun i _ => 0 - (intOf i).toNat)
  case atStart => exact ⟨rfl, b0, p0⟩
  case round =>
    clear b0 p0
    obtain ⟨rfl, hbel, hp⟩ := hrel
    have FD := freeDirection_zero a cap xs ys wr
    simp only [freeD, if_true, dirV, Option.isSome_some] at FD
    go_wp2_with fail
    refine FD.mono ?_
    rintro e w2 ⟨rfl, hb⟩
    have b2 := keep_below hbel hb
    have p2 := hp.keep hb
    have r0 := p2.c0
    have r1 := p2.c1
    have r2 := p2.f 0
    have r3 := p2.f 1
    have z2 := p2.lt
    clear hb
    go_wp2
    refine bodyPost_ret (v := .tuple #[pt 1 0, .slice none 0 0, .int .i64 0]) ?_ rfl ⟨pt 1 0, .slice none 0 0, 0, rfl, .inr (.inl ⟨rfl, rfl, rfl, (1, 0), rfl, rfl⟩), ((b2.setCell (Nat.le_refl _) _).setCell (Nat.le_refl _) _).alloc (by have := b2.size; simpa using this) _⟩
    exact (res_cell_tmp2 (fn := Try.f61) rfl _ (by rfl) ((p2.set _ _).alloc _).load).trans (by rfl)

/-- Is a direction free, and none zero? -/
def freesR (dx dy : Int) (xs ys : Nat → Int) (n : Nat) : Bool := freeOf dx dy xs ys n && !(dx == 0 && dy == 0)

set_option maxRecDepth 100000 in
set_option maxHeartbeats 4000000 in
theorem frees_any (dx dy : Int) (xs ys : Nat → Int) (b off n cap : Nat) (w : World) (hn : n ≤ 9223372036854775807) (hdx : Small dx) (hdy : Small dy) (hs : ∀ k, k < n → Small (xs k) ∧ Small (ys k))
    (hc : ∀ k, k < n → w.cell? ⟨b, off + k * 2, none⟩ = some (.int .i64 (xs k)) ∧ w.cell? ⟨b, off + k * 2 + 1, none⟩ = some (.int .i64 (ys k))) :
    Calls Try.prog 71 #[pt dx dy, .slice (some ⟨b, off, none⟩) n cap] w fun e w' => e = .returned (.bool (freesR dx dy xs ys n)) ∧ Below w.heap.size w w' := by
  have HC := Lib.hid hc
  have HS := Lib.hid hs
  clear hc hs
  have HX := Lib.hid hdx
  have HY := Lib.hid hdy
  clear hdx hdy
  have E := fun w => run_pt_neq dx dy 0 0 w
  obtain ⟨z, hz⟩ : ∃ z, (dx == 0 && dy == 0) = z := ⟨_, rfl⟩
  rw [hz] at E
  have HZ := Lib.hid hz
  clear hz
  go_enter Try.func71, Try.ntmps71
  go_wp2_with fail
  have p0 := Pb.new w dx dy
  have b0 : Below w.heap.size w (w.alloc (ptObj dx dy)) := (Below.refl _ _).alloc (Nat.le_refl _) _
  go_loopw [5] (fun i wr => ∃ k : Nat, k ≤ n ∧ i = .int .i64 k ∧ Below w.heap.size w wr ∧ Pb wr w.heap.size dx dy ∧ freeOf dx dy xs ys k = true) (fun i _ => n - (intOf i).toNat)
  case atStart => exact ⟨0, Nat.zero_le _, rfl, b0, p0, rfl⟩
  case round =>
    clear b0 p0
    obtain ⟨k, hk, rfl, hbel, hp, hall⟩ := hrel
    have HA := Lib.hid hall
    clear hall
    have r0 := hp.c0
    have r1 := hp.c1
    by_cases hlt : k < n
    · have j1 : (k : Int) < (n : Int) := by omega
      have e0 := keep_cell hbel (HC.out k hlt).1
      have e1 := keep_cell hbel (HC.out k hlt).2
      have m1 := mul_le HX.out (HS.out k hlt).1
      have m2 := mul_le HY.out (HS.out k hlt).2
      have U1 : IntKind.i64.wrap (dx * xs k) = dx * xs k := wi64 _ (by omega)
      have U2 : IntKind.i64.wrap (dy * ys k) = dy * ys k := wi64 _ (by omega)
      have U3 : IntKind.i64.wrap (dx * xs k + dy * ys k) = dx * xs k + dy * ys k := wi64 _ (by omega)
      have HN := Lib.hid (freeOf_succ dx dy xs ys k)
      have HF : Hid (0 < dx * xs k + dy * ys k → freeOf dx dy xs ys n = false) := Lib.hid (fun h => freeOf_false hlt h)
      obtain ⟨p, hp1⟩ : ∃ p, dx * xs k = p := ⟨_, rfl⟩
      obtain ⟨q, hq1⟩ : ∃ q, dy * ys k = q := ⟨_, rfl⟩
      rw [hp1] at U1 U3 HN HF
      rw [hq1] at U2 U3 HN HF
      have HP := Lib.hid hp1
      have HQ := Lib.hid hq1
      clear m1 m2
      go_wp2_with fail
      go_quiet (fail)
      by_cases h : 0 < p + q
      · have hf := HF.out h
        go_wp2
        go_ret
        exact ⟨by unfold freesR; rw [hf]; rfl, below_dn hbel _⟩
      · go_wp2
        refine ⟨⟨k + 1, by omega, by simp, below_dn hbel _, hp, ?_⟩, by simp [intOf]; omega⟩
        rw [HN.out, HA.out]
        simpa using h
    · obtain rfl : k = n := by omega
      cases z
      · go_wp2
        go_ret
        exact ⟨by unfold freesR; rw [HA.out, HZ.out]; rfl, hbel⟩
      · go_wp2
        go_ret
        exact ⟨by unfold freesR; rw [HZ.out]; simp, hbel⟩

end Go.Proofs.Ytlocdadkhdcedaa

/- Walks: the reference's exit. -/
namespace Go.Proofs.Ytlocdadkhdcedaa
open Go Go.RowKit Go.Proofs Go.Abs Go.Plain

theorem dir_ne {xs ys : Nat → Int} {i : Nat} (h : xs i ≠ 0 ∨ ys i ≠ 0) : (dX xs ys i == 0 && dY xs ys i == 0) = false := by
  obtain ⟨m1, m2⟩ := dir_mul (xs := xs) (ys := ys) i
  rw [Bool.and_eq_false_iff, beq_eq_false_iff_ne, beq_eq_false_iff_ne]
  rcases Classical.em (dX xs ys i = 0) with e1 | e1
  · rcases Classical.em (dY xs ys i = 0) with e2 | e2
    · exfalso
      rw [e1, Int.mul_zero] at m1
      rw [e2, Int.mul_zero] at m2
      rcases h with h | h
      · exact h m2.symm
      · omega
    · exact .inr e2
  · exact .inl e1

set_option maxRecDepth 100000 in
set_option maxHeartbeats 4000000 in
theorem refExit0_any (b off n cap : Nat) (xs ys : Nat → Int) (w : World) (hn : n ≤ 1000000) (hpos : 0 < n) (hs : ∀ k, k < n → Small (xs k) ∧ Small (ys k)) (hz : Plain.NonZ xs ys n)
    (hc : ∀ k, k < n → w.cell? ⟨b, off + k * 2, none⟩ = some (.int .i64 (xs k)) ∧ w.cell? ⟨b, off + k * 2 + 1, none⟩ = some (.int .i64 (ys k))) :
    Calls Try.prog 119 #[.slice (some ⟨b, off, none⟩) n cap] w fun e w' => e = .returned (dirV (Plain.freeD xs ys n)) ∧ Below w.heap.size w w' := by
  have HS := Lib.hid hs
  have HZ := Lib.hid hz
  have HC := Lib.hid hc
  clear hs hz hc
  have i0 : ((n : Int) == 0) = false := by simp; omega
  have p0 := Pb.new w 0 0
  have b0 : Below w.heap.size w (w.alloc (ptObj 0 0)) := (Below.refl _ _).alloc (Nat.le_refl _) _
  go_enter Try.func119, Try.ntmps119
  go_wp2_with fail
  go_loopw [3] (fun i wr => ∃ k : Nat, k ≤ n ∧ i = .int .i64 k ∧ Below w.heap.size w wr ∧ Pb wr w.heap.size 0 0 ∧ Plain.freeTo xs ys n k = none) (fun i _ => n - (intOf i).toNat)
  case atStart => exact ⟨0, Nat.zero_le _, rfl, b0, p0, rfl⟩
  case round =>
    clear b0 p0
    obtain ⟨k, hk, rfl, hbel, hp, hnone⟩ := hrel
    have HN := Lib.hid hnone
    clear hnone
    by_cases hlt : k < n
    · have j1 : (k : Int) < (n : Int) := by omega
      have e0 := keep_cell hbel (HC.out k hlt).1
      have e1 := keep_cell hbel (HC.out k hlt).2
      obtain ⟨g, hg⟩ : ∃ g : Nat, Int.gcd (xs k) (ys k) = g := ⟨_, rfl⟩
      have g0 : (0 : Int) < (g : Int) := by have := Plain.gcd_pos (HZ.out k hlt); rw [hg] at this; exact this
      have s1 := (HS.out k hlt).1
      have s2 := (HS.out k hlt).2
      have A1 := fun w => refAbs_any (xs k) w s1
      have A2 := fun w => refAbs_any (ys k) w s2
      have G := fun w => refGcd_any (max (xs k) (-(xs k))) (max (ys k) (-(ys k))) w (by unfold Small at *; omega) (by unfold Small at *; omega) (by omega) (by omega)
      rw [Plain.gcd_abs, hg] at G
      have db := Plain.dir_bound (xs := xs) (ys := ys) (B := 8192) k (HZ.out k hlt) s1 s2
      have T1 : (-(ys k)).tdiv (g : Int) = Plain.dX xs ys k := by rw [← hg]; rfl
      have T2 : (xs k).tdiv (g : Int) = Plain.dY xs ys k := by rw [← hg]; rfl
      have T3 : (ys k).tdiv (g : Int) = -(Plain.dX xs ys k) := by rw [← T1, Int.neg_tdiv, Int.neg_neg]
      have T4 : (-(xs k)).tdiv (g : Int) = -(Plain.dY xs ys k) := by rw [← T2, Int.neg_tdiv]
      have HF : Hid (Plain.freeAt xs ys n k = if freeOf (Plain.dX xs ys k) (Plain.dY xs ys k) xs ys n then some (Plain.dX xs ys k, Plain.dY xs ys k) else if freeOf (-(Plain.dX xs ys k)) (-(Plain.dY xs ys k)) xs ys n then some (-(Plain.dX xs ys k), -(Plain.dY xs ys k)) else none) := Lib.hid rfl
      have dn := dir_ne (HZ.out k hlt)
      obtain ⟨lx, hlx⟩ : ∃ lx, Plain.dX xs ys k = lx := ⟨_, rfl⟩
      obtain ⟨ly, hly⟩ : ∃ ly, Plain.dY xs ys k = ly := ⟨_, rfl⟩
      rw [hlx, hly] at db HF dn
      rw [hlx] at T1 T3
      rw [hly] at T2 T4
      have R1 : freesR lx ly xs ys n = freeOf lx ly xs ys n := by unfold freesR; rw [dn]; simp
      have R2 : freesR (-lx) (-ly) xs ys n = freeOf (-lx) (-ly) xs ys n := by
        unfold freesR
        rw [show ((-lx == 0 && -ly == 0) = false) from by rw [← dn]; congr 1 <;> (rw [Bool.eq_iff_iff, beq_iff_eq, beq_iff_eq]; omega)]
        simp
      have F1 := fun b off cap w hc => frees_any lx ly xs ys b off n cap w (by omega) db.1 db.2 HS.out hc
      have F2 := fun b off cap w hc => frees_any (-lx) (-ly) xs ys b off n cap w (by omega) (by have := db.1; unfold Small; omega) (by have := db.2; unfold Small; omega) HS.out hc
      rw [R1] at F1
      rw [R2] at F2
      obtain ⟨f1, hf1⟩ : ∃ f, freeOf lx ly xs ys n = f := ⟨_, rfl⟩
      obtain ⟨f2, hf2⟩ : ∃ f, freeOf (-lx) (-ly) xs ys n = f := ⟨_, rfl⟩
      rw [hf1] at HF F1
      rw [hf2] at HF F2
      obtain ⟨⟨q1, q2⟩, q3, q4⟩ := db
      unfold Small at s1 s2
      obtain ⟨q5, q6⟩ := s1
      obtain ⟨q7, q8⟩ := s2
      clear hg hlx hly hf1 hf2 dn R1 R2
      obtain ⟨x, hx⟩ : ∃ x, xs k = x := ⟨_, rfl⟩
      obtain ⟨y, hy⟩ : ∃ y, ys k = y := ⟨_, rfl⟩
      rw [hx] at e0 A1 G T2 T4 q5 q6
      rw [hy] at e1 A2 G T1 T3 q7 q8
      clear hx hy
      have HT1 := Lib.hid T1
      have HT2 := Lib.hid T2
      have HT3 := Lib.hid T3
      have HT4 := Lib.hid T4
      clear T1 T2 T3 T4
      have n0 := Pb.new wr x y
      have b1 := hbel.alloc hbel.size (ptObj x y)
      have p1 := hp.alloc (ptObj x y)
      obtain ⟨ax, hax⟩ : ∃ a, max x (-x) = a := ⟨_, rfl⟩
      obtain ⟨ay, hay⟩ : ∃ a, max y (-y) = a := ⟨_, rfl⟩
      rw [hax] at A1 G
      rw [hay] at A2 G
      clear hax hay
      go_wp2_with fail
      have c0 := n0.c0
      have c1 := n0.c1
      go_quiet ((first | (go_at_call 101; first | with_reducible exact Calls.quiet_of_same (A1 _) | with_reducible exact Calls.quiet_of_same (A2 _)) | (go_at_call 100; with_reducible exact Calls.quiet_of_same (G _))))
      have b2 := below_dn b1 nq
      have p2 : Pb ((wr.alloc (ptObj x y)).drewN nq) w.heap.size 0 0 := p1
      have n2 : Pb ((wr.alloc (ptObj x y)).drewN nq) wr.heap.size x y := n0
      obtain ⟨w2, hw2⟩ : ∃ w2, (wr.alloc (ptObj x y)).drewN nq = w2 := ⟨_, rfl⟩
      obtain ⟨A, hA⟩ : ∃ A, wr.heap.size = A := ⟨_, rfl⟩
      have hwA : w.heap.size < A := by rw [← hA]; exact hp.lt
      rw [hA] at n2
      rw [hw2] at b2 p2 n2
      change Exit.then _ _ _ _ ((wr.alloc (ptObj x y)).drewN nq)
      rw [hw2, hA]
      clear hw2 hA c0 c1 n0 b1 p1 G A1 A2 hbel hp e0 e1
      have c0 := n2.c0
      have c1 := n2.c1
      have z2 := n2.lt
      have gne : ¬ (g : Int) = 0 := by omega
      have T1 := HT1.out
      have T2 := HT2.out
      go_wp2_with fail
      go_region
      have b3 : Below w.heap.size w (w2.alloc (ptObj lx ly)).drew := (b2.alloc b2.size (ptObj lx ly)).drew
      have p3 : Pb (w2.alloc (ptObj lx ly)).drew w.heap.size 0 0 := p2.alloc (ptObj lx ly)
      have n3 : Pb (w2.alloc (ptObj lx ly)).drew A x y := n2.alloc (ptObj lx ly)
      have m3 : Pb (w2.alloc (ptObj lx ly)).drew w2.heap.size lx ly := Pb.new w2 lx ly
      obtain ⟨w3, hw3⟩ : ∃ w3, (w2.alloc (ptObj lx ly)).drew = w3 := ⟨_, rfl⟩
      obtain ⟨B, hB⟩ : ∃ B, w2.heap.size = B := ⟨_, rfl⟩
      rw [hB] at m3 z2
      rw [hw3] at b3 p3 n3 m3
      change Exit.then _ _ _ _ (w2.alloc (ptObj lx ly)).drew
      rw [hw3, hB]
      clear hw3 hB c0 c1 T1 T2 n2 p2 b2
      have d0 := m3.c0
      have d1 := m3.c1
      go_wp2_with fail
      refine (F1 b off cap _ (fun i hi => ⟨keep_cell b3 (HC.out i hi).1, keep_cell b3 (HC.out i hi).2⟩)).mono ?_
      rintro e w4 ⟨rfl, hb⟩
      have b4 := keep_below b3 hb
      have p4 := p3.keep hb
      have n4 := n3.keep hb
      have m4 := m3.keep hb
      clear hb b3 p3 n3 m3 d0 d1
      have r0 := p4.c0
      have r1 := p4.c1
      have r2 := p4.f 0
      have r3 := p4.f 1
      have c0 := n4.c0
      have c1 := n4.c1
      have d0 := m4.c0
      have d1 := m4.c1
      have d2 := m4.f 0
      have d3 := m4.f 1
      cases f1
      · have T3 := HT3.out
        have T4 := HT4.out
        go_wp2_with fail
        go_region
        have b5 : Below w.heap.size w ((w4.setCell ⟨B, 0, none⟩ (.int .i64 (-lx))).setCell ⟨B, 1, none⟩ (.int .i64 (-ly))).drew := ((b4.setCell (p := ⟨B, 0, none⟩) (by show w.heap.size ≤ B; omega) _).setCell (p := ⟨B, 1, none⟩) (by show w.heap.size ≤ B; omega) _).drew
        have p5 : Pb ((w4.setCell ⟨B, 0, none⟩ (.int .i64 (-lx))).setCell ⟨B, 1, none⟩ (.int .i64 (-ly))).drew w.heap.size 0 0 := (p4.other _ (by omega)).other _ (by omega)
        have m5 : Pb ((w4.setCell ⟨B, 0, none⟩ (.int .i64 (-lx))).setCell ⟨B, 1, none⟩ (.int .i64 (-ly))).drew B (-lx) (-ly) := m4.set _ _
        obtain ⟨w5, hw5⟩ : ∃ w5, ((w4.setCell ⟨B, 0, none⟩ (.int .i64 (-lx))).setCell ⟨B, 1, none⟩ (.int .i64 (-ly))).drew = w5 := ⟨_, rfl⟩
        rw [hw5] at b5 p5 m5 ⊢
        clear hw5 r0 r1 r2 r3 c0 c1 d0 d1 d2 d3 b4 p4 n4 m4 T3 T4
        have d0 := m5.c0
        have d1 := m5.c1
        go_wp2_with fail
        refine (F2 b off cap _ (fun i hi => ⟨keep_cell b5 (HC.out i hi).1, keep_cell b5 (HC.out i hi).2⟩)).mono ?_
        rintro e w6 ⟨rfl, hb⟩
        have b6 := keep_below b5 hb
        have p6 := p5.keep hb
        have m6 := m5.keep hb
        clear hb d0 d1 b5 p5 m5
        have d0 := m6.c0
        have d1 := m6.c1
        have r0 := p6.c0
        have r1 := p6.c1
        have r2 := p6.f 0
        have r3 := p6.f 1
        cases f2
        · go_wp2
          refine ⟨⟨k + 1, by omega, by simp, b6, p6, ?_⟩, by simp [intOf]; omega⟩
          unfold Plain.freeTo
          rw [HN.out]
          exact HF.out
        · go_wp2
          have hD : Plain.freeD xs ys n = some (-lx, -ly) := by
            unfold Plain.freeD
            rw [if_neg (by omega)]
            exact Plain.freeTo_some HN.out HF.out hlt
          rw [hD]
          refine bodyPost_ret (v := pt (-lx) (-ly)) ?_ rfl ⟨rfl, (b6.setCell (Nat.le_refl _) _).setCell (Nat.le_refl _) _⟩
          exact res_cell (fn := Try.f119) rfl _ (by rfl) (p6.set _ _).load
      · go_wp2
        have hD : Plain.freeD xs ys n = some (lx, ly) := by
          unfold Plain.freeD
          rw [if_neg (by omega)]
          exact Plain.freeTo_some HN.out HF.out hlt
        rw [hD]
        refine bodyPost_ret (v := pt lx ly) ?_ rfl ⟨rfl, (b4.setCell (Nat.le_refl _) _).setCell (Nat.le_refl _) _⟩
        exact res_cell (fn := Try.f119) rfl _ (by rfl) (p4.set _ _).load
    · obtain rfl : k = n := by omega
      have r0 := hp.c0
      have r1 := hp.c1
      have r2 := hp.f 0
      have r3 := hp.f 1
      go_wp2
      have hD : Plain.freeD xs ys k = none := by
        unfold Plain.freeD
        rw [if_neg (by omega)]
        exact HN.out
      rw [hD]
      refine bodyPost_ret (v := pt 0 0) ?_ rfl ⟨rfl, (hbel.setCell (Nat.le_refl _) _).setCell (Nat.le_refl _) _⟩
      exact res_cell (fn := Try.f119) rfl _ (by rfl) (hp.set _ _).load

set_option maxHeartbeats 1000000 in
theorem refExit0_zero (a : Option Addr) (cap : Nat) (xs ys : Nat → Int) (w : World) :
    Calls Try.prog 119 #[.slice a 0 cap] w fun e w' => e = .returned (dirV (Plain.freeD xs ys 0)) ∧ Below w.heap.size w w' := by
  go_enter Try.func119, Try.ntmps119
  go_wp2
  refine bodyPost_ret (v := pt 1 0) ?_ rfl ⟨rfl, (Below.refl _ _).alloc (Nat.le_refl _) _⟩
  exact res_cell (fn := Try.f119) rfl _ (by rfl) (Pb.new w 1 0).load

end Go.Proofs.Ytlocdadkhdcedaa
