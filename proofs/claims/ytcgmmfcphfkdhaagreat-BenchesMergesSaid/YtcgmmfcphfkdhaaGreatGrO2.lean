/- The abstract machine, part GrO2. -/
import Derived.Test.YtcgmmfcphfkdhaaGreatGrO1
import Derived.BigRegion
import Derived.Test.YtcgmmfcphfkdhaaGreatGrN1
import Derived.Test.YtcgmmfcphfkdhaaGreatGrN9
/- Walks: a piece and pieces are written. -/
namespace Go.Proofs.YtcgmmfcphfkdhaaGreat
open Go Go.RowKit Go.Proofs Go.Torn Go.Abs

theorem iz_get (L : List Int) (q : Nat) (h : q < L.length) : iz L q = L[q] := by simp [iz, List.getD, h]

def Pc.rg (p : Pc) : Prop := I64 p.id ∧ I64 p.c ∧ I64 p.r ∧ I64 p.m ∧ I64 p.s ∧ (∀ k, k < p.G.length → (gz p.G k).rg) ∧ (∀ k, k < p.M.length → (mq p.M k).rg)

set_option maxRecDepth 100000 in
set_option maxHeartbeats 4000000 in
theorem piece130 {W0 : World} {A : Nat} {w : World} {v : Value} {D : List Nat} (h : Wr W0 A w v D) (p : Pc) (ug um : Value) (hug : SlG W0 ug p.G) (hum : SlM W0 um p.M) (hg : p.rg) (hl : D.length + (encP p).length ≤ 10000000) :
  Calls Tryz.prog 130 #[.pointer (some ⟨A, 0, none⟩), .agg #[.int .i64 p.id, .int .i64 p.c, .int .i64 p.r, .int .i64 p.m, .int .i64 p.s, ug, um]] w fun e w' => e = .returned (.tuple #[]) ∧ ∃ v', Wr W0 A w' v' (D ++ encP p) ∧ Ck A v w v' w' := by

 have hal1 : Below w.heap.size w (w.alloc (.cells #[.int .i64 p.id, .int .i64 p.c, .int .i64 p.r, .int .i64 p.m, .int .i64 p.s, ug, um] 106)) := (Below.refl _ _).alloc (Nat.le_refl _) _
 have hal2 : Below w.heap.size w ((w.alloc (.cells #[.int .i64 p.id, .int .i64 p.c, .int .i64 p.r, .int .i64 p.m, .int .i64 p.s, ug, um] 106)).alloc (.cells #[.int .i64 p.id, .int .i64 p.c, .int .i64 p.r, .int .i64 p.m, .int .i64 p.s] 3)) := hal1.alloc hal1.size _
 have H0 := Lib.hid (h.keep hal2)
 have KK := Lib.hid (Ck.of_below hal2 (Ck.refl A v _))
 have FB := Lib.hid (show Fo A v ((w.alloc (.cells #[.int .i64 p.id, .int .i64 p.c, .int .i64 p.r, .int .i64 p.m, .int .i64 p.s, ug, um] 106)).alloc (.cells #[.int .i64 p.id, .int .i64 p.c, .int .i64 p.r, .int .i64 p.m, .int .i64 p.s] 3)) w.heap.size from h.fo (Nat.le_refl _) (by rw [World.size_alloc, World.size_alloc]; omega))
 have FC := Lib.hid (show Fo A v ((w.alloc (.cells #[.int .i64 p.id, .int .i64 p.c, .int .i64 p.r, .int .i64 p.m, .int .i64 p.s, ug, um] 106)).alloc (.cells #[.int .i64 p.id, .int .i64 p.c, .int .i64 p.r, .int .i64 p.m, .int .i64 p.s] 3)) (w.heap.size + 1) from h.fo (by omega) (by rw [World.size_alloc, World.size_alloc]; omega))
 have NB1 := Lib.hid ((NB.new w #[.int .i64 p.id, .int .i64 p.c, .int .i64 p.r, .int .i64 p.m, .int .i64 p.s, ug, um] 106).alloc (.cells #[.int .i64 p.id, .int .i64 p.c, .int .i64 p.r, .int .i64 p.m, .int .i64 p.s] 3))
 have NB2 := Lib.hid (nb1 w (.cells #[.int .i64 p.id, .int .i64 p.c, .int .i64 p.r, .int .i64 p.m, .int .i64 p.s, ug, um] 106) #[.int .i64 p.id, .int .i64 p.c, .int .i64 p.r, .int .i64 p.m, .int .i64 p.s] 3)
 have HLL : Hid (∀ q, q < 5 → #[Value.int .i64 p.id, Value.int .i64 p.c, Value.int .i64 p.r, Value.int .i64 p.m, Value.int .i64 p.s][q]? = some (Value.int .i64 (iz [p.id, p.c, p.r, p.m, p.s] q))) := Lib.hid (fun q hq => by
  match q, hq with
  | 0, _ | 1, _ | 2, _ | 3, _ | 4, _ => rfl)
 obtain ⟨S, hS⟩ : ∃ S : Nat → List Nat, S = fun q => (([p.id, p.c, p.r, p.m, p.s] : List Int).drop q).flatMap num := ⟨_, rfl⟩
 have HS : Hid ((∀ q, q < 5 → S q = num (iz [p.id, p.c, p.r, p.m, p.s] q) ++ S (q + 1)) ∧ S 5 = [] ∧ S 0 = ([p.id, p.c, p.r, p.m, p.s] : List Int).flatMap num) := Lib.hid (by
  rw [hS]
  exact ⟨fun q hq => fl_step num ([p.id, p.c, p.r, p.m, p.s] : List Int) q hq _ (iz_get _ _ _), rfl, rfl⟩)
 clear hS
 have HL := Lib.hid hl
 have HU := Lib.hid hug
 have HM := Lib.hid hum
 have HG := Lib.hid hg
 have HI : Hid (∀ q, q < 5 → I64 (iz [p.id, p.c, p.r, p.m, p.s] q)) := Lib.hid (fun q hq => by
  match q, hq with
  | 0, _ => exact hg.1
  | 1, _ => exact hg.2.1
  | 2, _ => exact hg.2.2.1
  | 3, _ => exact hg.2.2.2.1
  | 4, _ => exact hg.2.2.2.2.1)
 have HE : Hid (encP p = S 0 ++ (lst encG p.G ++ lst encM p.M)) := Lib.hid (by rw [HS.out.2.2]; simp [encP])
 obtain ⟨g1, g2, rfl, hg1, -⟩ := hug
 obtain ⟨m1, m2, rfl, hm1, -⟩ := hum
 obtain ⟨LL, hLL⟩ : ∃ LL : List Int, LL = [p.id, p.c, p.r, p.m, p.s] := ⟨_, rfl⟩
 rw [← hLL] at HLL HS HI
 clear h hl hg hal1 hal2 hLL
 go_enter Tryz.func130, Tryz.ntmps130
 go_wp2_with fail
 generalize hA1 : #[Value.int .i64 p.id, .int .i64 p.c, .int .i64 p.r, .int .i64 p.m, .int .i64 p.s] = A1 at HLL NB2 H0 KK FB FC NB1 ⊢
 generalize hW2 : ((w.alloc (.cells #[.int .i64 p.id, .int .i64 p.c, .int .i64 p.r, .int .i64 p.m, .int .i64 p.s, .slice g1 p.G.length g2, .slice m1 p.M.length m2] 106)).alloc (.cells A1 3)) = W2 at *
 clear hA1 hW2
 go_loopw [18] (fun i wr => ∃ q : Nat, q ≤ 5 ∧ i = .int .i64 q ∧ Hid (∃ v' F, Wr W0 A wr v' F ∧ Ck A v W2 v' wr ∧ F ++ S q = D ++ S 0)) (fun i _ => 5 - (intOf i).toNat)
 case atStart => exact ⟨0, by omega, rfl, Lib.hid ⟨_, _, H0.out, Ck.refl _ _ _, rfl⟩⟩
 case round =>
  obtain ⟨q, hq, rfl, hrel⟩ := hrel
  obtain ⟨v2, F, hw, hck, hF⟩ := hrel.out
  clear hrel
  by_cases hq1 : q < 5
  ·have j1 : decide ((q : Int) < 5) = true := by simp; omega
   have hS1 := HS.out.1 q hq1
   have hlF : F.length + (num (iz LL q)).length ≤ 10000000 := by
    have h1 := congrArg List.length hF
    have h2 := HL.out
    rw [HE.out] at h2
    rw [hS1] at h1
    simp only [List.length_append] at h1 h2
    omega
   have hgq := HI.out q hq1
   have c0 := (FC.out.nb hck NB2.out).c (HLL.out q hq1)
   obtain ⟨x, hx⟩ : ∃ x, iz LL q = x := ⟨_, rfl⟩
   rw [hx] at hS1 hlF hgq c0
   clear hx
   have HF := Lib.hid (num126 hw x hgq hlF)
   have HK := Lib.hid hck
   have HQ := Lib.hid (show ∀ G, G = F ++ num x → G ++ S (q + 1) = D ++ S 0 from fun G e => by rw [e, List.append_assoc, ← hS1]; exact hF)
   clear hw hck hF hS1 hlF hgq
   go_wp2_with fail
   refine HF.out.mono ?_
   rintro e w2 ⟨rfl, v3, hW, hC⟩
   have fin : Hid (∃ v' F, Wr W0 A w2 v' F ∧ Ck A v W2 v' w2 ∧ F ++ S (q + 1) = D ++ S 0) := Lib.hid ⟨_, _, hW, HK.out.trans hC, HQ.out _ rfl⟩
   clear hW hC HK HQ HF
   go_wp2_with fail
   exact ⟨⟨q + 1, hq1, by simp, fin⟩, by simp [intOf]; omega⟩
  ·have hq5 : q = 5 := by omega
   subst hq5
   have hF5 : F = D ++ S 0 := by rw [HS.out.2.1, List.append_nil] at hF; exact hF
   subst hF5
   have n1 := FB.out.nb hck NB1.out
   have f1 := Lib.hid (FB.out.keep hck)
   have c5 := n1.c (k := 5) (v := .slice g1 p.G.length g2) rfl
   have c6 := Lib.hid (n1.c (k := 6) (v := .slice m1 p.M.length m2) rfl)
   have HF := Lib.hid (gauges195 hw _ p.G HU.out HG.out.2.2.2.2.2.1 (by
    have h2 := HL.out
    rw [HE.out] at h2
    simp only [List.length_append] at h2 ⊢
    omega))
   have HK := Lib.hid (KK.out.trans hck)
   clear hw hck hF n1 NB1 NB2 H0 KK FB FC HLL HS HI
   go_wp2_with fail
   refine HF.out.mono ?_
   rintro e w1 ⟨rfl, v3, hW, hC⟩
   have HF2 := Lib.hid (marks197 hW _ p.M HM.out HG.out.2.2.2.2.2.2 (by
    have h2 := HL.out
    rw [HE.out] at h2
    simp only [List.length_append] at h2 ⊢
    omega))
   have c6 := f1.out.cell hC c6.out
   have HK2 := Lib.hid (HK.out.trans hC)
   clear hW hC HF HK f1 c5
   go_wp2_with fail
   refine HF2.out.mono ?_
   rintro e w2 ⟨rfl, v4, hW, hC⟩
   have fin : Hid (∃ v', Wr W0 A w2 v' (D ++ encP p) ∧ Ck A v w v' w2) := Lib.hid ⟨_, by rw [HE.out]; simpa only [List.append_assoc] using hW, HK2.out.trans hC⟩
   clear hW hC HF2 HK2 HE HL c6
   go_wp2_with fail
   exact Go.Great.bodyPost_end0 rfl rfl ⟨rfl, fin.out⟩

set_option maxRecDepth 100000 in
set_option maxHeartbeats 4000000 in
theorem pieces129 {W0 : World} {A : Nat} {w : World} {v : Value} {D : List Nat} (h : Wr W0 A w v D) (u : Value) (L : List Pc) (hu : SlP W0 u L) (hg : ∀ k, k < L.length → (pz L k).rg) (hl : D.length + (lst encP L).length ≤ 10000000) :
  Calls Tryz.prog 129 #[.pointer (some ⟨A, 0, none⟩), u, .func (.func 130) #[.pointer (some ⟨A, 0, none⟩)] #[]] w fun e w' => e = .returned (.tuple #[]) ∧ ∃ v', Wr W0 A w' v' (D ++ lst encP L) ∧ Ck A v w v' w' := by
 obtain ⟨a, cap, rfl, hll, hc⟩ := hu
 have HS := Lib.hid (fun q (hq : q < L.length) => fl_step encP L q hq (pz L q) (by simp [pz, List.getD, hq]))
 have HE := Lib.hid (show (L.drop L.length).flatMap encP = [] by rw [List.drop_length]; rfl)
 have HN := Lib.hid (show lst encP L = num L.length ++ (L.drop 0).flatMap encP from rfl)
 obtain ⟨E, hE⟩ : ∃ E, lst encP L = E := ⟨_, rfl⟩
 obtain ⟨S, hS⟩ : ∃ S : Nat → List Nat, S = fun q => (L.drop q).flatMap encP := ⟨_, rfl⟩
 have HS2 : Hid ((∀ q, q < L.length → S q = encP (pz L q) ++ S (q + 1)) ∧ S L.length = [] ∧ E = num L.length ++ S 0) := Lib.hid ⟨by rw [hS]; exact HS.out, by rw [hS]; exact HE.out, by rw [hS, ← hE]; exact HN.out⟩
 rw [hE] at hl ⊢
 clear HS HE HN hS hE
 obtain ⟨n, hn⟩ : ∃ n, L.length = n := ⟨_, rfl⟩
 rw [hn] at hc hg hll HS2 ⊢
 clear hn
 have HL := Lib.hid hl
 have HC := Lib.hid hc
 have HG := Lib.hid hg
 have HF := Lib.hid (num126 h (n : Int) ⟨by omega, by omega⟩ (by have := HS2.out.2.2; rw [this] at hl; simp only [List.length_append] at hl; omega))
 clear hc hl hg h
 go_enter Tryz.func129, Tryz.ntmps129
 go_wp2_with fail
 refine HF.out.mono ?_
 rintro e w1 ⟨rfl, v1, hW, hC⟩
 have H1 := Lib.hid hW
 have K1 := Lib.hid hC
 clear hW hC HF
 go_wp2_with fail
 go_loopw [14] (fun i wr => ∃ q : Nat, q ≤ n ∧ i = .int .i64 q ∧ Hid (∃ v' F, Wr W0 A wr v' F ∧ Ck A v w v' wr ∧ F ++ S q = D ++ E)) (fun i _ => n - (intOf i).toNat)
 case atStart => exact ⟨0, by omega, rfl, Lib.hid ⟨_, _, H1.out, K1.out, by rw [HS2.out.2.2, List.append_assoc]⟩⟩
 case round =>
  obtain ⟨q, hq, rfl, hrel⟩ := hrel
  obtain ⟨v2, F, hw, hck, hF⟩ := hrel.out
  clear hrel
  by_cases hq1 : q < n
  ·have j1 : decide ((q : Int) < (n : Int)) = true := by simp; omega
   have hS1 := HS2.out.1 q hq1
   have hlF : F.length + (encP (pz L q)).length ≤ 10000000 := by
    have h1 := congrArg List.length hF
    have h2 := HL.out
    rw [hS1] at h1
    simp only [List.length_append] at h1
    omega
   have hgq := HG.out q hq1

   obtain ⟨b, off, rfl, vg, vm, hgG, hmG, c0, c1, c2, c3, c4, c5, c6⟩ := HC.out q hq1
   obtain ⟨x, hx⟩ : ∃ x, pz L q = x := ⟨_, rfl⟩
   rw [hx] at hS1 hlF hgq c0 c1 c2 c3 c4 hgG hmG
   clear hx
   replace c0 := (hw.be.cell (lt_of_cell c0)).trans c0
   replace c1 := (hw.be.cell (lt_of_cell c1)).trans c1
   replace c2 := (hw.be.cell (lt_of_cell c2)).trans c2
   replace c3 := (hw.be.cell (lt_of_cell c3)).trans c3
   replace c4 := (hw.be.cell (lt_of_cell c4)).trans c4
   replace c5 := (hw.be.cell (lt_of_cell c5)).trans c5
   replace c6 := (hw.be.cell (lt_of_cell c6)).trans c6
   have HgG := Lib.hid hgG
   have HmG := Lib.hid hmG
   obtain ⟨ga, gc, rfl, -, -⟩ := hgG
   obtain ⟨ma, mc, rfl, -, -⟩ := hmG
   have hal : Below wr.heap.size wr (wr.alloc (.cells #[.int .i64 x.id, .int .i64 x.c, .int .i64 x.r, .int .i64 x.m, .int .i64 x.s, .slice ga x.G.length gc, .slice ma x.M.length mc] 106)) := (Below.refl _ _).alloc (Nat.le_refl _) _
   have HF := Lib.hid (piece130 (hw.keep hal) x _ _ HgG.out HmG.out hgq hlF)
   have HK := Lib.hid (hck.trans (Ck.of_below hal (Ck.refl A v2 _)))
   have HQ := Lib.hid (show ∀ G, G = F ++ encP x → G ++ S (q + 1) = D ++ E from fun G e => by rw [e, List.append_assoc, ← hS1]; exact hF)
   clear hw hck hF hS1 hlF hgq HC HG HL HS2 H1 K1 hal
   go_wp2_with fail
   refine HF.out.mono ?_
   rintro e w2 ⟨rfl, v3, hW, hC⟩
   have fin : Hid (∃ v' F, Wr W0 A w2 v' F ∧ Ck A v w v' w2 ∧ F ++ S (q + 1) = D ++ E) := Lib.hid ⟨_, _, hW, HK.out.trans hC, HQ.out _ rfl⟩
   clear hW hC HK HQ HF
   go_wp2_with fail
   exact ⟨⟨q + 1, hq1, by simp, fin⟩, by simp [intOf]; omega⟩
  ·have : q = n := by omega
   subst this
   have j1 : decide ((q : Int) < (q : Int)) = false := by simp
   have fin : Hid (∃ v', Wr W0 A wr v' (D ++ E) ∧ Ck A v w v' wr) := Lib.hid ⟨v2, by rw [HS2.out.2.1, List.append_nil] at hF; rw [← hF]; exact hw, hck⟩
   clear hw hck hF HS2 HL HC HG H1 K1
   go_wp2_with fail
   exact Go.Great.bodyPost_end0 rfl rfl ⟨rfl, fin.out⟩

end Go.Proofs.YtcgmmfcphfkdhaaGreat

/- Walks: an item and a setting are written; the bytes of the writer. -/
namespace Go.Proofs.YtcgmmfcphfkdhaaGreat
open Go Go.RowKit Go.Proofs Go.Torn Go.Abs

def It.rg (x : It) : Prop := I64 x.id ∧ I64 x.k ∧ I64 x.y ∧ I64 x.f ∧ I64 x.p ∧ I64 x.l ∧ I64 x.s ∧ (∀ k, k < x.P.length → I64 (iz x.P k)) ∧ (∀ k, k < x.C.length → I64 (iz x.C k)) ∧ I64 x.lo ∧ I64 x.hi ∧ (∀ k, k < x.S.length → (sz x.S k).rg)

set_option maxRecDepth 100000 in
set_option maxHeartbeats 4000000 in
theorem item131 {W0 : World} {A : Nat} {w : World} {v : Value} {D : List Nat} (h : Wr W0 A w v D) (x : It) (uP uC uS : Value) (hP : SlI W0 uP x.P) (hC : SlI W0 uC x.C) (hS : SlS W0 uS x.S) (hg : x.rg) (hl : D.length + (encX x).length ≤ 10000000) :
  Calls Tryz.prog 131 #[.pointer (some ⟨A, 0, none⟩), .agg #[.int .i64 x.id, .int .i64 x.k, .int .i64 x.y, .int .i64 x.f, .int .i64 x.p, .int .i64 x.l, .int .i64 x.s, uP, uC, .int .i64 x.lo, .int .i64 x.hi, uS]] w fun e w' => e = .returned (.tuple #[]) ∧ ∃ v', Wr W0 A w' v' (D ++ encX x) ∧ Ck A v w v' w' := by

 have hal1 : Below w.heap.size w (w.alloc (.cells #[.int .i64 x.id, .int .i64 x.k, .int .i64 x.y, .int .i64 x.f, .int .i64 x.p, .int .i64 x.l, .int .i64 x.s, uP, uC, .int .i64 x.lo, .int .i64 x.hi, uS] 38)) := (Below.refl _ _).alloc (Nat.le_refl _) _
 have hal2 : Below w.heap.size w ((w.alloc (.cells #[.int .i64 x.id, .int .i64 x.k, .int .i64 x.y, .int .i64 x.f, .int .i64 x.p, .int .i64 x.l, .int .i64 x.s, uP, uC, .int .i64 x.lo, .int .i64 x.hi, uS] 38)).alloc (.cells #[.int .i64 x.id, .int .i64 x.k, .int .i64 x.y, .int .i64 x.f, .int .i64 x.p, .int .i64 x.l, .int .i64 x.s] 3)) := hal1.alloc hal1.size _
 have H0 := Lib.hid (h.keep hal2)
 have KK := Lib.hid (Ck.of_below hal2 (Ck.refl A v _))
 have FB := Lib.hid (show Fo A v ((w.alloc (.cells #[.int .i64 x.id, .int .i64 x.k, .int .i64 x.y, .int .i64 x.f, .int .i64 x.p, .int .i64 x.l, .int .i64 x.s, uP, uC, .int .i64 x.lo, .int .i64 x.hi, uS] 38)).alloc (.cells #[.int .i64 x.id, .int .i64 x.k, .int .i64 x.y, .int .i64 x.f, .int .i64 x.p, .int .i64 x.l, .int .i64 x.s] 3)) w.heap.size from h.fo (Nat.le_refl _) (by rw [World.size_alloc, World.size_alloc]; omega))
 have FC := Lib.hid (show Fo A v ((w.alloc (.cells #[.int .i64 x.id, .int .i64 x.k, .int .i64 x.y, .int .i64 x.f, .int .i64 x.p, .int .i64 x.l, .int .i64 x.s, uP, uC, .int .i64 x.lo, .int .i64 x.hi, uS] 38)).alloc (.cells #[.int .i64 x.id, .int .i64 x.k, .int .i64 x.y, .int .i64 x.f, .int .i64 x.p, .int .i64 x.l, .int .i64 x.s] 3)) (w.heap.size + 1) from h.fo (by omega) (by rw [World.size_alloc, World.size_alloc]; omega))
 have NB1 := Lib.hid ((NB.new w #[.int .i64 x.id, .int .i64 x.k, .int .i64 x.y, .int .i64 x.f, .int .i64 x.p, .int .i64 x.l, .int .i64 x.s, uP, uC, .int .i64 x.lo, .int .i64 x.hi, uS] 38).alloc (.cells #[.int .i64 x.id, .int .i64 x.k, .int .i64 x.y, .int .i64 x.f, .int .i64 x.p, .int .i64 x.l, .int .i64 x.s] 3))
 have NB2 := Lib.hid (nb1 w (.cells #[.int .i64 x.id, .int .i64 x.k, .int .i64 x.y, .int .i64 x.f, .int .i64 x.p, .int .i64 x.l, .int .i64 x.s, uP, uC, .int .i64 x.lo, .int .i64 x.hi, uS] 38) #[.int .i64 x.id, .int .i64 x.k, .int .i64 x.y, .int .i64 x.f, .int .i64 x.p, .int .i64 x.l, .int .i64 x.s] 3)
 have HLL : Hid (∀ q, q < 7 → #[Value.int .i64 x.id, Value.int .i64 x.k, Value.int .i64 x.y, Value.int .i64 x.f, Value.int .i64 x.p, Value.int .i64 x.l, Value.int .i64 x.s][q]? = some (Value.int .i64 (iz [x.id, x.k, x.y, x.f, x.p, x.l, x.s] q))) := Lib.hid (fun q hq => by
  match q, hq with
  | 0, _ | 1, _ | 2, _ | 3, _ | 4, _ | 5, _ | 6, _ => rfl)
 obtain ⟨S, hSS⟩ : ∃ S : Nat → List Nat, S = fun q => (([x.id, x.k, x.y, x.f, x.p, x.l, x.s] : List Int).drop q).flatMap num := ⟨_, rfl⟩
 have HS : Hid ((∀ q, q < 7 → S q = num (iz [x.id, x.k, x.y, x.f, x.p, x.l, x.s] q) ++ S (q + 1)) ∧ S 7 = [] ∧ S 0 = ([x.id, x.k, x.y, x.f, x.p, x.l, x.s] : List Int).flatMap num) := Lib.hid (by
  rw [hSS]
  exact ⟨fun q hq => fl_step num ([x.id, x.k, x.y, x.f, x.p, x.l, x.s] : List Int) q hq _ (iz_get _ _ _), rfl, rfl⟩)
 clear hSS
 have HL := Lib.hid hl
 have HP := Lib.hid hP
 have HCC := Lib.hid hC
 have HSS := Lib.hid hS
 have HG := Lib.hid hg
 have HI : Hid (∀ q, q < 7 → I64 (iz [x.id, x.k, x.y, x.f, x.p, x.l, x.s] q)) := Lib.hid (fun q hq => by
  match q, hq with
  | 0, _ => exact hg.1
  | 1, _ => exact hg.2.1
  | 2, _ => exact hg.2.2.1
  | 3, _ => exact hg.2.2.2.1
  | 4, _ => exact hg.2.2.2.2.1
  | 5, _ => exact hg.2.2.2.2.2.1
  | 6, _ => exact hg.2.2.2.2.2.2.1)
 have HE : Hid (encX x = S 0 ++ (lst num x.P ++ (lst num x.C ++ (encSp x.lo x.hi ++ lst encS x.S)))) := Lib.hid (by rw [HS.out.2.2]; simp [encX, encSp])
 obtain ⟨g1, g2, rfl, hg1, -⟩ := hP
 obtain ⟨m1, m2, rfl, hm1, -⟩ := hC
 obtain ⟨s1, s2, rfl, hs1, -⟩ := hS
 obtain ⟨LL, hLL⟩ : ∃ LL : List Int, LL = [x.id, x.k, x.y, x.f, x.p, x.l, x.s] := ⟨_, rfl⟩
 rw [← hLL] at HLL HS HI
 clear h hl hg hal1 hal2 hLL
 go_enter Tryz.func131, Tryz.ntmps131
 go_wp2_with fail
 generalize hA1 : #[Value.int .i64 x.id, .int .i64 x.k, .int .i64 x.y, .int .i64 x.f, .int .i64 x.p, .int .i64 x.l, .int .i64 x.s] = A1 at HLL NB2 H0 KK FB FC NB1 ⊢
 generalize hW2 : ((w.alloc (.cells #[.int .i64 x.id, .int .i64 x.k, .int .i64 x.y, .int .i64 x.f, .int .i64 x.p, .int .i64 x.l, .int .i64 x.s, .slice g1 x.P.length g2, .slice m1 x.C.length m2, .int .i64 x.lo, .int .i64 x.hi, .slice s1 x.S.length s2] 38)).alloc (.cells A1 3)) = W2 at *
 clear hA1 hW2
 go_loopw [22] (fun i wr => ∃ q : Nat, q ≤ 7 ∧ i = .int .i64 q ∧ Hid (∃ v' F, Wr W0 A wr v' F ∧ Ck A v W2 v' wr ∧ F ++ S q = D ++ S 0)) (fun i _ => 7 - (intOf i).toNat)
 case atStart => exact ⟨0, by omega, rfl, Lib.hid ⟨_, _, H0.out, Ck.refl _ _ _, rfl⟩⟩
 case round =>
  obtain ⟨q, hq, rfl, hrel⟩ := hrel
  obtain ⟨v2, F, hw, hck, hF⟩ := hrel.out
  clear hrel
  by_cases hq1 : q < 7
  ·have j1 : decide ((q : Int) < 7) = true := by simp; omega
   have hS1 := HS.out.1 q hq1
   have hlF : F.length + (num (iz LL q)).length ≤ 10000000 := by
    have h1 := congrArg List.length hF
    have h2 := HL.out
    rw [HE.out] at h2
    rw [hS1] at h1
    simp only [List.length_append] at h1 h2
    omega
   have hgq := HI.out q hq1
   have c0 := (FC.out.nb hck NB2.out).c (HLL.out q hq1)
   obtain ⟨y, hx⟩ : ∃ y, iz LL q = y := ⟨_, rfl⟩
   rw [hx] at hS1 hlF hgq c0
   clear hx
   have HF := Lib.hid (num126 hw y hgq hlF)
   have HK := Lib.hid hck
   have HQ := Lib.hid (show ∀ G, G = F ++ num y → G ++ S (q + 1) = D ++ S 0 from fun G e => by rw [e, List.append_assoc, ← hS1]; exact hF)
   clear hw hck hF hS1 hlF hgq
   go_wp2_with fail
   refine HF.out.mono ?_
   rintro e w2 ⟨rfl, v3, hW, hC⟩
   have fin : Hid (∃ v' F, Wr W0 A w2 v' F ∧ Ck A v W2 v' w2 ∧ F ++ S (q + 1) = D ++ S 0) := Lib.hid ⟨_, _, hW, HK.out.trans hC, HQ.out _ rfl⟩
   clear hW hC HK HQ HF
   go_wp2_with fail
   exact ⟨⟨q + 1, hq1, by simp, fin⟩, by simp [intOf]; omega⟩
  ·have hq5 : q = 7 := by omega
   subst hq5
   have hF5 : F = D ++ S 0 := by rw [HS.out.2.1, List.append_nil] at hF; exact hF
   subst hF5
   have n1 := FB.out.nb hck NB1.out
   have F0 := Lib.hid (FB.out.keep hck)
   have K0 := Lib.hid (KK.out.trans hck)
   have H0 := Lib.hid hw
   have c7 := n1.c (k := 7) (v := .slice g1 x.P.length g2) rfl
   have c8 := n1.c (k := 8) (v := .slice m1 x.C.length m2) rfl
   have c9 := n1.c (k := 9) (v := .int .i64 x.lo) rfl
   have c10 := n1.c (k := 10) (v := .int .i64 x.hi) rfl
   have c11 := n1.c (k := 11) (v := .slice s1 x.S.length s2) rfl
   clear hw hck hF n1 NB1 NB2 KK FB FC HLL HS HI
   go_wp2_with fail
   refine (numbers128 H0.out _ x.P HP.out HG.out.2.2.2.2.2.2.2.1 (by
    have h2 := HL.out
    rw [HE.out] at h2
    simp only [List.length_append] at h2 ⊢
    omega)).mono ?_
   rintro e w1 ⟨rfl, v3, hW, hC⟩
   have H1 := Lib.hid hW
   have K1 := Lib.hid (K0.out.trans hC)
   have F1 := Lib.hid (F0.out.keep hC)
   clear c7
   replace c8 := F0.out.cell hC c8
   replace c9 := F0.out.cell hC c9
   replace c10 := F0.out.cell hC c10
   replace c11 := F0.out.cell hC c11
   clear hW hC H0 K0 F0
   go_wp2_with fail
   refine (numbers128 H1.out _ x.C HCC.out HG.out.2.2.2.2.2.2.2.2.1 (by
    have h2 := HL.out
    rw [HE.out] at h2
    simp only [List.length_append] at h2 ⊢
    omega)).mono ?_
   rintro e w2 ⟨rfl, v4, hW, hC⟩
   have H2 := Lib.hid hW
   have K2 := Lib.hid (K1.out.trans hC)
   have F2 := Lib.hid (F1.out.keep hC)
   clear c8
   replace c9 := F1.out.cell hC c9
   replace c10 := F1.out.cell hC c10
   replace c11 := F1.out.cell hC c11
   clear hW hC H1 K1 F1
   go_wp2_with fail
   refine (span199 H2.out x.lo x.hi ⟨HG.out.2.2.2.2.2.2.2.2.2.1, HG.out.2.2.2.2.2.2.2.2.2.2.1⟩ (by
    have h2 := HL.out
    rw [HE.out] at h2
    simp only [List.length_append] at h2 ⊢
    omega)).mono ?_
   rintro e w3 ⟨rfl, v5, hW, hC⟩
   have H3 := Lib.hid hW
   have K3 := Lib.hid (K2.out.trans hC)
   have F3 := Lib.hid (F2.out.keep hC)
   clear c9
   clear c10
   replace c11 := F2.out.cell hC c11
   clear hW hC H2 K2 F2
   go_wp2_with fail
   refine (sights200 H3.out _ x.S HSS.out HG.out.2.2.2.2.2.2.2.2.2.2.2 (by
    have h2 := HL.out
    rw [HE.out] at h2
    simp only [List.length_append] at h2 ⊢
    omega)).mono ?_
   rintro e w4 ⟨rfl, v6, hW, hC⟩
   have H4 := Lib.hid hW
   have K4 := Lib.hid (K3.out.trans hC)
   have fin : Hid (∃ v', Wr W0 A w4 v' (D ++ encX x) ∧ Ck A v w v' w4) := Lib.hid ⟨_, by rw [HE.out]; have := H4.out; simpa only [List.append_assoc] using this, K4.out⟩
   clear hW hC H3 K3 F3 H4 K4 HE HL c11
   go_wp2_with fail
   exact Go.Great.bodyPost_end0 rfl rfl ⟨rfl, fin.out⟩

set_option maxRecDepth 100000 in
set_option maxHeartbeats 2000000 in
theorem setting127 {W0 : World} {A : Nat} {w : World} {v : Value} {D : List Nat} (h : Wr W0 A w v D) (sh : Int) (b : Bool) (hg : I64 sh) (hl : D.length + (num sh ++ num (bit b)).length ≤ 10000000) :
  Calls Tryz.prog 127 #[.pointer (some ⟨A, 0, none⟩), .agg #[.int .i64 sh, .bool b]] w fun e w' => e = .returned (.tuple #[]) ∧ ∃ v', Wr W0 A w' v' (D ++ (num sh ++ num (bit b))) ∧ Ck A v w v' w' := by
 have hal : Below w.heap.size w (w.alloc (.cells #[.int .i64 sh, .bool b] 29)) := (Below.refl _ _).alloc (Nat.le_refl _) _
 have H0 := Lib.hid (h.keep hal)
 have K0 := Lib.hid (Ck.of_below hal (Ck.refl A v _))
 have F0 : Hid (Fo A v (w.alloc (.cells #[.int .i64 sh, .bool b] 29)) w.heap.size) := Lib.hid (h.fo (Nat.le_refl _) (by rw [World.size_alloc]; omega))
 have nb := NB.new w #[.int .i64 sh, .bool b] 29
 have c0 := nb.c (k := 0) (v := .int .i64 sh) rfl
 have c1 := nb.c (k := 1) (v := .bool b) rfl
 have HL := Lib.hid hl
 have HG := Lib.hid hg
 clear nb hal h hl hg
 go_enter Tryz.func127, Tryz.ntmps127
 go_wp2_with fail
 refine (num126 H0.out sh HG.out (by have := HL.out; simp only [List.length_append] at this ⊢; omega)).mono ?_
 rintro e w1 ⟨rfl, v1, hW, hC⟩
 have H1 := Lib.hid hW
 have K1 := Lib.hid (K0.out.trans hC)
 clear c0
 replace c1 := F0.out.cell hC c1
 clear hW hC H0 K0 F0
 go_wp2_with fail
 refine (bool193 H1.out b (by have := HL.out; simp only [List.length_append] at this ⊢; omega)).mono ?_
 rintro e w2 ⟨rfl, v2, hW, hC⟩
 have fin : Hid (∃ v', Wr W0 A w2 v' (D ++ (num sh ++ num (bit b))) ∧ Ck A v w v' w2) := Lib.hid ⟨_, by simpa only [List.append_assoc] using hW, K1.out.trans hC⟩
 clear hW hC H1 K1
 go_wp2_with fail
 exact Go.Great.bodyPost_end0 rfl rfl ⟨rfl, fin.out⟩

set_option maxRecDepth 100000 in
theorem bytes132 {W0 : World} {A : Nat} {w : World} {v : Value} {D : List Nat} (h : Wr W0 A w v D) (hl : D.length ≤ 10000000) :
  Calls Tryz.prog 132 #[.pointer (some ⟨A, 0, none⟩)] w fun e w' => ∃ u, e = .returned u ∧ w'.ownsRow w.heap.size 5 1 u D.length (bc D) ∧ Below w.heap.size w w' := by
 have H := Lib.hid (clone_own w h.own (by omega))
 have c0 := h.bx.c (k := 0) (v := v) rfl
 obtain ⟨a, c, rfl, -, -⟩ := own_slice h.own
 clear h hl
 go_enter Tryz.func132, Tryz.ntmps132
 go_wp2_with fail
 refine H.out.mono ?_
 rintro e w1 ⟨u, rfl, ho, hb⟩
 obtain ⟨a', c', rfl, -, -⟩ := own_slice ho
 have fin := Lib.hid (And.intro ho hb)
 clear ho hb H
 go_wp2_with fail
 go_ret
 exact ⟨_, rfl, fin.out.1, fin.out.2⟩

end Go.Proofs.YtcgmmfcphfkdhaaGreat

/- Walks: the ten numbers with which a note begins. -/
namespace Go.Proofs.YtcgmmfcphfkdhaaGreat
open Go Go.RowKit Go.Proofs Go.Torn Go.Abs

def ptrs (b : Nat) : Array Value := #[.pointer (some ⟨b, 0, none⟩), .pointer (some ⟨b, 1, none⟩), .pointer (some ⟨b, 2, none⟩), .pointer (some ⟨b, 3, none⟩), .pointer (some ⟨b, 4, none⟩), .pointer (some ⟨b, 5, none⟩), .pointer (some ⟨b, 6, none⟩), .pointer (some ⟨b, 7, none⟩), .pointer (some ⟨b, 8, none⟩), .pointer (some ⟨b, 9, none⟩)]

set_option maxRecDepth 100000 in
set_option maxHeartbeats 4000000 in
theorem numbers125 (b : Nat) (w : World) :
    Calls Tryz.prog 125 #[.pointer (some ⟨b, 0, none⟩)] w fun e w' => ∃ g, e = .returned (.slice (some ⟨g, 0, none⟩) 10 10) ∧ w.heap.size ≤ g ∧ NB w' g (ptrs b) 174 ∧ Below w.heap.size w w' := by
  obtain ⟨FS, hFS, f0, f1, f2, f3, f4, f5, f6, f7, f8, f9, -⟩ := f40.out
  go_enter Tryz.func125, Tryz.ntmps125
  go_wp2_with fail
  go_region
  have n0 : NB (w.alloc (.cells (ptrs b) 174)).drew w.heap.size (ptrs b) 174 := NB.new w (ptrs b) 174
  have fin := Lib.hid (And.intro n0 (below_drewN ((Below.refl w.heap.size w).alloc (Nat.le_refl _) (.cells (ptrs b) 174)) 1))
  clear n0
  go_wp2_with fail
  go_ret
  exact ⟨_, rfl, Nat.le_refl _, fin.out.1, fin.out.2⟩

end Go.Proofs.YtcgmmfcphfkdhaaGreat

/- Walks: the encoding of a note. -/
namespace Go.Proofs.YtcgmmfcphfkdhaaGreat
open Go Go.RowKit Go.Proofs Go.Torn Go.Abs

def heads (n : Nt) : List Int := [n.b, n.n, n.c, n.y, n.k, n.f, n.p, n.q, n.o, n.t]
def Nt.rg (n : Nt) : Prop := (∀ q, q < 10 → I64 (iz (heads n) q)) ∧ I64 n.sh ∧ I64 n.rb ∧ I64 n.rn ∧ (∀ k, k < n.P.length → I64 (iz n.P k)) ∧ (∀ k, k < n.Q.length → I64 (iz n.Q k)) ∧ (∀ k, k < n.D.length → (pz n.D k).rg) ∧ n.X.rg

theorem Nv.heads (x : Nv) : ∀ q, q < 10 → x.arr[q]? = some (.int .i64 (iz (Go.Proofs.YtcgmmfcphfkdhaaGreat.heads x.N) q)) := fun q hq => by
 match q, hq with
 | 0, _ | 1, _ | 2, _ | 3, _ | 4, _ | 5, _ | 6, _ | 7, _ | 8, _ | 9, _ => rfl
theorem ptrs_at (b : Nat) : ∀ q, q < 10 → (ptrs b)[q]? = some (.pointer (some ⟨b, q, none⟩)) := fun q hq => by
 match q, hq with
 | 0, _ | 1, _ | 2, _ | 3, _ | 4, _ | 5, _ | 6, _ | 7, _ | 8, _ | 9, _ => rfl

set_option maxRecDepth 100000 in
set_option maxHeartbeats 4000000 in
theorem encoding68 (x : Nv) (w : World) (h : NV w x) (hg : x.N.rg) (hl : (encN x.N).length ≤ 10000000) :
  Calls Tryz.prog 68 #[.agg x.arr] w fun e w' => ∃ u, e = .returned u ∧ SlB w' u (encN x.N) ∧ By (encN x.N) ∧ Below w.heap.size w w' := by
 obtain ⟨m, hm, ⟨hm0, hm1, hm2⟩, hs40⟩ := m40.out
 obtain ⟨m', hm', ⟨hm0', hm1', hm2'⟩, hs38⟩ := m38.out
 obtain ⟨FS, hu40, fs0, fs1, fs2, fs3, fs4, fs5, fs6, fs7, fs8, fs9, fs10, fs11, fs12, fs13, fs14, fs15⟩ := f40.out
 have n0 := NB.new w x.arr 40
 have hV : NV (w.alloc (.cells x.arr 40)) x := h.keep ((Below.refl _ _).alloc (Nat.le_refl _) _)
 have hbl : Below w.heap.size w (w.alloc (.cells x.arr 40)) := (Below.refl _ _).alloc (Nat.le_refl _) _
 have hsW : (w.alloc (.cells x.arr 40)).heap.size = w.heap.size + 1 := World.size_alloc _ _
 have hsz : x.arr.size = m := (arr_size x).trans hm
 have HX := Lib.hid (show ∀ W, NB W w.heap.size x.arr 40 → (loadCellsFrom ⟨w.heap.size, 17, none⟩ 0 m' #[]).run Tryz.prog W = .ok x.itm W from fun W n => n.loadX hm')
 obtain ⟨W0, hW0⟩ : ∃ W0, w.alloc (.cells x.arr 40) = W0 := ⟨_, rfl⟩
 rw [hW0] at n0 hV hbl hsW
 have HW0 := Lib.hid hW0
 have H0 : Hid (Wr W0 (w.heap.size + 1) (W0.alloc (.cells #[.slice none 0 0] 170)) (.slice none 0 0) []) := Lib.hid
  ⟨by omega, by rw [← hsW]; exact NB.new W0 _ _, World.ownsRow_nil _ _ _ _, fun k e => (by cases e), (Below.refl _ _).alloc (Nat.le_refl _) _, fun v hv => by cases hv⟩
 have HN := Lib.hid n0
 have HV := Lib.hid hV
 have HB := Lib.hid hbl
 have HS := Lib.hid hsW
 have HG := Lib.hid hg
 have HA := Lib.hid (Nv.heads x)
 have HL := Lib.hid hl
 have HM := Lib.hid (And.intro hm hm')
 clear hl hg hsW hbl hV n0 hW0 h hm hm'
 obtain ⟨g1, c1, e1, l1, -⟩ := HV.out.P
 obtain ⟨g2, c2, e2, l2, -⟩ := HV.out.Q
 obtain ⟨g3, c3, e3, l3, -⟩ := HV.out.D
 have HC : Hid (∀ W, NB W w.heap.size x.arr 40 → W.cell? ⟨w.heap.size, 10, none⟩ = some (.int .i64 x.N.sh) ∧ W.cell? ⟨w.heap.size, 11, none⟩ = some (.bool x.N.bk) ∧ W.cell? ⟨w.heap.size, 12, none⟩ = some (.int .i64 x.N.rb) ∧ W.cell? ⟨w.heap.size, 13, none⟩ = some (.int .i64 x.N.rn) ∧
   W.cell? ⟨w.heap.size, 14, none⟩ = some (.slice g1 x.N.P.length c1) ∧ W.cell? ⟨w.heap.size, 15, none⟩ = some (.slice g2 x.N.Q.length c2) ∧ W.cell? ⟨w.heap.size, 16, none⟩ = some (.slice g3 x.N.D.length c3)) := Lib.hid (fun W n =>
  ⟨n.c rfl, n.c rfl, n.c rfl, n.c rfl, n.c (by rw [← e1]; rfl), n.c (by rw [← e2]; rfl), n.c (by rw [← e3]; rfl)⟩)
 have HP : Hid (SlI W0 (.slice g1 x.N.P.length c1) x.N.P) := Lib.hid (by rw [← e1]; exact HV.out.P)
 have HQ : Hid (SlI W0 (.slice g2 x.N.Q.length c2) x.N.Q) := Lib.hid (by rw [← e2]; exact HV.out.Q)
 have HD : Hid (SlP W0 (.slice g3 x.N.D.length c3) x.N.D) := Lib.hid (by rw [← e3]; exact HV.out.D)
 obtain ⟨S, hS⟩ : ∃ S : Nat → List Nat, S = fun q => ((heads x.N).drop q).flatMap num := ⟨_, rfl⟩
 have HSS : Hid ((∀ q, q < 10 → S q = num (iz (heads x.N) q) ++ S (q + 1)) ∧ S 10 = [] ∧ S 0 = (heads x.N).flatMap num) := Lib.hid (by
  rw [hS]
  exact ⟨fun q hq => fl_step num (heads x.N) q hq _ (iz_get _ _ _), rfl, rfl⟩)
 have HE : Hid (encN x.N = S 0 ++ ((num x.N.sh ++ num (bit x.N.bk)) ++ (num x.N.rb ++ (num x.N.rn ++ (lst num x.N.P ++ (lst num x.N.Q ++ (lst encP x.N.D ++ encX x.N.X))))))) := Lib.hid (by rw [HSS.out.2.2]; simp [encN, heads])
 clear hS e1 e2 e3
 obtain ⟨V, hVV⟩ : ∃ V, x.arr = V := ⟨_, rfl⟩
 obtain ⟨LL, hLL⟩ : ∃ LL, heads x.N = LL := ⟨_, rfl⟩
 rw [hVV] at hsz HX HW0 HN HA HC ⊢
 rw [hLL] at HA HSS
 have HR : Hid (∀ q, q < 10 → I64 (iz LL q)) := Lib.hid (by rw [← hLL]; exact HG.out.1)
 clear hVV hLL
 go_enter Tryz.func68, Tryz.ntmps68
 go_wp2_with fail
 rw [HW0.out]
 obtain ⟨B, hBB⟩ : ∃ B, w.heap.size = B := ⟨_, rfl⟩
 have HBB := Lib.hid hBB
 rw [hBB] at H0 HX HN HS HC HB ⊢
 clear hBB HW0
 obtain ⟨A, hAA⟩ : ∃ A, B + 1 = A := ⟨_, rfl⟩
 have HAA := Lib.hid hAA
 rw [hAA] at H0 HS ⊢
 clear hAA
 have HNB : Hid (∀ W v D, Wr W0 A W v D → NB W B V 40) := Lib.hid (fun W v D hw => (hw.be.block B (by have := HS.out; have := HAA.out; omega)).trans HN.out)
 have P0 := Lib.hid (numbers125 B (W0.alloc (.cells #[.slice none 0 0] 170)))
 generalize W0.alloc (.cells #[.slice none 0 0] 170) = W1 at H0 P0 ⊢
 refine P0.out.mono ?_
 rintro e w1 ⟨g, rfl, hgl, hgn, hgb⟩
 have hw1 := H0.out.keep hgb
 have HF0 := Lib.hid (H0.out.fo hgl hgn.lt)
 have HGN := Lib.hid hgn
 have H1 := Lib.hid hw1
 clear hgl hgn hgb hw1 P0 H0
 go_wp2_with fail
 go_loopw [8] (fun i wr => ∃ q : Nat, q ≤ 10 ∧ i = .int .i64 q ∧ Hid (∃ v' F, Wr W0 A wr v' F ∧ Ck A (.slice none 0 0) w1 v' wr ∧ F ++ S q = S 0)) (fun i _ => 10 - (intOf i).toNat)
 case atStart => exact ⟨0, by omega, rfl, Lib.hid ⟨_, _, H1.out, Ck.refl _ _ _, rfl⟩⟩
 case round =>
  obtain ⟨q, hq, rfl, hrel⟩ := hrel
  obtain ⟨v2, F, hw, hck, hF⟩ := hrel.out
  clear hrel
  by_cases hq1 : q < 10
  ·have j1 : decide ((q : Int) < 10) = true := by simp; omega
   have hS1 := HSS.out.1 q hq1
   have hlF : F.length + (num (iz LL q)).length ≤ 10000000 := by
    have h1 := congrArg List.length hF
    have h2 := HL.out
    rw [HE.out] at h2
    rw [hS1] at h1
    simp only [List.length_append] at h1 h2
    omega
   have hgq := HR.out q hq1
   have cp := (HF0.out.nb hck HGN.out).c (ptrs_at B q hq1)
   have c0 := (HNB.out _ _ _ hw).c (HA.out q hq1)
   obtain ⟨y, hx⟩ : ∃ y, iz LL q = y := ⟨_, rfl⟩
   rw [hx] at hS1 hlF hgq c0
   clear hx
   have HF := Lib.hid (num126 hw y hgq hlF)
   have HK := Lib.hid hck
   have HQQ := Lib.hid (show ∀ G, G = F ++ num y → G ++ S (q + 1) = S 0 from fun G e => by rw [e, List.append_assoc, ← hS1]; exact hF)
   clear hw hck hF hS1 hlF hgq
   go_wp2_with fail
   refine HF.out.mono ?_
   rintro e w2 ⟨rfl, v3, hW, hC⟩
   have fin : Hid (∃ v' F, Wr W0 A w2 v' F ∧ Ck A (.slice none 0 0) w1 v' w2 ∧ F ++ S (q + 1) = S 0) := Lib.hid ⟨_, _, hW, HK.out.trans hC, HQQ.out _ rfl⟩
   clear hW hC HK HQQ HF
   go_wp2_with fail
   exact ⟨⟨q + 1, hq1, by simp, fin⟩, by simp [intOf]; omega⟩
  ·have hq5 : q = 10 := by omega
   subst hq5
   have hF5 : F = S 0 := by rw [HSS.out.2.1, List.append_nil] at hF; exact hF
   subst hF5
   have T0 := Lib.hid hw
   have CC := Lib.hid (HC.out _ (HNB.out _ _ _ hw))
   obtain ⟨c10, c11, -, -, -, -, -⟩ := CC.out
   have j1 : decide (((10 : Nat) : Int) < 10) = false := by simp
   clear hw hck hF HGN HF0 H1 HSS HR HA CC
   go_wp2_with fail
   refine (setting127 T0.out x.N.sh x.N.bk HG.out.2.1 (by
    have h2 := HL.out
    rw [HE.out] at h2
    simp only [List.length_append] at h2 ⊢
    omega)).mono ?_
   rintro e y1 ⟨rfl, z1, hW, -⟩
   have T1 := Lib.hid hW
   clear c10 c11
   obtain ⟨-, -, c12, -, -, -, -⟩ := HC.out _ (HNB.out _ _ _ hW)
   clear hW T0
   go_wp2_with fail
   refine (num126 T1.out x.N.rb HG.out.2.2.1 (by
    have h2 := HL.out
    rw [HE.out] at h2
    simp only [List.length_append] at h2 ⊢
    omega)).mono ?_
   rintro e y2 ⟨rfl, z2, hW, -⟩
   have T2 := Lib.hid hW
   clear c12
   obtain ⟨-, -, -, c13, -, -, -⟩ := HC.out _ (HNB.out _ _ _ hW)
   clear hW T1
   go_wp2_with fail
   refine (num126 T2.out x.N.rn HG.out.2.2.2.1 (by
    have h2 := HL.out
    rw [HE.out] at h2
    simp only [List.length_append] at h2 ⊢
    omega)).mono ?_
   rintro e y3 ⟨rfl, z3, hW, -⟩
   have T3 := Lib.hid hW
   clear c13
   obtain ⟨-, -, -, -, c14, -, -⟩ := HC.out _ (HNB.out _ _ _ hW)
   clear hW T2
   go_wp2_with fail
   refine (numbers128 T3.out _ x.N.P HP.out HG.out.2.2.2.2.1 (by
    have h2 := HL.out
    rw [HE.out] at h2
    simp only [List.length_append] at h2 ⊢
    omega)).mono ?_
   rintro e y4 ⟨rfl, z4, hW, -⟩
   have T4 := Lib.hid hW
   clear c14
   obtain ⟨-, -, -, -, -, c15, -⟩ := HC.out _ (HNB.out _ _ _ hW)
   clear hW T3
   go_wp2_with fail
   refine (numbers128 T4.out _ x.N.Q HQ.out HG.out.2.2.2.2.2.1 (by
    have h2 := HL.out
    rw [HE.out] at h2
    simp only [List.length_append] at h2 ⊢
    omega)).mono ?_
   rintro e y5 ⟨rfl, z5, hW, -⟩
   have T5 := Lib.hid hW
   clear c15
   obtain ⟨-, -, -, -, -, -, c16⟩ := HC.out _ (HNB.out _ _ _ hW)
   clear hW T4
   go_wp2_with fail
   refine (pieces129 T5.out _ x.N.D HD.out HG.out.2.2.2.2.2.2.1 (by
    have h2 := HL.out
    rw [HE.out] at h2
    simp only [List.length_append] at h2 ⊢
    omega)).mono ?_
   rintro e y6 ⟨rfl, z6, hW, -⟩
   have T6 := Lib.hid hW
   clear c16
   have hitm := HX.out _ (HNB.out _ _ _ hW)
   clear hW T5
   go_wp2_with fail
   refine (item131 T6.out x.N.X x.iP x.iC x.iS HV.out.X.P HV.out.X.C HV.out.X.S HG.out.2.2.2.2.2.2.2 (by
    have h2 := HL.out
    rw [HE.out] at h2
    simp only [List.length_append] at h2 ⊢
    omega)).mono ?_
   rintro e y7 ⟨rfl, z7, hW, -⟩
   have T7 := Lib.hid hW
   clear hitm
   clear hW T6
   go_wp2_with fail
   have HF : Hid (Wr W0 A y7 z7 (encN x.N)) := Lib.hid (by rw [HE.out]; have := T7.out; simpa only [List.append_assoc] using this)
   clear T7
   refine (bytes132 HF.out HL.out).mono ?_
   rintro e w9 ⟨u, rfl, ho, hb⟩
   have hsl := own_SlB ho (Nat.le_trans HL.out (by decide))
   have hb9 : Below B w w9 := HB.out.trans ((HF.out.be.trans (hb.mono HF.out.be.size)).mono (by have := HS.out; have := HAA.out; omega))
   have fin : Hid (SlB w9 u (encN x.N) ∧ By (encN x.N) ∧ Below w.heap.size w w9) := Lib.hid ⟨hsl.1, HF.out.by', by rw [HBB.out]; exact hb9⟩
   obtain ⟨ua, uc, rfl, -, -⟩ := hsl.1
   clear ho hb hsl hb9 HF
   go_wp2_with fail
   go_ret
   exact ⟨_, rfl, fin.out⟩

end Go.Proofs.YtcgmmfcphfkdhaaGreat

/- Walks: same: two notes are the same where their encodings are. -/
namespace Go.Proofs.YtcgmmfcphfkdhaaGreat
open Go Go.RowKit Go.Proofs Go.Torn Go.Abs

theorem vb_by (n : Nat) : By (vb n) := by
 induction n using Nat.strongRecOn with
 | _ n ih =>
  rw [vb]
  split
  ·intro v hv; simp at hv; omega
  ·intro v hv
   rcases List.mem_cons.1 hv with e | e
   ·omega
   ·exact ih (n / 128) (by omega) v e
theorem num_by (x : Int) : By (num x) := vb_by _
theorem fl_by {α : Type} {f : α → List Nat} (hf : ∀ x, By (f x)) (L : List α) : By (L.flatMap f) := fun v hv => by
 obtain ⟨x, -, h⟩ := List.mem_flatMap.1 hv
 exact hf x v h
theorem lst_by {α : Type} {f : α → List Nat} (hf : ∀ x, By (f x)) (L : List α) : By (lst f L) := By_append (num_by _) (fl_by hf L)
theorem encG_by (g : G5) : By (encG g) := By_append (num_by _) (By_append (num_by _) (By_append (num_by _) (By_append (num_by _) (num_by _))))
theorem encM_by (g : M3) : By (encM g) := By_append (num_by _) (By_append (num_by _) (num_by _))
theorem encS_by (s : S8) : By (encS s) := By_append (num_by _) (By_append (num_by _) (By_append (num_by _) (By_append (num_by _) (By_append (num_by _) (By_append (num_by _) (By_append (num_by _) (num_by _)))))))
theorem encP_by (p : Pc) : By (encP p) := By_append (num_by _) (By_append (num_by _) (By_append (num_by _) (By_append (num_by _) (By_append (num_by _) (By_append (lst_by encG_by _) (lst_by encM_by _))))))
theorem encN_by (n : Nt) : By (encN n) := by
 unfold encN
 repeat' apply By_append
 all_goals first | exact num_by _ | exact fl_by num_by _ | exact fl_by encP_by _ | exact fl_by encS_by _

def SmV (V U : Array Value) (X Y : List Nat) : Nat → Value → World → Prop
 | 0, v, _ => v = .agg V
 | 1, v, W => SlB W v X
 | 2, v, _ => v = .agg U
 | 3, v, W => SlB W v Y
 | 4, v, _ => v = .bool (decide (X = Y))
 | _, v, _ => v = .bool (decide (X = Y))
theorem SmV.keep {V U : Array Value} {X Y : List Nat} : ∀ i v W W', SmV V U X Y i v W → Below W.heap.size W W' → SmV V U X Y i v W'
 | 0, _, _, _, h, _ => h
 | 1, _, _, _, h, hb => SlB.keep h hb
 | 2, _, _, _, h, _ => h
 | 3, _, _, _, h, hb => SlB.keep h hb
 | 4, _, _, _, h, _ => h
 | _ + 5, _, _, _, h, _ => h

set_option maxRecDepth 100000 in
set_option maxHeartbeats 8000000 in
theorem same64 (x y : Nv) (w : World) (hx : NV w x) (hy : NV w y) (gx : x.N.rg) (gy : y.N.rg) (lx : (encN x.N).length ≤ 10000000) (ly : (encN y.N).length ≤ 10000000) :
  Calls Tryz.prog 64 #[.agg x.arr, .agg y.arr] w fun e w' => Say e (x.N = y.N) ∧ Below w.heap.size w w' := by
 obtain ⟨m, hm, ⟨hm0, hm1, hm2⟩, hs40⟩ := m40.out
 have b0 := ((Below.refl w.heap.size w).alloc (Nat.le_refl _) (.cells x.arr 40)).alloc (by simp) (.cells y.arr 40)
 have n0 := (NB.new w x.arr 40).alloc (.cells y.arr 40)
 have n1 := nb1 w (.cells x.arr 40) y.arr 40
 obtain ⟨W0, hW0⟩ : ∃ W0, (w.alloc (.cells x.arr 40)).alloc (.cells y.arr 40) = W0 := ⟨_, rfl⟩
 rw [hW0] at b0 n0 n1
 have LA := Lib.hid (fun W (hb : Below W0.heap.size W0 W) => (n0.keep hb).load (m := m) ((arr_size x).trans hm))
 have LB := Lib.hid (fun W (hb : Below W0.heap.size W0 W) => (n1.keep hb).load (m := m) ((arr_size y).trans hm))
 have CA := Lib.hid (fun W (hb : Below W0.heap.size W0 W) => (encoding68 x W ((hx.keep b0).keep hb) gx lx).mono (fun e w' h => h))
 have CB := Lib.hid (fun W (hb : Below W0.heap.size W0 W) => (encoding68 y W ((hy.keep b0).keep hb) gy ly).mono (fun e w' h => h))
 obtain ⟨X, hX⟩ : ∃ X, encN x.N = X := ⟨_, rfl⟩
 obtain ⟨Y, hY⟩ : ∃ Y, encN y.N = Y := ⟨_, rfl⟩
 have HF : Hid (X = Y ↔ x.N = y.N) := Lib.hid (by rw [← hX, ← hY]; exact ⟨encN_inj, fun h => by rw [h]⟩)
 obtain ⟨RR, hRR⟩ : ∃ RR : Prop, (x.N = y.N) = RR := ⟨_, rfl⟩
 rw [hRR] at HF ⊢
 rw [hX] at CA
 rw [hY] at CB
 have BX : Hid (By X ∧ By Y) := Lib.hid (by
  rw [← hX, ← hY]
  exact ⟨encN_by x.N, encN_by y.N⟩)
 have B0 := Lib.hid b0
 have HW := Lib.hid hW0
 clear b0 n0 n1 hW0 hm hX hY hRR hx hy gx gy lx ly
 generalize x.arr = V at *
 generalize y.arr = U at *
 go_enter Tryz.func64, Tryz.ntmps64
 go_wp2_with fail
 rw [HW.out]
 clear HW
 refine wp_region_valsG (SmV V U X Y) (by kernel_rfl) (by kernel_rfl) SmV.keep ?_ ?_ ?_
 ·intro i o g bb ho hg v W hv
  have hi : i < 6 := by have := (List.getElem?_eq_some_iff.1 ho).1; simpa using this
  obtain rfl | rfl | rfl | rfl | rfl | rfl : i = 0 ∨ i = 1 ∨ i = 2 ∨ i = 3 ∨ i = 4 ∨ i = 5 := by omega
  all_goals simp only [List.getElem?_cons_zero, List.getElem?_cons_succ, Option.some.injEq] at ho
  all_goals subst ho
  all_goals simp only [reduceCtorEq] at hg
 ·intro i o ho a' W hW hfr hdep
  have f2 : a'.tmps[2]?.getD undef = .pointer (some ⟨w.heap.size, 0, none⟩) := Array.getD_eq_getD_getElem?.symm.trans (hfr 2 rfl)
  have f3 : a'.tmps[3]?.getD undef = .pointer (some ⟨w.heap.size + 1, 0, none⟩) := Array.getD_eq_getD_getElem?.symm.trans (hfr 3 rfl)
  clear hfr
  have hi : i < 6 := by have := (List.getElem?_eq_some_iff.1 ho).1; simpa using this
  obtain rfl | rfl | rfl | rfl | rfl | rfl : i = 0 ∨ i = 1 ∨ i = 2 ∨ i = 3 ∨ i = 4 ∨ i = 5 := by omega
  all_goals simp only [List.getElem?_cons_zero, List.getElem?_cons_succ, Option.some.injEq] at ho
  all_goals subst ho
  ·clear hdep
   have l := LA.out W hW
   refine .inl ⟨_, W, ?_, Below.refl _ _, rfl⟩
   go_simp
  ·have d5 : a'.tmps[5]?.getD undef = .agg V := Array.getD_eq_getD_getElem?.symm.trans (hdep ⟨0, .data⟩ (by simp) rfl 5 rfl)
   clear hdep
   refine .inr ⟨68, #[.agg V], W, ?_, Below.refl _ _, (CA.out W hW).mono ?_⟩
   ·go_simp
   ·rintro e W' ⟨u, rfl, hs, -, hb⟩
    exact ⟨_, rfl, hb, hs⟩
  ·clear hdep
   have l := LB.out W hW
   refine .inl ⟨_, W, ?_, Below.refl _ _, rfl⟩
   go_simp
  ·have d5 : a'.tmps[7]?.getD undef = .agg U := Array.getD_eq_getD_getElem?.symm.trans (hdep ⟨2, .data⟩ (by simp) rfl 7 rfl)
   clear hdep
   refine .inr ⟨68, #[.agg U], W, ?_, Below.refl _ _, (CB.out W hW).mono ?_⟩
   ·go_simp
   ·rintro e W' ⟨u, rfl, hs, -, hb⟩
    exact ⟨_, rfl, hb, hs⟩
  ·have s1 : SlB W (a'.tmps[6]?.getD undef) X := by have := hdep ⟨1, .data⟩ (by simp) rfl 6 rfl; rw [← Array.getD_eq_getD_getElem?]; exact this
   have s3 : SlB W (a'.tmps[8]?.getD undef) Y := by have := hdep ⟨3, .data⟩ (by simp) rfl 8 rfl; rw [← Array.getD_eq_getD_getElem?]; exact this
   clear hdep
   refine .inr ⟨121, #[a'.tmps[6]?.getD undef, a'.tmps[8]?.getD undef], W, ?_, Below.refl _ _, (equal_any _ _ X Y BX.out.1 BX.out.2 W s1 s3).mono ?_⟩
   ·go_simp
   ·rintro e W' ⟨rfl, rfl⟩
    exact ⟨_, rfl, Below.refl _ _, rfl⟩
  ·have d4 : a'.tmps[9]?.getD undef = .bool (decide (X = Y)) := Array.getD_eq_getD_getElem?.symm.trans (hdep ⟨4, .data⟩ (by simp) rfl 9 rfl)
   clear hdep
   refine .inl ⟨_, W, ?_, Below.refl _ _, rfl⟩
   go_simp
 ·intro W hW
  simp only [List.map_cons, List.map_nil, VQG, SmV]
  rintro _ rfl v1 s1 _ rfl v3 s3 _ rfl _ rfl
  simp only [List.setIfInBounds_toArray, List.set_cons_succ, List.set_cons_zero]
  have HG := Lib.hid (B0.out.trans (hW.mono B0.out.size))
  clear hW s1 s3 CA CB LA LB B0 BX
  go_wp2
  go_ret
  exact ⟨say_is (by rw [decide_eq_true_eq]; exact HF.out), HG.out⟩

end Go.Proofs.YtcgmmfcphfkdhaaGreat
