/- The abstract machine, part GrN3. -/
import Derived.Test.YtcgmmfcphfkdhaaGreatGrN2
/- Walks: equal notes. -/
namespace Go.Proofs.YtcgmmfcphfkdhaaGreat
open Go Go.RowKit Go.Proofs

def scN (X Y : Nt) : Prop := X.b = Y.b ∧ X.n = Y.n ∧ X.c = Y.c ∧ X.y = Y.y ∧ X.k = Y.k ∧ X.f = Y.f ∧ X.p = Y.p ∧ X.q = Y.q ∧ X.o = Y.o ∧ X.t = Y.t ∧ X.sh = Y.sh ∧ X.bk = Y.bk ∧ X.rb = Y.rb ∧ X.rn = Y.rn

set_option maxRecDepth 100000 in
set_option maxHeartbeats 8000000 in
theorem sameNote_head (x y : Nv) (h : ¬ scN x.N y.N) (w : World) :
  Calls Tryz.prog 23 #[.agg x.arr, .agg y.arr] w fun e w' => e = .returned (.bool false) ∧ Below w.heap.size w w' := by
 have b0 : Below w.heap.size w ((w.alloc (.cells x.arr 40)).alloc (.cells y.arr 40)) := ((Below.refl _ _).alloc (Nat.le_refl _) _).alloc (by simp) _
 unfold scN at h
 have v0 : x.arr[0]? = some (.int .i64 x.N.b) := rfl
 have u0 : y.arr[0]? = some (.int .i64 y.N.b) := rfl
 have v1 : x.arr[1]? = some (.int .i64 x.N.n) := rfl
 have u1 : y.arr[1]? = some (.int .i64 y.N.n) := rfl
 have v2 : x.arr[2]? = some (.int .i64 x.N.c) := rfl
 have u2 : y.arr[2]? = some (.int .i64 y.N.c) := rfl
 have v3 : x.arr[3]? = some (.int .i64 x.N.y) := rfl
 have u3 : y.arr[3]? = some (.int .i64 y.N.y) := rfl
 have v4 : x.arr[4]? = some (.int .i64 x.N.k) := rfl
 have u4 : y.arr[4]? = some (.int .i64 y.N.k) := rfl
 have v5 : x.arr[5]? = some (.int .i64 x.N.f) := rfl
 have u5 : y.arr[5]? = some (.int .i64 y.N.f) := rfl
 have v6 : x.arr[6]? = some (.int .i64 x.N.p) := rfl
 have u6 : y.arr[6]? = some (.int .i64 y.N.p) := rfl
 have v7 : x.arr[7]? = some (.int .i64 x.N.q) := rfl
 have u7 : y.arr[7]? = some (.int .i64 y.N.q) := rfl
 have v8 : x.arr[8]? = some (.int .i64 x.N.o) := rfl
 have u8 : y.arr[8]? = some (.int .i64 y.N.o) := rfl
 have v9 : x.arr[9]? = some (.int .i64 x.N.t) := rfl
 have u9 : y.arr[9]? = some (.int .i64 y.N.t) := rfl
 have v10 : x.arr[10]? = some (.int .i64 x.N.sh) := rfl
 have u10 : y.arr[10]? = some (.int .i64 y.N.sh) := rfl
 have v11 : x.arr[11]? = some (.bool x.N.bk) := rfl
 have u11 : y.arr[11]? = some (.bool y.N.bk) := rfl
 have v12 : x.arr[12]? = some (.int .i64 x.N.rb) := rfl
 have u12 : y.arr[12]? = some (.int .i64 y.N.rb) := rfl
 have v13 : x.arr[13]? = some (.int .i64 x.N.rn) := rfl
 have u13 : y.arr[13]? = some (.int .i64 y.N.rn) := rfl
 generalize x.arr = V at *
 generalize y.arr = U at *
 generalize x.N.b = xb at *
 generalize y.N.b = yb at *
 generalize x.N.n = xn at *
 generalize y.N.n = yn at *
 generalize x.N.c = xc at *
 generalize y.N.c = yc at *
 generalize x.N.y = xy at *
 generalize y.N.y = yy at *
 generalize x.N.k = xk at *
 generalize y.N.k = yk at *
 generalize x.N.f = xf at *
 generalize y.N.f = yf at *
 generalize x.N.p = xp at *
 generalize y.N.p = yp at *
 generalize x.N.q = xq at *
 generalize y.N.q = yq at *
 generalize x.N.o = xo at *
 generalize y.N.o = yo at *
 generalize x.N.t = xt at *
 generalize y.N.t = yt at *
 generalize x.N.sh = xsh at *
 generalize y.N.sh = ysh at *
 generalize x.N.bk = xbk at *
 generalize y.N.bk = ybk at *
 generalize x.N.rb = xrb at *
 generalize y.N.rb = yrb at *
 generalize x.N.rn = xrn at *
 generalize y.N.rn = yrn at *
 by_cases hb : xb = yb
 ·subst hb
  by_cases hn : xn = yn
  ·subst hn
   by_cases hc : xc = yc
   ·subst hc
    by_cases hy : xy = yy
    ·subst hy
     by_cases hk : xk = yk
     ·subst hk
      by_cases hf : xf = yf
      ·subst hf
       by_cases hp : xp = yp
       ·subst hp
        by_cases hq : xq = yq
        ·subst hq
         by_cases ho : xo = yo
         ·subst ho
          by_cases ht : xt = yt
          ·subst ht
           by_cases hsh : xsh = ysh
           ·subst hsh
            by_cases hbk : xbk = ybk
            ·subst hbk
             by_cases hrb : xrb = yrb
             ·subst hrb
              by_cases hrn : xrn = yrn
              ·subst hrn
               exact absurd ⟨rfl, rfl, rfl, rfl, rfl, rfl, rfl, rfl, rfl, rfl, rfl, rfl, rfl, rfl⟩ h
              ·clear h
               go_enter Tryz.func23, Tryz.ntmps23
               go_wp2
               go_ret
               exact ⟨rfl, b0⟩
             ·clear h
              go_enter Tryz.func23, Tryz.ntmps23
              go_wp2
              go_ret
              exact ⟨rfl, b0⟩
            ·clear h
             cases xbk <;> cases ybk
             all_goals first | (exact absurd rfl hbk) | (go_enter Tryz.func23, Tryz.ntmps23; go_wp2; go_ret; exact ⟨rfl, b0⟩)
           ·clear h
            go_enter Tryz.func23, Tryz.ntmps23
            go_wp2
            go_ret
            exact ⟨rfl, b0⟩
          ·clear h
           go_enter Tryz.func23, Tryz.ntmps23
           go_wp2
           go_ret
           exact ⟨rfl, b0⟩
         ·clear h
          go_enter Tryz.func23, Tryz.ntmps23
          go_wp2
          go_ret
          exact ⟨rfl, b0⟩
        ·clear h
         go_enter Tryz.func23, Tryz.ntmps23
         go_wp2
         go_ret
         exact ⟨rfl, b0⟩
       ·clear h
        go_enter Tryz.func23, Tryz.ntmps23
        go_wp2
        go_ret
        exact ⟨rfl, b0⟩
      ·clear h
       go_enter Tryz.func23, Tryz.ntmps23
       go_wp2
       go_ret
       exact ⟨rfl, b0⟩
     ·clear h
      go_enter Tryz.func23, Tryz.ntmps23
      go_wp2
      go_ret
      exact ⟨rfl, b0⟩
    ·clear h
     go_enter Tryz.func23, Tryz.ntmps23
     go_wp2
     go_ret
     exact ⟨rfl, b0⟩
   ·clear h
    go_enter Tryz.func23, Tryz.ntmps23
    go_wp2
    go_ret
    exact ⟨rfl, b0⟩
  ·clear h
   go_enter Tryz.func23, Tryz.ntmps23
   go_wp2
   go_ret
   exact ⟨rfl, b0⟩
 ·clear h
  go_enter Tryz.func23, Tryz.ntmps23
  go_wp2
  go_ret
  exact ⟨rfl, b0⟩

end Go.Proofs.YtcgmmfcphfkdhaaGreat

/- Walks: equal notes, the lists. -/
namespace Go.Proofs.YtcgmmfcphfkdhaaGreat
open Go Go.RowKit Go.Proofs

def scM (X Y : Nt) : Prop := X.b = Y.b ∧ X.n = Y.n ∧ X.c = Y.c ∧ X.y = Y.y ∧ X.k = Y.k ∧ X.f = Y.f ∧ X.p = Y.p ∧ X.q = Y.q ∧ X.o = Y.o ∧ X.t = Y.t ∧ X.sh = Y.sh ∧ X.bk = Y.bk ∧ X.rb = Y.rb ∧ X.rn = Y.rn

set_option maxRecDepth 100000 in
set_option maxHeartbeats 8000000 in
theorem sameNote_body (x y : Nv) (h : scM x.N y.N) (w : World) (hx : NV w x) (hy : NV w y) :
  Calls Tryz.prog 23 #[.agg x.arr, .agg y.arr] w fun e w' => Say e (x.N.P = y.N.P ∧ x.N.Q = y.N.Q ∧ x.N.D = y.N.D ∧ x.N.X = y.N.X) ∧ Below w.heap.size w w' := by
 obtain ⟨m, hm, ⟨hm0, hm1, hm2⟩, hs38⟩ := m38.out
 obtain ⟨FS, hu40, fs0, fs1, fs2, fs3, fs4, fs5, fs6, fs7, fs8, fs9, fs10, fs11, fs12, fs13, fs14, fs15⟩ := f40.out
 have b0 : Below w.heap.size w ((w.alloc (.cells x.arr 40)).alloc (.cells y.arr 40)) := ((Below.refl _ _).alloc (Nat.le_refl _) _).alloc (by simp) _
 have n1 := (NB.new w x.arr 40).alloc (.cells y.arr 40)
 have n2 := nb1 w (.cells x.arr 40) y.arr 40
 obtain ⟨W, hW⟩ : ∃ W, (w.alloc (.cells x.arr 40)).alloc (.cells y.arr 40) = W := ⟨_, rfl⟩
 have CP := ints72 x.uP y.uP x.N.P y.N.P _ (hx.P.keep b0) (hy.P.keep b0)
 have L1 := n1
 have L2 := n2
 have B0 := b0
 rw [hW] at L1 L2 B0
 have CQ := Lib.hid (fun w1 (hb : Below W.heap.size W w1) => ints72 x.uQ y.uQ x.N.Q y.N.Q w1 ((hx.Q.keep B0).keep hb) ((hy.Q.keep B0).keep hb))
 have CD := Lib.hid (fun w1 (hb : Below W.heap.size W w1) => samePieces73 x.uD y.uD x.N.D y.N.D w1 ((hx.D.keep B0).keep hb) ((hy.D.keep B0).keep hb))
 have CX := Lib.hid (fun w1 (hb : Below W.heap.size W w1) => sameItem_any x y w1 ((hx.X.keep B0).keep hb) ((hy.X.keep B0).keep hb))
 have HL1 := Lib.hid (fun w1 (hb : Below W.heap.size W w1) => (L1.keep hb).loadX hm)
 have HL2 := Lib.hid (fun w1 (hb : Below W.heap.size W w1) => (L2.keep hb).loadX hm)
 have HK1 := Lib.hid (fun w1 (hb : Below W.heap.size W w1) => And.intro ((L1.keep hb).c (k := 15) (v := x.uQ) rfl) ((L2.keep hb).c (k := 15) (v := y.uQ) rfl))
 have HK2 := Lib.hid (fun w1 (hb : Below W.heap.size W w1) => And.intro ((L1.keep hb).c (k := 16) (v := x.uD) rfl) ((L2.keep hb).c (k := 16) (v := y.uD) rfl))
 have v0 : x.arr[0]? = some (.int .i64 x.N.b) := rfl
 have u0 : y.arr[0]? = some (.int .i64 x.N.b) := by rw [h.1]; rfl
 have v1 : x.arr[1]? = some (.int .i64 x.N.n) := rfl
 have u1 : y.arr[1]? = some (.int .i64 x.N.n) := by rw [h.2.1]; rfl
 have v2 : x.arr[2]? = some (.int .i64 x.N.c) := rfl
 have u2 : y.arr[2]? = some (.int .i64 x.N.c) := by rw [h.2.2.1]; rfl
 have v3 : x.arr[3]? = some (.int .i64 x.N.y) := rfl
 have u3 : y.arr[3]? = some (.int .i64 x.N.y) := by rw [h.2.2.2.1]; rfl
 have v4 : x.arr[4]? = some (.int .i64 x.N.k) := rfl
 have u4 : y.arr[4]? = some (.int .i64 x.N.k) := by rw [h.2.2.2.2.1]; rfl
 have v5 : x.arr[5]? = some (.int .i64 x.N.f) := rfl
 have u5 : y.arr[5]? = some (.int .i64 x.N.f) := by rw [h.2.2.2.2.2.1]; rfl
 have v6 : x.arr[6]? = some (.int .i64 x.N.p) := rfl
 have u6 : y.arr[6]? = some (.int .i64 x.N.p) := by rw [h.2.2.2.2.2.2.1]; rfl
 have v7 : x.arr[7]? = some (.int .i64 x.N.q) := rfl
 have u7 : y.arr[7]? = some (.int .i64 x.N.q) := by rw [h.2.2.2.2.2.2.2.1]; rfl
 have v8 : x.arr[8]? = some (.int .i64 x.N.o) := rfl
 have u8 : y.arr[8]? = some (.int .i64 x.N.o) := by rw [h.2.2.2.2.2.2.2.2.1]; rfl
 have v9 : x.arr[9]? = some (.int .i64 x.N.t) := rfl
 have u9 : y.arr[9]? = some (.int .i64 x.N.t) := by rw [h.2.2.2.2.2.2.2.2.2.1]; rfl
 have v10 : x.arr[10]? = some (.int .i64 x.N.sh) := rfl
 have u10 : y.arr[10]? = some (.int .i64 x.N.sh) := by rw [h.2.2.2.2.2.2.2.2.2.2.1]; rfl
 have v11 : x.arr[11]? = some (.bool x.N.bk) := rfl
 have u11 : y.arr[11]? = some (.bool x.N.bk) := by rw [h.2.2.2.2.2.2.2.2.2.2.2.1]; rfl
 have v12 : x.arr[12]? = some (.int .i64 x.N.rb) := rfl
 have u12 : y.arr[12]? = some (.int .i64 x.N.rb) := by rw [h.2.2.2.2.2.2.2.2.2.2.2.2.1]; rfl
 have v13 : x.arr[13]? = some (.int .i64 x.N.rn) := rfl
 have u13 : y.arr[13]? = some (.int .i64 x.N.rn) := by rw [h.2.2.2.2.2.2.2.2.2.2.2.2.2]; rfl
 have v14 : x.arr[14]? = some x.uP := rfl
 have u14 : y.arr[14]? = some y.uP := rfl
 clear n1 n2 b0 L1 L2 hx hy h hm
 have BB := Lib.hid B0
 have HW := Lib.hid hW
 rw [hW] at CP
 clear B0 hW
 generalize x.arr = V at *
 generalize y.arr = U at *
 generalize x.itm = I at *
 generalize y.itm = J at *
 generalize x.uP = xuP at *
 generalize y.uP = yuP at *
 generalize x.uQ = xuQ at *
 generalize y.uQ = yuQ at *
 generalize x.uD = xuD at *
 generalize y.uD = yuD at *
 generalize x.N.b = xb at *
 generalize x.N.n = xn at *
 generalize x.N.c = xc at *
 generalize x.N.y = xy at *
 generalize x.N.k = xk at *
 generalize x.N.f = xf at *
 generalize x.N.p = xp at *
 generalize x.N.q = xq at *
 generalize x.N.o = xo at *
 generalize x.N.t = xt at *
 generalize x.N.sh = xsh at *
 generalize x.N.bk = xbk at *
 generalize x.N.rb = xrb at *
 generalize x.N.rn = xrn at *
 generalize x.N.P = P at *
 generalize y.N.P = P' at *
 generalize x.N.Q = Q at *
 generalize y.N.Q = Q' at *
 generalize x.N.D = D at *
 generalize y.N.D = D' at *
 generalize x.N.X = X at *
 generalize y.N.X = X' at *
 cases xbk
 all_goals (
  by_cases hP : P = P'
  ·replace CP := CP.mono fun e w' (h : Say e (P = P') ∧ _) => And.intro (say_t h.1 hP) h.2
   have HP := Lib.hid hP
   clear hP
   by_cases hQ : Q = Q'
   ·have CQ2 := Lib.hid (fun w1 hb => (CQ.out w1 hb).mono fun e w' (h : Say e (Q = Q') ∧ _) => And.intro (say_t h.1 hQ) h.2)
    have HQ := Lib.hid hQ
    clear hQ
    by_cases hD : D = D'
    ·have CD2 := Lib.hid (fun w1 hb => (CD.out w1 hb).mono fun e w' (h : Say e (D = D') ∧ _) => And.intro (say_t h.1 hD) h.2)
     have HD := Lib.hid hD
     clear hD
     have HE : Hid (X = X' ↔ (P = P' ∧ Q = Q' ∧ D = D' ∧ X = X')) := Lib.hid ⟨fun h => ⟨HP.out, HQ.out, HD.out, h⟩, fun h => h.2.2.2⟩
     generalize (P = P' ∧ Q = Q' ∧ D = D' ∧ X = X') = RR at HE ⊢
     generalize (X = X') = RX at HE CX
     go_enter Tryz.func23, Tryz.ntmps23
     go_wp2_with fail
     rw [HW.out]
     refine CP.mono ?_
     rintro e w1 ⟨rfl, hb⟩
     have HB1 := Lib.hid hb
     obtain ⟨q15, q15'⟩ := HK1.out _ hb
     clear hb CP
     go_wp2_with fail
     refine (CQ2.out _ HB1.out).mono ?_
     rintro e w2 ⟨rfl, hb⟩
     have HB2 := Lib.hid (HB1.out.trans (hb.mono HB1.out.size))
     clear q15 q15'
     obtain ⟨q16, q16'⟩ := HK2.out _ HB2.out
     clear hb
     go_wp2_with fail
     refine (CD2.out _ HB2.out).mono ?_
     rintro e w3 ⟨rfl, hb⟩
     have HB3 := Lib.hid (HB2.out.trans (hb.mono HB2.out.size))
     clear q16 q16'
     have l1 := HL1.out _ HB3.out
     have l2 := HL2.out _ HB3.out
     clear hb
     go_wp2_with fail
     refine (CX.out _ HB3.out).mono ?_
     rintro e w4 ⟨⟨r, hr, rfl⟩, hb⟩
     have HB4 := Lib.hid (HB3.out.trans (hb.mono HB3.out.size))
     have HR := Lib.hid hr
     clear l1 l2 hb hr
     go_wp2_with fail
     go_ret
     exact ⟨say_is (HR.out.trans HE.out), BB.out.trans (HB4.out.mono BB.out.size)⟩
    ·have CD2 := Lib.hid (fun w1 hb => (CD.out w1 hb).mono fun e w' (h : Say e (D = D') ∧ _) => And.intro (say_f h.1 hD) h.2)
     have HN : Hid (¬ (P = P' ∧ Q = Q' ∧ D = D' ∧ X = X')) := Lib.hid fun e => hD e.2.2.1
     clear hD
     generalize (P = P' ∧ Q = Q' ∧ D = D' ∧ X = X') = RR at HN ⊢
     go_enter Tryz.func23, Tryz.ntmps23
     go_wp2_with fail
     rw [HW.out]
     refine CP.mono ?_
     rintro e w1 ⟨rfl, hb⟩
     have HB1 := Lib.hid hb
     obtain ⟨q15, q15'⟩ := HK1.out _ hb
     clear hb CP
     go_wp2_with fail
     refine (CQ2.out _ HB1.out).mono ?_
     rintro e w2 ⟨rfl, hb⟩
     have HB2 := Lib.hid (HB1.out.trans (hb.mono HB1.out.size))
     clear q15 q15'
     obtain ⟨q16, q16'⟩ := HK2.out _ HB2.out
     clear hb
     go_wp2_with fail
     refine (CD2.out _ HB2.out).mono ?_
     rintro e w3 ⟨rfl, hb⟩
     have HB3 := Lib.hid (HB2.out.trans (hb.mono HB2.out.size))
     clear q16 q16'
     clear hb
     go_wp2_with fail
     go_ret
     exact ⟨say_no HN.out, BB.out.trans (HB3.out.mono BB.out.size)⟩
   ·have CQ2 := Lib.hid (fun w1 hb => (CQ.out w1 hb).mono fun e w' (h : Say e (Q = Q') ∧ _) => And.intro (say_f h.1 hQ) h.2)
    have HN : Hid (¬ (P = P' ∧ Q = Q' ∧ D = D' ∧ X = X')) := Lib.hid fun e => hQ e.2.1
    clear hQ
    generalize (P = P' ∧ Q = Q' ∧ D = D' ∧ X = X') = RR at HN ⊢
    go_enter Tryz.func23, Tryz.ntmps23
    go_wp2_with fail
    rw [HW.out]
    refine CP.mono ?_
    rintro e w1 ⟨rfl, hb⟩
    have HB1 := Lib.hid hb
    obtain ⟨q15, q15'⟩ := HK1.out _ hb
    clear hb CP
    go_wp2_with fail
    refine (CQ2.out _ HB1.out).mono ?_
    rintro e w2 ⟨rfl, hb⟩
    have HB2 := Lib.hid (HB1.out.trans (hb.mono HB1.out.size))
    clear q15 q15'
    clear hb
    go_wp2_with fail
    go_ret
    exact ⟨say_no HN.out, BB.out.trans (HB2.out.mono BB.out.size)⟩
  ·replace CP := CP.mono fun e w' (h : Say e (P = P') ∧ _) => And.intro (say_f h.1 hP) h.2
   have HN : Hid (¬ (P = P' ∧ Q = Q' ∧ D = D' ∧ X = X')) := Lib.hid fun e => hP e.1
   clear hP
   generalize (P = P' ∧ Q = Q' ∧ D = D' ∧ X = X') = RR at HN ⊢
   go_enter Tryz.func23, Tryz.ntmps23
   go_wp2_with fail
   rw [HW.out]
   refine CP.mono ?_
   rintro e w1 ⟨rfl, hb⟩
   have HB1 := Lib.hid hb
   clear hb CP
   go_wp2_with fail
   go_ret
   exact ⟨say_no HN.out, BB.out.trans (HB1.out.mono BB.out.size)⟩)

end Go.Proofs.YtcgmmfcphfkdhaaGreat

/- Walks: equal notes, whole. -/
namespace Go.Proofs.YtcgmmfcphfkdhaaGreat
open Go Go.RowKit Go.Proofs

theorem nt_eq (X Y : Nt) : X = Y ↔ scN X Y ∧ (X.P = Y.P ∧ X.Q = Y.Q ∧ X.D = Y.D ∧ X.X = Y.X) := by
  obtain ⟨a0, a1, a2, a3, a4, a5, a6, a7, a8, a9, a10, a11, a12, a13, a14, a15, a16, a17⟩ := X
  obtain ⟨c0, c1, c2, c3, c4, c5, c6, c7, c8, c9, c10, c11, c12, c13, c14, c15, c16, c17⟩ := Y
  unfold scN
  simp only [Nt.mk.injEq]
  constructor
  · rintro ⟨h0, h1, h2, h3, h4, h5, h6, h7, h8, h9, h10, h11, h12, h13, h14, h15, h16, h17⟩
    exact ⟨⟨h0, h1, h2, h3, h4, h5, h6, h7, h8, h9, h10, h11, h12, h13⟩, h14, h15, h16, h17⟩
  · rintro ⟨⟨h0, h1, h2, h3, h4, h5, h6, h7, h8, h9, h10, h11, h12, h13⟩, h14, h15, h16, h17⟩
    exact ⟨h0, h1, h2, h3, h4, h5, h6, h7, h8, h9, h10, h11, h12, h13, h14, h15, h16, h17⟩

theorem sameNote_any (x y : Nv) (w : World) (hx : NV w x) (hy : NV w y) :
    Calls Tryz.prog 23 #[.agg x.arr, .agg y.arr] w fun e w' => Say e (x.N = y.N) ∧ Below w.heap.size w w' := by
  by_cases h : scN x.N y.N
  · refine (sameNote_body x y h w hx hy).mono ?_
    rintro e w1 ⟨⟨r, hr, rfl⟩, hb⟩
    exact ⟨say_is (hr.trans ⟨fun k => (nt_eq _ _).2 ⟨h, k⟩, fun k => ((nt_eq _ _).1 k).2⟩), hb⟩
  · refine (sameNote_head x y h w).mono ?_
    rintro e w1 ⟨rfl, hb⟩
    exact ⟨say_no fun k => h ((nt_eq _ _).1 k).1, hb⟩

end Go.Proofs.YtcgmmfcphfkdhaaGreat
