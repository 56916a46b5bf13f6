/- Walks: equal notes. -/
import Derived.Test.YtcgmmfcphfkdhaaGreatGrN2
namespace Go.Proofs.YtcgmmfcphfkdhaaGreat
open Go Go.RowKit Go.Proofs

def scN (X Y : Nt) : Prop := X.b = Y.b ∧ X.n = Y.n ∧ X.c = Y.c ∧ X.y = Y.y ∧ X.k = Y.k ∧ X.f = Y.f ∧ X.p = Y.p ∧ X.q = Y.q ∧ X.o = Y.o ∧ X.t = Y.t ∧ X.sh = Y.sh ∧ X.bk = Y.bk ∧ X.rb = Y.rb ∧ X.rn = Y.rn

set_option maxRecDepth 100000 in
set_option maxHeartbeats 8000000 in
theorem sameNote_head (x y : Nv) (h : ¬ scN x.N y.N) (w : World) :
    Calls Tryz.prog 23 #[.agg x.arr, .agg y.arr] w fun e w' => e = .returned (.bool false) ∧ Below w.heap.size w w' := by
  have b0 : Below w.heap.size w ((w.alloc (.cells x.arr 40)).alloc (.cells y.arr 40)) := ((Below.refl _ _).alloc (Nat.le_refl _) _).alloc (by simp) _
  unfold scN at h
  have v0 : x.arr[0]? = some (.int .i64 x.N.b) := rfl
  have u0 : y.arr[0]? = some (.int .i64 y.N.b) := rfl
  have v1 : x.arr[1]? = some (.int .i64 x.N.n) := rfl
  have u1 : y.arr[1]? = some (.int .i64 y.N.n) := rfl
  have v2 : x.arr[2]? = some (.int .i64 x.N.c) := rfl
  have u2 : y.arr[2]? = some (.int .i64 y.N.c) := rfl
  have v3 : x.arr[3]? = some (.int .i64 x.N.y) := rfl
  have u3 : y.arr[3]? = some (.int .i64 y.N.y) := rfl
  have v4 : x.arr[4]? = some (.int .i64 x.N.k) := rfl
  have u4 : y.arr[4]? = some (.int .i64 y.N.k) := rfl
  have v5 : x.arr[5]? = some (.int .i64 x.N.f) := rfl
  have u5 : y.arr[5]? = some (.int .i64 y.N.f) := rfl
  have v6 : x.arr[6]? = some (.int .i64 x.N.p) := rfl
  have u6 : y.arr[6]? = some (.int .i64 y.N.p) := rfl
  have v7 : x.arr[7]? = some (.int .i64 x.N.q) := rfl
  have u7 : y.arr[7]? = some (.int .i64 y.N.q) := rfl
  have v8 : x.arr[8]? = some (.int .i64 x.N.o) := rfl
  have u8 : y.arr[8]? = some (.int .i64 y.N.o) := rfl
  have v9 : x.arr[9]? = some (.int .i64 x.N.t) := rfl
  have u9 : y.arr[9]? = some (.int .i64 y.N.t) := rfl
  have v10 : x.arr[10]? = some (.int .i64 x.N.sh) := rfl
  have u10 : y.arr[10]? = some (.int .i64 y.N.sh) := rfl
  have v11 : x.arr[11]? = some (.bool x.N.bk) := rfl
  have u11 : y.arr[11]? = some (.bool y.N.bk) := rfl
  have v12 : x.arr[12]? = some (.int .i64 x.N.rb) := rfl
  have u12 : y.arr[12]? = some (.int .i64 y.N.rb) := rfl
  have v13 : x.arr[13]? = some (.int .i64 x.N.rn) := rfl
  have u13 : y.arr[13]? = some (.int .i64 y.N.rn) := rfl
  generalize x.arr = V at *
  generalize y.arr = U at *
  generalize x.N.b = xb at *
  generalize y.N.b = yb at *
  generalize x.N.n = xn at *
  generalize y.N.n = yn at *
  generalize x.N.c = xc at *
  generalize y.N.c = yc at *
  generalize x.N.y = xy at *
  generalize y.N.y = yy at *
  generalize x.N.k = xk at *
  generalize y.N.k = yk at *
  generalize x.N.f = xf at *
  generalize y.N.f = yf at *
  generalize x.N.p = xp at *
  generalize y.N.p = yp at *
  generalize x.N.q = xq at *
  generalize y.N.q = yq at *
  generalize x.N.o = xo at *
  generalize y.N.o = yo at *
  generalize x.N.t = xt at *
  generalize y.N.t = yt at *
  generalize x.N.sh = xsh at *
  generalize y.N.sh = ysh at *
  generalize x.N.bk = xbk at *
  generalize y.N.bk = ybk at *
  generalize x.N.rb = xrb at *
  generalize y.N.rb = yrb at *
  generalize x.N.rn = xrn at *
  generalize y.N.rn = yrn at *
  by_cases hb : xb = yb
  · subst hb
    by_cases hn : xn = yn
    · subst hn
      by_cases hc : xc = yc
      · subst hc
        by_cases hy : xy = yy
        · subst hy
          by_cases hk : xk = yk
          · subst hk
            by_cases hf : xf = yf
            · subst hf
              by_cases hp : xp = yp
              · subst hp
                by_cases hq : xq = yq
                · subst hq
                  by_cases ho : xo = yo
                  · subst ho
                    by_cases ht : xt = yt
                    · subst ht
                      by_cases hsh : xsh = ysh
                      · subst hsh
                        by_cases hbk : xbk = ybk
                        · subst hbk
                          by_cases hrb : xrb = yrb
                          · subst hrb
                            by_cases hrn : xrn = yrn
                            · subst hrn
                              exact absurd ⟨rfl, rfl, rfl, rfl, rfl, rfl, rfl, rfl, rfl, rfl, rfl, rfl, rfl, rfl⟩ h
                            · clear h
                              go_enter Tryz.func23, Tryz.ntmps23
                              go_wp2
                              go_ret
                              exact ⟨rfl, b0⟩
                          · clear h
                            go_enter Tryz.func23, Tryz.ntmps23
                            go_wp2
                            go_ret
                            exact ⟨rfl, b0⟩
                        · clear h
                          cases xbk <;> cases ybk
                          all_goals first | (exact absurd rfl hbk) | (go_enter Tryz.func23, Tryz.ntmps23; go_wp2; go_ret; exact ⟨rfl, b0⟩)
                      · clear h
                        go_enter Tryz.func23, Tryz.ntmps23
                        go_wp2
                        go_ret
                        exact ⟨rfl, b0⟩
                    · clear h
                      go_enter Tryz.func23, Tryz.ntmps23
                      go_wp2
                      go_ret
                      exact ⟨rfl, b0⟩
                  · clear h
                    go_enter Tryz.func23, Tryz.ntmps23
                    go_wp2
                    go_ret
                    exact ⟨rfl, b0⟩
                · clear h
                  go_enter Tryz.func23, Tryz.ntmps23
                  go_wp2
                  go_ret
                  exact ⟨rfl, b0⟩
              · clear h
                go_enter Tryz.func23, Tryz.ntmps23
                go_wp2
                go_ret
                exact ⟨rfl, b0⟩
            · clear h
              go_enter Tryz.func23, Tryz.ntmps23
              go_wp2
              go_ret
              exact ⟨rfl, b0⟩
          · clear h
            go_enter Tryz.func23, Tryz.ntmps23
            go_wp2
            go_ret
            exact ⟨rfl, b0⟩
        · clear h
          go_enter Tryz.func23, Tryz.ntmps23
          go_wp2
          go_ret
          exact ⟨rfl, b0⟩
      · clear h
        go_enter Tryz.func23, Tryz.ntmps23
        go_wp2
        go_ret
        exact ⟨rfl, b0⟩
    · clear h
      go_enter Tryz.func23, Tryz.ntmps23
      go_wp2
      go_ret
      exact ⟨rfl, b0⟩
  · clear h
    go_enter Tryz.func23, Tryz.ntmps23
    go_wp2
    go_ret
    exact ⟨rfl, b0⟩

end Go.Proofs.YtcgmmfcphfkdhaaGreat
