/- The abstract machine, part HD. -/
import Derived.Test.YtiebbbeijlfedaaHC
/- Walks: the search. -/
namespace Go.Proofs.Ytiebbbeijlfedaa
open Go Go.RowKit Go.Proofs Go.Pairs

def tones : List Int := (List.range 16).map fun k => ((k : Nat) : Int) + 1
theorem tones_lt : tones.Pairwise (· < ·) := by decide
theorem tones_mem {t : Int} (h : 1 ≤ t ∧ t ≤ 16) : t ∈ tones := by
  unfold tones
  rw [List.mem_map]
  exact ⟨(t - 1).toNat, List.mem_range.2 (by omega), by omega⟩

structure Cfg where
  A : List M3
  B : List M3
  s : Int
  pa : Nat
  pb : Nat
  ps : Nat
  p8 : Nat
  p9 : Nat
  p10 : Nat
  p11 : Nat
  p12 : Nat
  p13 : Nat
  p14 : Nat
  gR : Nat
  gF : Nat
  gO : Nat
  va : Value
  vb : Value
  R : List Nat
  F : List Nat

def Cfg.r (C : Cfg) : Nat → Nat → Bool := runsM C.A C.B C.s
def Cfg.f (C : Cfg) : Nat → Int := fun i => (mq C.A i).z
def Cfg.g (C : Cfg) : Nat → Int := fun k => (mq C.B k).z
def Cfg.op (C : Cfg) (i : Nat) (U : Nat → Bool) : Bool := openT C.r C.f C.g C.A.length C.B.length tones i U
def Cfg.may (C : Cfg) (i : Nat) (U : Nat → Bool) (k : Nat) : Bool := Pairs.may C.r C.f C.g C.A.length C.B.length tones i U k
def Cfg.gr (C : Cfg) (c i : Nat) (U : Nat → Bool) : List Nat := greedy C.r C.f C.g C.A.length C.B.length tones c i U

structure Cfg.Ok (C : Cfg) : Prop where
  hs : 0 ≤ C.s ∧ C.s ≤ 16
  hA : Pl C.A
  hB : Pl C.B
  lA : C.A.length ≤ 32
  lB : C.B.length ≤ 32
  tA : ∀ i, i < C.A.length → C.f i ∈ tones
  tB : ∀ i, i < C.B.length → C.g i ∈ tones
  hR : C.R = riseL C.f C.A.length tones
  hF : C.F = fallL C.g C.B.length tones
  mR : ∀ k ∈ C.R, k < C.A.length
  mF : ∀ k ∈ C.F, k < C.B.length
  lR : C.R.length ≤ 1000
  lF : C.F.length ≤ 1000
  d : ∀ b, b ∈ [C.pa, C.pb, C.ps, C.p8, C.p9, C.p11, C.p12, C.p13, C.p14, C.gR, C.gF] → b ≠ C.p10 ∧ b ≠ C.gO
  dg : C.p10 ≠ C.gO
  dA : ∀ b off n c, C.va = .slice (some ⟨b, off, none⟩) n c → 0 < n → b ≠ C.p10 ∧ b ≠ C.gO
  dB : ∀ b off n c, C.vb = .slice (some ⟨b, off, none⟩) n c → 0 < n → b ≠ C.p10 ∧ b ≠ C.gO

structure Cfg.At (C : Cfg) (w : World) (U : Nat → Bool) (O : List Nat) : Prop where
  box : Box92 w C.A C.B C.s C.pa C.pb C.ps C.p8 C.p10 C.p11 C.p12 C.gR C.gF C.va C.vb C.R C.F U
  c9 : w.cell? ⟨C.p9, 0, none⟩ = some (.slice (some ⟨C.gO, 0, none⟩) C.A.length C.A.length)
  nO : NB w C.gO O
  lO : O.length = C.A.length
  c13 : w.cell? ⟨C.p13, 0, none⟩ = some (.func (.func 92) #[] #[.pointer (some ⟨C.p11, 0, none⟩), .pointer (some ⟨C.p12, 0, none⟩), .pointer (some ⟨C.p10, 0, none⟩), .pointer (some ⟨C.p8, 0, none⟩)])
  c14 : w.cell? ⟨C.p14, 0, none⟩ = some (.func (.func 98) #[] #[.pointer (some ⟨C.p13, 0, none⟩), .pointer (some ⟨C.pa, 0, none⟩), .pointer (some ⟨C.pb, 0, none⟩), .pointer (some ⟨C.p10, 0, none⟩), .pointer (some ⟨C.p8, 0, none⟩), .pointer (some ⟨C.p9, 0, none⟩), .pointer (some ⟨C.p14, 0, none⟩)])

/-- All but the row of answers and the array of those that are paired is as it was. -/
structure Keep2 (a b : Nat) (w w' : World) : Prop where
  os : w'.os = w.os
  tape : w'.tape = w.tape
  output : w'.output = w.output
  size : w.heap.size ≤ w'.heap.size
  block : ∀ k, k < w.heap.size → k ≠ a → k ≠ b → w'.heap[k]? = w.heap[k]?

theorem Keep2.refl (a b : Nat) (w : World) : Keep2 a b w w := ⟨rfl, rfl, rfl, Nat.le_refl _, fun _ _ _ _ => rfl⟩
theorem Keep2.trans {a b : Nat} {w w' w'' : World} (h : Keep2 a b w w') (k : Keep2 a b w' w'') : Keep2 a b w w'' :=
  ⟨k.os.trans h.os, k.tape.trans h.tape, k.output.trans h.output, Nat.le_trans h.size k.size, fun i hi h1 h2 => (k.block i (Nat.lt_of_lt_of_le hi h.size) h1 h2).trans (h.block i hi h1 h2)⟩
theorem Keep2.below {a b : Nat} {w w' : World} (h : Below w.heap.size w w') : Keep2 a b w w' := ⟨h.os, h.tape, h.output, h.size, fun k hk _ _ => h.block k hk⟩
theorem Keep2.set1 (a b j : Nat) (w : World) (v : Value) : Keep2 a b w (w.setCell ⟨a, j, none⟩ v) := ⟨rfl, rfl, rfl, by simp, fun k _ h1 _ => Below.heap_setCell w _ v k h1⟩
theorem Keep2.set2 (a b j : Nat) (w : World) (v : Value) : Keep2 a b w (w.setCell ⟨b, j, none⟩ v) := ⟨rfl, rfl, rfl, by simp, fun k _ _ h2 => Below.heap_setCell w _ v k h2⟩

theorem Keep2.cell {a b : Nat} {w w' : World} (h : Keep2 a b w w') {B o : Nat} {v : Value} (hn : B ≠ a ∧ B ≠ b) (hc : w.cell? ⟨B, o, none⟩ = some v) : w'.cell? ⟨B, o, none⟩ = some v := by
  rw [World.cell?_of_block (h.block B (World.block_lt_of_cell? w _ hc) hn.1 hn.2)]; exact hc

theorem Keep2.slm {a b : Nat} {w w' : World} (h : Keep2 a b w w') {v : Value} {M : List M3} (hM : SlM w v M) (hn : ∀ B off n c, v = .slice (some ⟨B, off, none⟩) n c → 0 < n → B ≠ a ∧ B ≠ b) : SlM w' v M := by
  obtain ⟨x, cap, rfl, hl, hc⟩ := hM
  refine ⟨x, cap, rfl, hl, fun k hk => ?_⟩
  obtain ⟨B, off, rfl, c0, c1, c2⟩ := hc k hk
  have hd := hn B off _ _ rfl (by omega)
  exact ⟨B, off, rfl, h.cell hd c0, h.cell hd c1, h.cell hd c2⟩

theorem Cfg.At.keep {C : Cfg} (ok : C.Ok) {w w' : World} {U U' : Nat → Bool} {O O' : List Nat} (h : C.At w U O) (k : Keep2 C.p10 C.gO w w') (hU : UB w' C.p10 U') (hO : NB w' C.gO O') (hl : O'.length = C.A.length) : C.At w' U' O' := by
  have d := fun b hb => ok.d b hb
  exact ⟨⟨k.cell (d _ (by simp)) h.box.ca, k.cell (d _ (by simp)) h.box.cb, k.cell (d _ (by simp)) h.box.cs, k.slm h.box.sA ok.dA, k.slm h.box.sB ok.dB,
    k.cell (d _ (by simp)) h.box.c8, k.cell (d _ (by simp)) h.box.c11, k.cell (d _ (by simp)) h.box.c12,
    h.box.nR.of (k.block _ h.box.nR.lt (d _ (by simp)).1 (d _ (by simp)).2), h.box.nF.of (k.block _ h.box.nF.lt (d _ (by simp)).1 (d _ (by simp)).2), hU⟩,
    k.cell (d _ (by simp)) h.c9, hO, hl, k.cell (d _ (by simp)) h.c13, k.cell (d _ (by simp)) h.c14⟩

theorem Cfg.At.below {C : Cfg} (ok : C.Ok) {w w' : World} {U : Nat → Bool} {O : List Nat} (h : C.At w U O) (k : Below w.heap.size w w') : C.At w' U O :=
  h.keep ok (Keep2.below k) (h.box.u.keep k) (h.nO.keep k) h.lO

theorem Cfg.runs_tone (C : Cfg) : ∀ a b, C.r a b = true → C.f a = C.g b := by
  intro a b h
  unfold Cfg.r runsM runs1 at h
  rw [Bool.and_eq_true] at h
  exact eq_of_beq h.1

/-- The closure that tells what is open. -/
theorem Cfg.open_any {C : Cfg} (ok : C.Ok) {w : World} {U : Nat → Bool} {O : List Nat} (h : C.At w U O) (i : Nat) (hi : i ≤ C.A.length) :
    Calls Try.prog 92 #[.int .i64 ((i : Nat) : Int), .pointer (some ⟨C.p11, 0, none⟩), .pointer (some ⟨C.p12, 0, none⟩), .pointer (some ⟨C.p10, 0, none⟩), .pointer (some ⟨C.p8, 0, none⟩)] w fun e w' =>
      e = .returned (.bool (C.op i U)) ∧ Below w.heap.size w w' := by
  have := Ytiebbbeijlfedaa.open_any C.A C.B C.s ok.hs ok.hA ok.hB ok.lB C.pa C.pb C.ps C.p8 C.p10 C.p11 C.p12 C.gR C.gF C.va C.vb C.R C.F U i w ok.mR ok.mF ok.lR ok.lF h.box
  rw [ok.hR, ok.hF] at this
  rw [show eqF (runsM C.A C.B C.s) ((riseL C.f C.A.length tones).filter fun k => decide (i ≤ k)) ((fallL C.g C.B.length tones).filter fun k => !U k) = C.op i U from openT_lists C.r C.f C.g C.A.length C.B.length tones C.runs_tone tones_lt hi U] at this
  exact this

theorem Cfg.runs_any {C : Cfg} (ok : C.Ok) {w : World} {U : Nat → Bool} {O : List Nat} (h : C.At w U O) (i k : Nat) (hi : i < C.A.length) (hk : k < C.B.length) :
    Calls Try.prog 90 #[.int .i64 ((i : Nat) : Int), .int .i64 ((k : Nat) : Int), .pointer (some ⟨C.pa, 0, none⟩), .pointer (some ⟨C.pb, 0, none⟩), .pointer (some ⟨C.ps, 0, none⟩)] w fun e w' =>
      e = .returned (.bool (C.r i k)) ∧ Below w.heap.size w w' :=
  runOn_any C.A C.B C.s ok.hs ok.hA ok.hB i k C.pa C.pb C.ps C.va C.vb w hi hk h.box.ca h.box.cb h.box.cs h.box.sA h.box.sB

end Go.Proofs.Ytiebbbeijlfedaa

/- Walks: the search, by the number of marks that are left. -/
namespace Go.Proofs.Ytiebbbeijlfedaa
open Go Go.RowKit Go.Proofs Go.Pairs

/-- What the search leaves. -/
def Cfg.Left (C : Cfg) (c i : Nat) (U : Nat → Bool) (O : List Nat) (w w' : World) : Prop :=
  ∃ U' O', C.At w' U' O' ∧ Keep2 C.p10 C.gO w w' ∧ (C.op i U = false → U' = U ∧ O' = O) ∧ (C.op i U = true → O' = O.take i ++ C.gr c i U)

def Cfg.args (C : Cfg) (i : Nat) : Array Value := #[.int .i64 ((i : Nat) : Int), .pointer (some ⟨C.p13, 0, none⟩), .pointer (some ⟨C.pa, 0, none⟩), .pointer (some ⟨C.pb, 0, none⟩), .pointer (some ⟨C.p10, 0, none⟩), .pointer (some ⟨C.p8, 0, none⟩), .pointer (some ⟨C.p9, 0, none⟩), .pointer (some ⟨C.p14, 0, none⟩)]

theorem upd_back {U : Nat → Bool} {k : Nat} (h : U k = false) (j : Nat) : U j = if j = k then false else upd U k j := by
  unfold upd
  by_cases e : j = k
  · subst e; simp [h]
  · simp [e]

theorem take_set {O : List Nat} {i k : Nat} (h : i < O.length) : (O.set i k).take (i + 1) = O.take i ++ [k] := by
  rw [List.take_succ_eq_append_getElem (by simpa using h), List.take_set, List.set_eq_of_length_le (by simp; omega)]
  simp

set_option maxRecDepth 100000 in
set_option maxHeartbeats 4000000 in
theorem search_any (C : Cfg) (ok : C.Ok) : ∀ (c i : Nat) (U : Nat → Bool) (O : List Nat) (w : World), i + c = C.A.length → C.At w U O →
    Calls Try.prog 98 (C.args i) w fun e w' => e = .returned (.bool (C.op i U)) ∧ C.Left c i U O w w' := by
  intro c
  induction c with
  | zero =>
    intro i U O w hic h
    have C1 := C.open_any ok h i (by omega)
    have HF : Hid (∀ w', Below w.heap.size w w' → C.op i U = false → C.Left 0 i U O w w') := Lib.hid fun w' hb _ => ⟨U, O, h.below ok hb, Keep2.below hb, fun _ => ⟨rfl, rfl⟩, fun e => by simp_all⟩
    have HT : Hid (∀ w', Below w.heap.size w w' → C.op i U = true → C.Left 0 i U O w w') := Lib.hid fun w' hb e => ⟨U, O, h.below ok hb, Keep2.below hb, fun e' => by simp_all, fun _ => by
      have : C.gr 0 i U = [] := rfl
      rw [this, List.append_nil, show i = O.length by have := h.lO; omega, List.take_length]⟩
    have c13 := h.c13
    have HA : Hid (∀ w', Below w.heap.size w w' → w'.cell? ⟨C.pa, 0, none⟩ = some C.va ∧ ∃ a cap, C.va = .slice a C.A.length cap) := Lib.hid fun w' hb => by
      obtain ⟨a, cap, e, -⟩ := h.box.sA
      exact ⟨keep_cell hb h.box.ca, a, cap, e⟩
    have HI := Lib.hid (show i = C.A.length by omega)
    clear h hic
    unfold Cfg.args
    generalize C.op i U = o at C1 HF HT ⊢
    generalize C.Left 0 i U O w = Q at HF HT ⊢
    go_enter Try.func98, Try.ntmps98
    go_wp2_with fail
    refine C1.mono ?_
    rintro e w1 ⟨rfl, hb⟩
    obtain ⟨ca, a, cap, hva⟩ := HA.out w1 hb
    rw [hva] at ca
    clear C1 c13 HA hva
    have j1 : ((i : Int) == (C.A.length : Int)) = true := by rw [HI.out]; simp
    cases o
    · go_wp2
      go_ret
      exact ⟨rfl, HF.out _ hb (by first | trivial | rfl)⟩
    · go_wp2
      go_ret
      exact ⟨rfl, HT.out _ hb (by first | trivial | rfl)⟩
  | succ c ih =>
    intro i U O w hic h
    have C1 := C.open_any ok h i (by omega)
    have HF : Hid (∀ w', Below w.heap.size w w' → C.op i U = false → C.Left (c + 1) i U O w w') := Lib.hid fun w' hb _ => ⟨U, O, h.below ok hb, Keep2.below hb, fun _ => ⟨rfl, rfl⟩, fun e => by simp_all⟩
    have HE : Hid (C.op i U = true → ∃ k, k < C.B.length ∧ C.may i U k = true ∧ ∀ j, j < k → C.may i U j = false) := Lib.hid fun e => may_first C.r C.f C.g C.A.length C.B.length tones (by omega) (ok.tA i (by omega)) e
    -- a partner that leaves the rest open ends the search
    have HG : Hid (∀ (k : Nat) (U' : Nat → Bool) (O' O'' : List Nat) (w' : World), C.op i U = true → k < C.B.length → C.may i U k = true → (∀ j, j < k → C.may i U j = false) → O'.take i = O.take i → O'.length = C.A.length → C.At w' U' O'' → Keep2 C.p10 C.gO w w' → O'' = (O'.set i k).take (i + 1) ++ C.gr c (i + 1) (upd U k) → C.Left (c + 1) i U O w w') :=
      Lib.hid fun k U' O' O'' w' e hk hm hn ht hl hat hkp ho => ⟨U', O'', hat, hkp, fun e' => absurd (e.symm.trans e') (by decide), fun _ => by
        have hg : C.gr (c + 1) i U = k :: C.gr c (i + 1) (upd U k) := greedy_cons C.r C.f C.g C.A.length C.B.length tones hk hm hn
        rw [ho, take_set (by omega), ht, hg, List.append_assoc]
        rfl⟩
    have HI := Lib.hid (show i < C.A.length by omega)
    have IH : Hid (∀ U O w, C.At w U O → Calls Try.prog 98 (C.args (i + 1)) w fun e w' => e = .returned (.bool (C.op (i + 1) U)) ∧ C.Left c (i + 1) U O w w') := Lib.hid fun U O w => ih (i + 1) U O w (by omega)
    have c13 := h.c13
    have HH := Lib.hid h
    have HOK := Lib.hid ok
    have hlB := ok.lB
    have hlA := ok.lA
    clear h hic ih
    unfold Cfg.args
    obtain ⟨o, ho⟩ : ∃ o, C.op i U = o := ⟨_, rfl⟩
    simp only [ho] at C1 HF HE HG ⊢
    have HO := Lib.hid ho
    clear ho
    generalize C.Left (c + 1) i U O w = Q at HF HG ⊢
    cases o
    · go_enter Try.func98, Try.ntmps98
      go_wp2_with fail
      refine C1.mono ?_
      rintro e w1 ⟨rfl, hb⟩
      clear C1 c13
      go_wp2
      go_ret
      exact ⟨rfl, HF.out _ hb (by first | trivial | rfl)⟩
    · go_enter Try.func98, Try.ntmps98
      go_wp2_with fail
      refine C1.mono ?_
      rintro e w1 ⟨rfl, hb⟩
      have h1 := HH.out.below ok hb
      have ca := h1.box.ca
      have cb := h1.box.cb
      obtain ⟨a, cap, hva, -⟩ := h1.box.sA
      obtain ⟨b, capb, hvb, -⟩ := h1.box.sB
      rw [hva] at ca
      rw [hvb] at cb
      have j1 : ((i : Int) == (C.A.length : Int)) = false := by rw [beq_eq_false_iff_ne]; have := HI.out; omega
      have H1 := Lib.hid h1
      clear C1 c13 hva hvb h1
      go_wp2_with fail
      go_loopw [21] (fun i' wr => ∃ k : Nat, k ≤ C.B.length ∧ i' = .int .i64 k ∧ (∃ O', C.At wr U O' ∧ O'.take i = O.take i) ∧ Keep2 C.p10 C.gO w wr ∧ ∀ j, j < k → C.may i U j = false) (fun i' _ => C.B.length - (intOf i').toNat)
      case atStart => exact ⟨0, Nat.zero_le _, rfl, ⟨O, H1.out, rfl⟩, Keep2.below hb, by simp⟩
      case round =>
        clear ca cb H1 hb w1
        obtain ⟨k, hk, rfl, ⟨O', hat, htk⟩, hkp, hall⟩ := hrel
        have HA := Lib.hid hall
        have HT := Lib.hid htk
        have HAT := Lib.hid hat
        clear hall htk
        by_cases hlt : k < C.B.length
        · have j2 : (k : Int) < (C.B.length : Int) := by omega
          have hk32 : k < 32 := by omega
          have j3 : (k : Int) < 32 := by omega
          have cU := hat.box.u.cell hk32
          have c8 := hat.box.c8
          have C2 := C.runs_any ok hat i k HI.out hlt
          obtain ⟨u, hu⟩ : ∃ u, U k = u := ⟨_, rfl⟩
          rw [hu] at cU
          have HU := Lib.hid hu
          obtain ⟨t, ht⟩ : ∃ t, C.r i k = t := ⟨_, rfl⟩
          rw [ht] at C2
          have HR := Lib.hid ht
          clear hat hu ht
          cases u
          · cases t
            · go_wp2_with (go_at_call 90; with_reducible refine C2.mono ?_; rintro e w2 ⟨rfl, hb2⟩)
              refine ⟨⟨k + 1, by omega, by simp, ⟨O', HAT.out.below HOK.out hb2, HT.out⟩, hkp.trans (Keep2.below hb2), fun j hj => ?_⟩, by simp [intOf]; omega⟩
              rcases Nat.lt_or_ge j k with h | h
              · exact HA.out j h
              · obtain rfl : j = k := by omega
                unfold Cfg.may Pairs.may
                rw [HR.out]; simp
            · go_upto_region 9 with (go_at_call 90; with_reducible refine C2.mono ?_; rintro e w2 ⟨rfl, hb2⟩)
              have h2 := HAT.out.below HOK.out hb2
              have k2 := hkp.trans (Keep2.below hb2)
              have c9 := h2.c9
              have o0 := h2.nO.cell (j := i) (by rw [h2.lO]; exact HI.out)
              have o1 := h2.nO.frozen i
              have hOl := h2.lO
              have n3 := h2.nO.set i k
              have kk := Keep2.set2 C.p10 C.gO i w2 (.int .i64 ((k : Nat) : Int))
              have u3 := h2.box.u.of (Below.heap_setCell w2 ⟨C.gO, i, none⟩ (.int .i64 ((k : Nat) : Int)) C.p10 HOK.out.dg)
              have p0 := u3.cell hk32
              rw [HU.out] at p0
              have p1 := u3.frozen k
              have u4 := u3.put hk32 (b := true) (V := upd U k) (fun j hj => by unfold upd; by_cases e : j = k <;> simp [e])
              have n4 := n3.of (Below.heap_setCell (w2.setCell ⟨C.gO, i, none⟩ (.int .i64 ((k : Nat) : Int))) ⟨C.p10, k, none⟩ (.bool true) C.gO (fun e => HOK.out.dg e.symm))
              have kk2 := kk.trans (Keep2.set1 C.p10 C.gO k (w2.setCell ⟨C.gO, i, none⟩ (.int .i64 ((k : Nat) : Int))) (.bool true))
              have h4 := h2.keep HOK.out kk2 u4 n4 (by simpa using hOl)
              have k4 := k2.trans kk2
              have c14 := h4.c14
              have C3 := IH.out _ _ _ h4
              have ji : (i : Int) < (C.A.length : Int) := by have := HI.out; omega
              have e1 : IntKind.i64.wrap ((i : Int) + 1) = (i : Int) + 1 := wi64 _ (by omega)
              have H4 := Lib.hid h4
              have K4 := Lib.hid k4
              have HOl := Lib.hid hOl
              clear h2 k2 n3 kk u3 u4 n4 kk2 h4 k4 C2 hb2 hkp c8 cU hOl
              obtain ⟨o2, ho2⟩ : ∃ x, C.op (i + 1) (upd U k) = x := ⟨_, rfl⟩
              rw [ho2] at C3
              have HO2 := Lib.hid ho2
              clear ho2
              unfold Cfg.args at C3
              rw [show ((i + 1 : Nat) : Int) = (i : Int) + 1 by omega] at C3
              have HM : Hid (C.may i U k = o2) := Lib.hid (by
                unfold Cfg.may Pairs.may
                rw [HU.out, HR.out]
                exact HO2.out)
              cases o2
              · go_upto_region 12 with (go_at_call 98; with_reducible refine C3.mono ?_; rintro e w5 ⟨rfl, hL⟩)
                obtain ⟨U5, O5, h5, k5, hF5, -⟩ := hL
                obtain ⟨rfl, rfl⟩ := hF5 HO2.out
                have k45 := K4.out.trans k5
                have u5 := h5.box.u
                have q0 := u5.cell hk32
                have q1 := u5.frozen k
                have q2 : ∃ x, w5.cell? ⟨C.p10, k, none⟩ = some (.bool x) := ⟨_, q0⟩
                have u6 := u5.put hk32 (b := false) (V := U) (fun j _ => upd_back HU.out j)
                have kk5 := Keep2.set1 C.p10 C.gO k w5 (.bool false)
                have n6 := h5.nO.of (Below.heap_setCell w5 ⟨C.p10, k, none⟩ (.bool false) C.gO (fun e => HOK.out.dg e.symm))
                have h6 := h5.keep HOK.out kk5 u6 n6 h5.lO
                have k6 := k45.trans kk5
                clear h5 k5 hF5 k45 u5 u6 kk5 n6 q2 C3 c14 c9 o0 o1 p0 p1
                generalize upd U k k = x at q0
                go_wp2
                refine ⟨⟨k + 1, by omega, by simp, ⟨_, h6, ?_⟩, k6, fun j hj => ?_⟩, by simp [intOf]; omega⟩
                · rw [List.take_set_of_le (Nat.le_refl _)]
                  exact HT.out
                · rcases Nat.lt_or_ge j k with h | h
                  · exact HA.out j h
                  · obtain rfl : j = k := by omega
                    exact HM.out
              · go_wp2_with (first | (go_at_call 98; with_reducible refine C3.mono ?_; rintro e w5 ⟨rfl, hL⟩))
                go_ret
                obtain ⟨U5, O5, h5, k5, -, hT5⟩ := hL
                exact ⟨rfl, HG.out k U5 O' O5 _ (by first | trivial | rfl) hlt HM.out (fun j hj => HA.out j hj) HT.out HOl.out h5 (K4.out.trans k5) (hT5 HO2.out)⟩
          · go_wp2
            refine ⟨⟨k + 1, by omega, by simp, ⟨O', HAT.out, HT.out⟩, hkp, fun j hj => ?_⟩, by simp [intOf]; omega⟩
            rcases Nat.lt_or_ge j k with h | h
            · exact HA.out j h
            · obtain rfl : j = k := by omega
              unfold Cfg.may Pairs.may
              rw [HU.out]; simp
        · exfalso
          obtain ⟨k', h1, h2, -⟩ := HE.out (by first | trivial | rfl)
          rw [HA.out k' (by omega)] at h2
          cases h2

end Go.Proofs.Ytiebbbeijlfedaa
