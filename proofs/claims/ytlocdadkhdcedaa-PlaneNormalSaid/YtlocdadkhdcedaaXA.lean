/- The abstract machine, part XA. -/
import Derived.Test.YtlocdadkhdcedaaWC
import Derived.Test.YtlocdadkhdcedaaDA
import Derived.Test.YtlocdadkhdcedaaQB
import Derived.Lib.Hide
import Derived.BigQuiet
import Derived.Deep.QuietTactic
import Derived.Test.YtlocdadkhdcedaaKA
import Derived.Deep.MidRow
import Derived.Test.YtlocdadkhdcedaaK4
/- Walks: gcd, within, validNormal; the reference's abs, gcd, Normal. -/
namespace Go.Proofs.Ytlocdadkhdcedaa
open Go Go.RowKit Go.Proofs

theorem ret_num1 {k : IntKind} {a b : Int} (h : a = b) : Ending.returned (.int k a) = .returned (.int k b) := by rw [h]

theorem tmod_small {a b : Int} (ha : Small a) (_ : Small b) : Small (a.tmod b) := by
  unfold Small at *
  have h := Int.natAbs_tmod a b
  have h2 := Nat.mod_le a.natAbs b.natAbs
  omega

theorem below_dn {B : Nat} {a w : World} (h : Below B a w) (n : Nat) : Below B a (w.drewN n) := h.trans ⟨rfl, rfl, rfl, Nat.le_refl _, fun _ _ => rfl⟩

set_option maxHeartbeats 1000000 in
theorem gcd_any (x y : Int) (w : World) (hx : Small x) (hy : Small y) :
    Calls Try.prog 99 #[.int .i64 x, .int .i64 y] w fun e w' => e = .returned (.int .i64 (Int.gcd x y)) ∧ Below w.heap.size w w' := by
  go_enter Try.func99, Try.ntmps99
  go_wp2_with fail
  go_loopw [0, 1] (fun p q wr => ∃ a b : Int, p = .int .i64 a ∧ q = .int .i64 b ∧ Small a ∧ Small b ∧ Below w.heap.size w wr ∧ Int.gcd a b = Int.gcd x y) (fun _ q _ => (intOf q).natAbs)
  case atStart => exact ⟨x, y, rfl, rfl, hx, hy, Below.refl _ _, rfl⟩
  case round =>
    obtain ⟨a, b, rfl, rfl, ha, hb, hbel, hg⟩ := hrel
    have HG := Lib.hid hg
    clear hg
    have M0 := Lib.hid (tmod_small ha hb)
    have HA := Lib.hid ha
    have HB := Lib.hid hb
    unfold Small at ha hb
    obtain ⟨a1, a2⟩ := ha
    obtain ⟨b1, b2⟩ := hb
    by_cases hz : b = 0
    · subst hz
      have hm : Hid ((Int.gcd x y : Int) = max a (-a)) := Lib.hid (by rw [← HG.out]; exact Plain.gcd_zero a)
      go_wp2
      all_goals
        go_ret
        refine ⟨ret_num1 ?_, hbel⟩
        rw [hm.out]
        omega
    · have HM := Lib.hid (Plain.gcd_step a b)
      have HL := Lib.hid (Plain.tmod_less (a := a) hz)
      go_wp2_with fail
      go_quiet (fail)
      go_wp2
      refine ⟨⟨b, a.tmod b, rfl, rfl, HB.out, M0.out, below_dn hbel _, by rw [HM.out, HG.out]⟩, ?_⟩
      simpa [intOf] using HL.out

def withinB (n m : Int) : Bool := decide (-m ≤ n) && decide (n ≤ m)

set_option maxHeartbeats 1000000 in
theorem within_any (n m : Int) (w : World) (h0 : 0 ≤ m) (h1 : m ≤ 1000000) :
    Calls Try.prog 108 #[.int .i64 n, .int .i64 m] w fun e w' => e = .returned (.bool (withinB n m)) ∧ w' = w := by
  obtain ⟨v, hv⟩ : ∃ v, withinB n m = v := ⟨_, rfl⟩
  rw [hv]
  have HV := Lib.hid hv
  clear hv
  go_enter Try.func108, Try.ntmps108
  go_wp2
  all_goals go_ret
  all_goals refine ⟨?_, rfl⟩
  all_goals rw [← HV.out]; unfold withinB
  all_goals simp [*]
  all_goals omega

def validN (x y : Int) : Bool := withinB x 4096 && (withinB y 4096 && !(x == 0 && y == 0))

set_option maxHeartbeats 1000000 in
theorem validNormal_any (x y : Int) (w : World) :
    Calls Try.prog 115 #[pt x y] w fun e w' => e = .returned (.bool (validN x y)) ∧ Below w.heap.size w w' := by
  have C1 := fun w => within_any x 4096 w (by omega) (by omega)
  have C2 := fun w => within_any y 4096 w (by omega) (by omega)
  have E := fun w => run_pt_neq x y 0 0 w
  obtain ⟨b1, e1⟩ : ∃ b, withinB x 4096 = b := ⟨_, rfl⟩
  obtain ⟨b2, e2⟩ : ∃ b, withinB y 4096 = b := ⟨_, rfl⟩
  obtain ⟨b3, e3⟩ : ∃ b, (x == 0 && y == 0) = b := ⟨_, rfl⟩
  have hv : validN x y = (b1 && (b2 && !b3)) := by rw [← e1, ← e2, ← e3]; rfl
  rw [e1] at C1
  rw [e2] at C2
  rw [e3] at E
  rw [hv]
  clear hv e1 e2 e3
  cases b1 <;> cases b2 <;> cases b3
  all_goals
    go_enter Try.func115, Try.ntmps115
    go_wp2_with (first | (go_at_call 108; first | ((with_reducible refine (C1 _).mono ?_); rintro e w' ⟨rfl, rfl⟩) | ((with_reducible refine (C2 _).mono ?_); rintro e w' ⟨rfl, rfl⟩)))
    go_ret
    exact ⟨rfl, (Below.refl _ _).alloc (Nat.le_refl _) _⟩

set_option maxHeartbeats 1000000 in
theorem refAbs_any (x : Int) (w : World) (hx : Small x) :
    Calls Try.prog 101 #[.int .i64 x] w fun e w' => e = .returned (.int .i64 (max x (-x))) ∧ w' = w := by
  unfold Small at hx
  obtain ⟨a1, a2⟩ := hx
  go_enter Try.func101, Try.ntmps101
  go_wp2
  all_goals
    go_ret
    exact ⟨ret_num1 (by omega), rfl⟩

set_option maxHeartbeats 1000000 in
theorem refGcd_any (x y : Int) (w : World) (hx : Small x) (hy : Small y) (x0 : 0 ≤ x) (y0 : 0 ≤ y) :
    Calls Try.prog 100 #[.int .i64 x, .int .i64 y] w fun e w' => e = .returned (.int .i64 (Int.gcd x y)) ∧ w' = w := by
  go_enter Try.func100, Try.ntmps100
  go_wp2_with fail
  go_loop [0, 1] (fun p q => ∃ a b : Int, p = .int .i64 a ∧ q = .int .i64 b ∧ Small a ∧ Small b ∧ 0 ≤ a ∧ 0 ≤ b ∧ Int.gcd a b = Int.gcd x y) (fun _ q => (intOf q).natAbs)
  case atStart => exact ⟨x, y, rfl, rfl, hx, hy, x0, y0, rfl⟩
  case round =>
    obtain ⟨a, b, rfl, rfl, ha, hb, pa, pb, hg⟩ := hrel
    have HG := Lib.hid hg
    clear hg
    have M0 := Lib.hid (tmod_small ha hb)
    have HB := Lib.hid hb
    unfold Small at ha hb
    obtain ⟨a1, a2⟩ := ha
    obtain ⟨b1, b2⟩ := hb
    by_cases hz : b = 0
    · subst hz
      have hm : Hid ((Int.gcd x y : Int) = a) := Lib.hid (by rw [← HG.out, Plain.gcd_zero a]; omega)
      go_wp2
      go_ret
      exact ⟨ret_num1 (by rw [hm.out]), rfl⟩
    · have HM := Lib.hid (Plain.gcd_step a b)
      have HL := Lib.hid (Plain.tmod_less (a := a) hz)
      have HT := Lib.hid (Int.tmod_nonneg b pa)
      have HE := Lib.hid (Int.tmod_eq_emod_of_nonneg (b := b) pa)
      have hpos : 0 < b := by omega
      go_wp2
      go_round
      case rel => exact ⟨b, a.tmod b, rfl, by rw [HE.out], HB.out, M0.out, pb, HT.out, by rw [HM.out, HG.out]⟩
      case measure =>
        have := HL.out
        rw [HE.out] at this
        simpa [intOf] using this

set_option maxHeartbeats 1000000 in
theorem refNormal_any (x y : Int) (w : World) :
    Calls Try.prog 118 #[pt x y] w fun e w' => e = .returned (.bool (validN x y)) ∧ Below w.heap.size w w' := by
  have E := fun w => run_pt_neq x y 0 0 w
  obtain ⟨b3, e3⟩ : ∃ b, (x == 0 && y == 0) = b := ⟨_, rfl⟩
  obtain ⟨v, hv⟩ : ∃ v, validN x y = v := ⟨_, rfl⟩
  have HV : Hid (v = (withinB x 4096 && (withinB y 4096 && !b3))) := Lib.hid (by rw [← hv, ← e3]; rfl)
  rw [e3] at E
  rw [hv]
  clear hv e3
  cases b3
  all_goals
    go_enter Try.func118, Try.ntmps118
    go_wp2
    all_goals go_ret
    all_goals refine ⟨?_, (Below.refl _ _).alloc (Nat.le_refl _) _⟩
    all_goals rw [HV.out]; unfold withinB
    all_goals simp [*]
    all_goals omega

end Go.Proofs.Ytlocdadkhdcedaa

/- A point in a block of its own; results that lie in a cell. -/
namespace Go.Proofs.Ytlocdadkhdcedaa
open Go Go.RowKit Go.Proofs

theorem put_heap {w : World} {b k : Nat} {c : Array Value} {t : TypeId} {fr : Nat × Nat} (v : Value) (h : w.heap[b]? = some (.cells c t fr)) :
    (w.setCell ⟨b, k, none⟩ v).heap[b]? = some (.cells (c.setIfInBounds k v) t fr) := by
  obtain ⟨hlt, hk⟩ := Array.getElem?_eq_some_iff.1 h
  show (w.heap.modify b _)[b]? = _
  rw [Array.getElem?_eq_getElem (by rw [Array.size_modify]; exact hlt), Array.getElem_modify_self, hk]
  rfl

theorem cell_at {w : World} {b k : Nat} {c : Array Value} {t : TypeId} {fr : Nat × Nat} {v : Value} (h : w.heap[b]? = some (.cells c t fr)) (hv : c[k]? = some v) : w.cell? ⟨b, k, none⟩ = some v := by
  unfold World.cell?
  simp [h, hv]

theorem thaw_at {w : World} {b k : Nat} {c : Array Value} {t : TypeId} (h : w.heap[b]? = some (.cells c t (0, 0))) : w.frozen? ⟨b, k, none⟩ = false := by
  unfold World.frozen?
  simp [h]

theorem heap_old (w : World) (o : Obj) {k : Nat} (h : k < w.heap.size) : (w.alloc o).heap[k]? = w.heap[k]? := by
  show (w.heap.push o)[k]? = _
  rw [Array.getElem?_push_lt h, Array.getElem?_eq_getElem h]

/-- A point lies in a block of its own. -/
def Pb (w : World) (b : Nat) (x y : Int) : Prop := w.heap[b]? = some (.cells #[.int .i64 x, .int .i64 y] 23 (0, 0))

theorem Pb.c0 {w : World} {b : Nat} {x y : Int} (h : Pb w b x y) : w.cell? ⟨b, 0, none⟩ = some (.int .i64 x) := cell_at h rfl
theorem Pb.c1 {w : World} {b : Nat} {x y : Int} (h : Pb w b x y) : w.cell? ⟨b, 1, none⟩ = some (.int .i64 y) := cell_at h rfl
theorem Pb.f {w : World} {b : Nat} {x y : Int} (h : Pb w b x y) (k : Nat) : w.frozen? ⟨b, k, none⟩ = false := thaw_at h
theorem Pb.lt {w : World} {b : Nat} {x y : Int} (h : Pb w b x y) : b < w.heap.size := (Array.getElem?_eq_some_iff.1 h).1
theorem Pb.keep {w w' : World} {b : Nat} {x y : Int} (h : Pb w b x y) (hb : Below w.heap.size w w') : Pb w' b x y := (hb.block b h.lt).trans h
theorem Pb.set {w : World} {b : Nat} {x y : Int} (h : Pb w b x y) (x' y' : Int) : Pb ((w.setCell ⟨b, 0, none⟩ (.int .i64 x')).setCell ⟨b, 1, none⟩ (.int .i64 y')) b x' y' :=
  put_heap _ (put_heap _ h)
theorem Pb.other {w : World} {b c k : Nat} {x y : Int} (h : Pb w b x y) (v : Value) (hn : b ≠ c) : Pb (w.setCell ⟨c, k, none⟩ v) b x y := (Below.heap_setCell _ _ _ _ hn).trans h
theorem Pb.new (w : World) (x y : Int) : Pb (w.alloc (.cells #[.int .i64 x, .int .i64 y] 23)) w.heap.size x y := World.alloc_heap_new _ _
theorem Pb.alloc {w : World} {b : Nat} {x y : Int} (h : Pb w b x y) (o : Obj) : Pb (w.alloc o) b x y := (heap_old w o h.lt).trans h

theorem range_at {w : World} {b : Nat} {cs : List Value} {t : TypeId} (h : w.heap[b]? = some (.cells cs.toArray t (0, 0))) : w.rangeAt b 0 cs := by
  intro j v hv
  rw [Nat.zero_add]
  exact cell_at h (by simpa using hv)

theorem Pb.load {w : World} {b : Nat} {x y : Int} (h : Pb w b x y) : (loadVar 23 ⟨b, 0, none⟩).run Try.prog w = .ok (pt x y) w :=
  run_loadVar_mid (P := Try.prog) w b 0 23 [.int .i64 x, .int .i64 y] _ (range_at h) Try.underlying23 rfl (by kernel_rfl)

theorem res_cell {P : Program} {fn : Func} {a : Tmp} {t : TypeId} {w : World} {v : Value} {p : Addr} (h : fn.results = #[.cell a t]) (tmps : Array Value) (hp : tmps.getD a undef = .pointer (some p))
    (hl : (loadVar t p).run P w = .ok v w) : (results fn tmps).run P w = .ok v w := by
  have hp' : tmps[a]?.getD undef = .pointer (some p) := by simpa using hp
  simp only [results, h]
  simp [hp', asAddr, hl]

theorem res_cell_tmp {P : Program} {fn : Func} {a u : Tmp} {t : TypeId} {w : World} {v : Value} {p : Addr} (h : fn.results = #[.cell a t, .tmp u]) (tmps : Array Value) (hp : tmps.getD a undef = .pointer (some p))
    (hl : (loadVar t p).run P w = .ok v w) : (results fn tmps).run P w = .ok (.tuple #[v, tmps.getD u undef]) w := by
  have hp' : tmps[a]?.getD undef = .pointer (some p) := by simpa using hp
  simp only [results, h]
  simp [hp', asAddr, hl]

theorem res_cell_tmp2 {P : Program} {fn : Func} {a u s : Tmp} {t : TypeId} {w : World} {v : Value} {p : Addr} (h : fn.results = #[.cell a t, .tmp u, .tmp s]) (tmps : Array Value) (hp : tmps.getD a undef = .pointer (some p))
    (hl : (loadVar t p).run P w = .ok v w) : (results fn tmps).run P w = .ok (.tuple #[v, tmps.getD u undef, tmps.getD s undef]) w := by
  have hp' : tmps[a]?.getD undef = .pointer (some p) := by simpa using hp
  simp only [results, h]
  simp [hp', asAddr, hl]

end Go.Proofs.Ytlocdadkhdcedaa

/- Walks: freeDirection. -/
namespace Go.Proofs.Ytlocdadkhdcedaa
open Go Go.RowKit Go.Proofs

def dirV : Option (Int × Int) → Value
  | some d => pt d.1 d.2
  | none => pt 0 0

theorem freeOf_plain (dx dy : Int) (xs ys : Nat → Int) (n : Nat) : freeOf dx dy xs ys n = Plain.freeB xs ys dx dy n := rfl

set_option maxRecDepth 100000 in
set_option maxHeartbeats 4000000 in
theorem freeDirection_any (b off n cap : Nat) (xs ys : Nat → Int) (w : World) (hn : n ≤ 1000000) (hpos : 0 < n) (hs : ∀ k, k < n → Small (xs k) ∧ Small (ys k)) (hz : Plain.NonZ xs ys n)
    (hc : ∀ k, k < n → w.cell? ⟨b, off + k * 2, none⟩ = some (.int .i64 (xs k)) ∧ w.cell? ⟨b, off + k * 2 + 1, none⟩ = some (.int .i64 (ys k))) :
    Calls Try.prog 116 #[.slice (some ⟨b, off, none⟩) n cap] w fun e w' => e = .returned (.tuple #[dirV (Plain.freeD xs ys n), .bool (Plain.freeD xs ys n).isSome]) ∧ Below w.heap.size w w' := by
  have HS := Lib.hid hs
  have HZ := Lib.hid hz
  have HC := Lib.hid hc
  clear hs hz hc
  have i0 : ((n : Int) == 0) = false := by simp; omega
  go_enter Try.func116, Try.ntmps116
  go_wp2_with fail
  have p0 := Pb.new w 0 0
  have b0 : Below w.heap.size w (w.alloc (ptObj 0 0)) := (Below.refl _ _).alloc (Nat.le_refl _) _
  go_loopw [15] (fun i wr => ∃ k : Nat, k ≤ n ∧ i = .int .i64 k ∧ Below w.heap.size w wr ∧ Pb wr w.heap.size 0 0 ∧ Plain.freeTo xs ys n k = none) (fun i _ => n - (intOf i).toNat)
  case atStart => exact ⟨0, Nat.zero_le _, rfl, b0, p0, rfl⟩
  case round =>
    clear b0 p0
    obtain ⟨k, hk, rfl, hbel, hp, hnone⟩ := hrel
    have HN := Lib.hid hnone
    clear hnone
    have r0 := hp.c0
    have r1 := hp.c1
    have r2 := hp.f 0
    have r3 := hp.f 1
    by_cases hlt : k < n
    · have j1 : (k : Int) < (n : Int) := by omega
      have e0 := keep_cell hbel (HC.out k hlt).1
      have e1 := keep_cell hbel (HC.out k hlt).2
      have G := fun w => gcd_any (xs k) (ys k) w (HS.out k hlt).1 (HS.out k hlt).2
      obtain ⟨g, hg⟩ : ∃ g : Nat, Int.gcd (xs k) (ys k) = g := ⟨_, rfl⟩
      rw [hg] at G
      have g0 : (0 : Int) < (g : Int) := by have := Plain.gcd_pos (HZ.out k hlt); rw [hg] at this; exact this
      have s1 := (HS.out k hlt).1
      have s2 := (HS.out k hlt).2
      have db := Plain.dir_bound (xs := xs) (ys := ys) (B := 8192) k (HZ.out k hlt) s1 s2
      have T1 : (-(ys k)).tdiv (g : Int) = Plain.dX xs ys k := by rw [← hg]; rfl
      have T2 : (xs k).tdiv (g : Int) = Plain.dY xs ys k := by rw [← hg]; rfl
      have HF : Hid (Plain.freeAt xs ys n k = if freeOf (Plain.dX xs ys k) (Plain.dY xs ys k) xs ys n then some (Plain.dX xs ys k, Plain.dY xs ys k) else if freeOf (-(Plain.dX xs ys k)) (-(Plain.dY xs ys k)) xs ys n then some (-(Plain.dX xs ys k), -(Plain.dY xs ys k)) else none) := Lib.hid rfl
      obtain ⟨lx, hlx⟩ : ∃ lx, Plain.dX xs ys k = lx := ⟨_, rfl⟩
      obtain ⟨ly, hly⟩ : ∃ ly, Plain.dY xs ys k = ly := ⟨_, rfl⟩
      rw [hlx, hly] at db HF
      rw [hlx] at T1
      rw [hly] at T2
      have F1 := fun b off cap w hc => isFree_any lx ly xs ys b off n cap w (by omega) db.1 db.2 HS.out hc
      have F2 := fun b off cap w hc => isFree_any (-lx) (-ly) xs ys b off n cap w (by omega) (by have := db.1; unfold Small; omega) (by have := db.2; unfold Small; omega) HS.out hc
      obtain ⟨f1, hf1⟩ : ∃ f, freeOf lx ly xs ys n = f := ⟨_, rfl⟩
      obtain ⟨f2, hf2⟩ : ∃ f, freeOf (-lx) (-ly) xs ys n = f := ⟨_, rfl⟩
      rw [hf1] at HF F1
      rw [hf2] at HF F2
      obtain ⟨⟨q1, q2⟩, q3, q4⟩ := db
      unfold Small at s1 s2
      obtain ⟨q5, q6⟩ := s1
      obtain ⟨q7, q8⟩ := s2
      clear hg hlx hly hf1 hf2
      generalize xs k = x at *
      generalize ys k = y at *
      have HT1 := Lib.hid T1
      have HT2 := Lib.hid T2
      clear T1 T2
      go_wp2_with fail
      have n0 := Pb.new wr x y
      have b1 := hbel.alloc hbel.size (ptObj x y)
      have p1 := hp.alloc (ptObj x y)
      refine (G _).mono ?_
      rintro e w2 ⟨rfl, hb⟩
      have b2 := keep_below b1 hb
      have p2 := p1.keep hb
      have n2 := n0.keep hb
      clear hb n0 b1 p1 r0 r1 r2 r3 e0 e1 hbel hp
      have c0 := n2.c0
      have c1 := n2.c1
      have gne : ¬ (g : Int) = 0 := by omega
      have T1 := HT1.out
      have T2 := HT2.out
      go_wp2_with fail
      have z2 := n2.lt
      go_region
      have b3 : Below w.heap.size w (w2.alloc (ptObj lx ly)).drew := (b2.alloc b2.size (ptObj lx ly)).drew
      have p3 : Pb (w2.alloc (ptObj lx ly)).drew w.heap.size 0 0 := p2.alloc (ptObj lx ly)
      have n3 : Pb (w2.alloc (ptObj lx ly)).drew w2.heap.size lx ly := Pb.new w2 lx ly
      obtain ⟨w3, hw3⟩ : ∃ w3, (w2.alloc (ptObj lx ly)).drew = w3 := ⟨_, rfl⟩
      obtain ⟨B, hB⟩ : ∃ B, w2.heap.size = B := ⟨_, rfl⟩
      have hwB : w.heap.size < B := by rw [← hB]; exact p2.lt
      rw [hB] at n3
      rw [hw3] at b3 p3 n3
      change Exit.then _ _ _ _ (w2.alloc (ptObj lx ly)).drew
      rw [hw3, hB]
      clear hw3 hB c0 c1 T1 T2 z2 n2 p2 b2 G
      have c0 := n3.c0
      have c1 := n3.c1
      have e0 := pt_old w3 (ptObj (-lx) (-ly)) c0
      have e1 := pt_old w3 (ptObj (-lx) (-ly)) c1
      have b4 := b3.alloc b3.size (ptObj (-lx) (-ly))
      have p4 := p3.alloc (ptObj (-lx) (-ly))
      have n4 := n3.alloc (ptObj (-lx) (-ly))
      have m4 := Pb.new w3 (-lx) (-ly)
      go_wp2_with fail
      refine (F1 b off cap _ (fun i hi => ⟨keep_cell b4 (HC.out i hi).1, keep_cell b4 (HC.out i hi).2⟩)).mono ?_
      rintro e w5 ⟨rfl, hb⟩
      have b5 := keep_below b4 hb
      have p5 := p4.keep hb
      have n5 := n4.keep hb
      have m5 := m4.keep hb
      have hwC := p3.lt
      obtain ⟨C, hC⟩ : ∃ C, w3.heap.size = C := ⟨_, rfl⟩
      rw [hC] at m5 hwC ⊢
      clear hC hb b4 p4 n4 m4 e0 e1 c0 c1 b3 p3 n3
      have c0 := n5.c0
      have c1 := n5.c1
      have d0 := m5.c0
      have d1 := m5.c1
      have r0 := p5.c0
      have r1 := p5.c1
      have r2 := p5.f 0
      have r3 := p5.f 1
      cases f1
      · go_wp2_with fail
        refine (F2 b off cap _ (fun i hi => ⟨keep_cell b5 (HC.out i hi).1, keep_cell b5 (HC.out i hi).2⟩)).mono ?_
        rintro e w6 ⟨rfl, hb⟩
        have b6 := keep_below b5 hb
        have p6 := p5.keep hb
        have m6 := m5.keep hb
        clear hb c0 c1 d0 d1 r0 r1 r2 r3 b5 p5 n5 m5
        have d0 := m6.c0
        have d1 := m6.c1
        have r0 := p6.c0
        have r1 := p6.c1
        have r2 := p6.f 0
        have r3 := p6.f 1
        cases f2
        · go_wp2
          refine ⟨⟨k + 1, by omega, by simp, b6, p6, ?_⟩, by simp [intOf]; omega⟩
          unfold Plain.freeTo
          rw [HN.out]
          exact HF.out
        · go_wp2
          have hD : Plain.freeD xs ys n = some (-lx, -ly) := by
            unfold Plain.freeD
            rw [if_neg (by omega)]
            exact Plain.freeTo_some HN.out HF.out hlt
          rw [hD]
          refine bodyPost_ret (v := .tuple #[pt (-lx) (-ly), .bool true]) ?_ rfl ⟨rfl, (b6.setCell (Nat.le_refl _) _).setCell (Nat.le_refl _) _⟩
          exact (res_cell_tmp (fn := Try.f116) rfl _ (by rfl) (p6.set _ _).load).trans (by rfl)
      · go_wp2
        have hD : Plain.freeD xs ys n = some (lx, ly) := by
          unfold Plain.freeD
          rw [if_neg (by omega)]
          exact Plain.freeTo_some HN.out HF.out hlt
        rw [hD]
        refine bodyPost_ret (v := .tuple #[pt lx ly, .bool true]) ?_ rfl ⟨rfl, (b5.setCell (Nat.le_refl _) _).setCell (Nat.le_refl _) _⟩
        exact (res_cell_tmp (fn := Try.f116) rfl _ (by rfl) (p5.set _ _).load).trans (by rfl)
    · obtain rfl : k = n := by omega
      go_wp2
      have hD : Plain.freeD xs ys k = none := by
        unfold Plain.freeD
        rw [if_neg (by omega)]
        exact HN.out
      rw [hD]
      refine bodyPost_ret (v := .tuple #[pt 0 0, .bool false]) ?_ rfl ⟨rfl, (hbel.setCell (Nat.le_refl _) _).setCell (Nat.le_refl _) _⟩
      exact (res_cell_tmp (fn := Try.f116) rfl _ (by rfl) (hp.set _ _).load).trans (by rfl)

set_option maxHeartbeats 1000000 in
theorem freeDirection_zero (a : Option Addr) (cap : Nat) (xs ys : Nat → Int) (w : World) :
    Calls Try.prog 116 #[.slice a 0 cap] w fun e w' => e = .returned (.tuple #[dirV (Plain.freeD xs ys 0), .bool (Plain.freeD xs ys 0).isSome]) ∧ Below w.heap.size w w' := by
  go_enter Try.func116, Try.ntmps116
  go_wp2
  refine bodyPost_ret (v := .tuple #[pt 1 0, .bool true]) ?_ rfl ⟨rfl, (Below.refl _ _).alloc (Nat.le_refl _) _⟩
  exact (res_cell_tmp (fn := Try.f116) rfl _ (by rfl) (Pb.new w 1 0).load).trans (by rfl)

end Go.Proofs.Ytlocdadkhdcedaa
