/- Walks: Equal and Clone of slices of bytes. -/
import Derived.Test.YtcgmmfcphfkdhaaGreatB3
import Derived.Laws.BytesArg
namespace Go.Proofs.YtcgmmfcphfkdhaaGreat
open Go Go.RowKit Go.Proofs Go.Torn

def strB (L : List Nat) : ByteArray := strOfNums (L.map fun n => ((n : Nat) : Int))

theorem strB_inj {L M : List Nat} (hL : By L) (hM : By M) (h : strB L = strB M) : L = M := by
 have h2 := congrArg (fun s => s.data.toList) h
 simp only [strB, strOfNums_data, List.map_map] at h2
 have key : ∀ {L M : List Nat}, By L → By M → L.map ((fun n : Int => UInt8.ofNat n.toNat) ∘ fun n : Nat => ((n : Nat) : Int)) = M.map ((fun n : Int => UInt8.ofNat n.toNat) ∘ fun n : Nat => ((n : Nat) : Int)) → L = M := by
  intro L
  induction L with
  | nil => intro M _ _ h; cases M with
   | nil => rfl
   | cons _ _ => simp at h
  | cons x l ih =>
   intro M hL hM h
   cases M with
   | nil => simp at h
   | cons y m =>
    simp only [List.map_cons, List.cons.injEq, Function.comp] at h
    have hx := hL x (by simp)
    have hy := hM y (by simp)
    have e : x = y := by
     have := congrArg UInt8.toNat h.1
     simp only [Int.toNat_natCast, UInt8.toNat_ofNat'] at this
     omega
    rw [e, ih (fun v hv => hL v (by simp [hv])) (fun v hv => hM v (by simp [hv])) h.2]
 exact key hL hM h2

theorem run_str {w : World} {v : Value} {L : List Nat} (h : SlB w v L) : (convert 46 9 v).run Tryz.prog w = .ok (.string (strB L)) w := by
 obtain ⟨a, cap, rfl, ⟨hl, hz⟩, hd⟩ := h
 rcases Nat.eq_zero_or_pos L.length with h0 | h0
 ·have : L = [] := List.eq_nil_of_length_eq_zero h0
  subst this
  cases a with
  | none => exact run_convert_bytes_nil w 46 5 Tryz.underlying46 Tryz.underlying5 _ _ 9 Tryz.underlying9
  | some ad =>
   rw [run_convert_bytes_string w 46 9 5 _ _ _ Tryz.underlying46 Tryz.underlying5 Tryz.underlying9, run_bytesToString w _ _ cap [] (by rfl)]
   rfl
 ·obtain ⟨b, off, rfl, hb⟩ := hd h0
  refine run_convert_bytes_arg w 46 5 Tryz.underlying46 Tryz.underlying5 b off L.length cap _ (by simp) (fun i hi => ?_) 9 Tryz.underlying9
  rw [hb i hi]
  simp [List.getD, hi]

theorem str_eq (s1 s2 : ByteArray) : (s1.toList == s2.toList) = decide (s1 = s2) := by
 rw [Bool.eq_iff_iff, beq_iff_eq, decide_eq_true_eq, ByteArray.toList_eq, ByteArray.toList_eq]
 constructor
 ·intro h
  have h2 : s1.data = s2.data := Array.toList_inj.1 h
  cases s1; cases s2
  simp_all
 ·rintro rfl; rfl

set_option maxHeartbeats 400000 in
theorem equal_any (v v' : Value) (L M : List Nat) (hL : By L) (hM : By M) (w : World) (hs : SlB w v L) (hs' : SlB w v' M) :
  Calls Tryz.prog 121 #[v, v'] w fun e w' => e = .returned (.bool (decide (L = M))) ∧ w' = w := by
 have R1 := run_str hs
 have R2 := run_str hs'
 have hd : decide (L = M) = decide (strB L = strB M) := by
  by_cases h : L = M
  ·subst h; simp
  ·rw [decide_eq_false h, decide_eq_false (fun e => h (strB_inj hL hM e))]
 rw [hd]
 clear hd hs hs'
 generalize strB L = s1 at R1 ⊢
 generalize strB M = s2 at R2 ⊢
 go_enter Tryz.func121, Tryz.ntmps121
 go_wp2
 go_ret
 rw [str_eq]
 exact ⟨rfl, rfl⟩

theorem run_nil_eql (a : Addr) (n c : Nat) (w : World) : (binOp .eql 46 (.slice (some a) n c) (.slice none 0 0)).run Tryz.prog w = .ok (.bool false) w := by
 kernel_rfl

set_option maxRecDepth 100000 in
set_option maxHeartbeats 2000000 in
theorem clone_any (ad : Addr) (cap : Nat) (L : List Nat) (hl : L.length ≤ 100000000) (w : World) (hs : SlB w (.slice (some ad) L.length cap) L) :
  Calls Tryz.prog 83 #[.slice (some ad) L.length cap] w fun e w' => ∃ v, e = .returned v ∧ w'.ownsRow w.heap.size 5 1 v L.length (bc L) ∧ Below w.heap.size w w' := by
 obtain ⟨i0, hi, hz0, hz1, hz2⟩ := info_parts info5
 have NE := run_nil_eql ad L.length cap
 have hal : Below w.heap.size w (w.alloc (Obj.cells #[] 5)) := (Below.refl _ w).alloc (Nat.le_refl _) _
 have HN := Lib.hid (show ∀ j u, (bc L)[j]? = some u → (w.alloc (Obj.cells #[] 5)).cell? (ad.add j) = some u from by
  intro j u hu
  have hj : j < L.length := by
   have := (List.getElem?_eq_some_iff.1 hu).1
   rwa [bc_len] at this
  obtain ⟨a, c, hv, -, hd⟩ := hs.keep hal
  obtain ⟨b, off, hh, hdat⟩ := hd (by omega)
  simp only [Value.slice.injEq] at hv
  rw [hh] at hv
  have := hv.1
  simp only [Option.some.injEq] at this
  rw [this]
  exact bc_cells hdat j u hu)
 have HO := Lib.hid (bc_one L)
 have HL := Lib.hid (bc_len L)
 have hown : (w.alloc (Obj.cells #[] 5)).ownsRow w.heap.size 5 1 (.slice (some ⟨w.heap.size, 0, none⟩) 0 0) 0 [] := by
  have := World.ownsRow_lit (e := 5) (size := 1) w #[] 0 (Nat.le_refl w.heap.size) (by unfold maxLen; omega) (by simp)
  simpa using this
 clear hs
 obtain ⟨n, hn⟩ : ∃ n, L.length = n := ⟨_, rfl⟩
 rw [hn] at NE HL hl ⊢
 clear hn
 go_enter Tryz.func83, Tryz.ntmps83
 go_wp2_with (at_builtin; refine wpList_append_own _ rfl _ _ 46 rfl w.heap.size 5 i0 (.int .u8 0) 1 1 Tryz.underlying46 hi hz0 hz1 hz2 rfl (by decide) _ _ _ rfl hown ad n cap (bc L) rfl (by rw [HL.out]; omega) HN.out HO.out (by unfold maxLen; omega) (by omega) hal.size ?_; intro v6 w6 hown6 hg6 _)
 go_ret
 refine ⟨v6, rfl, ?_, hal.grown hg6 hal.size (fun j e => (hown.lt j e).1)⟩
 simpa using hown6

end Go.Proofs.YtcgmmfcphfkdhaaGreat
