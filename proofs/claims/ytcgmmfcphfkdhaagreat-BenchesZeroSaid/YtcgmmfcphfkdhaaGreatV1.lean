/- A slice of slices of bytes that came in, opened. -/
import Derived.Test.YtcgmmfcphfkdhaaGreatB8
import Derived.OpenShut
import Derived.Deep.Matrix
namespace Go.Proofs.YtcgmmfcphfkdhaaGreat
open Go Go.RowKit Go.Proofs Go.WideShapes Go.ChangeShapes Go.Deep Go.Torn

theorem wf_u8 {n : Int} (h : (Lit.int .u8 n).wf = true) : 0 ≤ n ∧ n < 256 := by
  have h' : (decide (IntKind.u8.min ≤ n) && decide (n ≤ IntKind.u8.max)) = true := h
  have e1 : IntKind.u8.min = 0 := rfl
  have e2 : IntKind.u8.max = 255 := rfl
  rw [e1, e2] at h'
  simp at h'
  omega

theorem row_list {z : List Int} {l c : Nat} (hz : z.length = c) (hl : l ≤ c) : ((z.take l).map Int.toNat).length = l := by
  rw [List.length_map, List.length_take]; omega

theorem row_getD {z : List Int} {l k : Nat} (hk : k < l) (hl : l ≤ z.length) (hw : ∀ n ∈ z, 0 ≤ n ∧ n < 256) : ((((z.take l).map Int.toNat).getD k 0 : Nat) : Int) = z.getD k 0 := by
  have hkz : k < z.length := by omega
  have e1 : ((z.take l).map Int.toNat).getD k 0 = (z[k]).toNat := by
    rw [List.getD_eq_getElem?_getD, List.getElem?_map, List.getElem?_take_of_lt hk, List.getElem?_eq_getElem hkz]
    rfl
  have e2 : z.getD k 0 = z[k] := by rw [List.getD_eq_getElem?_getD, List.getElem?_eq_getElem hkz]; rfl
  rw [e1, e2]
  have := (hw z[k] (List.getElem_mem hkz)).1
  omega

theorem row_by {z : List Int} {l : Nat} (hw : ∀ n ∈ z, 0 ≤ n ∧ n < 256) : By ((z.take l).map Int.toNat) := by
  intro v hv
  rw [List.mem_map] at hv
  obtain ⟨n, hn, rfl⟩ := hv
  have := hw n (List.mem_of_mem_take hn)
  omega

set_option maxRecDepth 100000 in
theorem rows_of {H : Type} {enc : TypeId × Value → H} {W : World} {base : Nat} {held : Bool} {v : Value} {d : DataW H} {p : List MemPlace} (hok : Value.okWide Tryz.prog W .any base 52 v)
    (h : DataW.Trod enc Tryz.prog W 0 (fun _ => true) held 52 v d p) : ∃ Ps, RowsR W v Ps ∧ (∀ r ∈ Ps, By r) ∧ ∀ x n c, v = .slice x n c → n ≤ c := by
  obtain ⟨a, len, cap, rfl⟩ := okWide_slice Tryz.underlying52 hok
  obtain ⟨m, hm⟩ := h
  have hm' : DataW.trod enc Tryz.prog W 0 (fun _ => true) held m 52 [.slice a len cap] = some (d, p) := by simpa [Value.cells] using hm
  rcases open_int_rows Tryz.underlying52 Tryz.underlying46 Tryz.underlying5 (by kernel_rfl) (by kernel_rfl) hm' with ⟨hcs, -⟩ | ⟨a', len', cap', A, L, C, Z, hcs, -, hl, hcap, -, hall⟩
  · have e : Value.slice a len cap = .slice none 0 0 := by simpa using hcs
    simp only [Value.slice.injEq] at e
    obtain ⟨rfl, rfl, rfl⟩ := e
    exact ⟨[], ⟨none, 0, rfl, fun h => absurd h (Nat.lt_irrefl 0)⟩, fun r hr => by simp at hr, fun x n c e => by simp only [Value.slice.injEq] at e; omega⟩
  · have e : Value.slice a len cap = .slice (some a') len' cap' := by simpa using hcs
    simp only [Value.slice.injEq] at e
    obtain ⟨rfl, rfl, rfl⟩ := e
    refine ⟨(List.range len).map fun r => ((Z r).take (L r)).map Int.toNat, ⟨some a', cap, by simp, fun hp => ?_⟩, ?_, fun x n c e => by simp only [Value.slice.injEq] at e; omega⟩
    · have hp : 0 < len := by simpa using hp
      obtain ⟨b, off, s⟩ := a'
      have hs : s = none := by simpa [Addr.add] using World.cell?_spot (hall 0 (by omega)).1
      subst hs
      refine ⟨b, off, rfl, fun k hk => ?_⟩
      have hk : k < len := by simpa using hk
      obtain ⟨c0, h1, h2, h3, h4, h5, h6⟩ := hall k (by omega)
      rw [add_plain] at c0
      refine ⟨_, c0, ?_⟩
      have eg : ((List.range len).map fun r => ((Z r).take (L r)).map Int.toNat).getD k [] = ((Z k).take (L k)).map Int.toNat := by
        rw [List.getD_eq_getElem?_getD, List.getElem?_map, List.getElem?_range hk]; rfl
      rw [eg]
      have hlen := row_list (z := Z k) h3 h1
      have hw : ∀ n ∈ Z k, 0 ≤ n ∧ n < 256 := fun n hn => wf_u8 (h4 n hn)
      refine ⟨A k, C k, by rw [hlen], ⟨by rw [hlen]; unfold maxLen at h2; omega, h5⟩, fun hpos => ?_⟩
      rw [hlen] at hpos
      cases hA : A k with
      | none => have := h5 hA; omega
      | some a2 =>
        obtain ⟨-, hc⟩ := h6 a2 hA
        obtain ⟨b2, off2, s2⟩ := a2
        have hs2 : s2 = none := by simpa [Addr.add] using World.cell?_spot (hc 0 (by omega))
        subst hs2
        refine ⟨b2, off2, rfl, fun j hj => ?_⟩
        rw [hlen] at hj
        have := hc j (by omega)
        rw [add_plain] at this
        rw [this, row_getD hj (by omega) hw]
    · intro r hr
      rw [List.mem_map] at hr
      obtain ⟨k, hk, rfl⟩ := hr
      have hk := List.mem_range.1 hk
      obtain ⟨-, -, -, -, h4, -⟩ := hall k (by omega)
      exact row_by fun n hn => wf_u8 (h4 n hn)

end Go.Proofs.YtcgmmfcphfkdhaaGreat
