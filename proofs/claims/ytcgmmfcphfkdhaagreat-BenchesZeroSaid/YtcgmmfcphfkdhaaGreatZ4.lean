/- What a bench that nobody made does with a note. -/
import Derived.Test.YtcgmmfcphfkdhaaGreatZ1
import Derived.Test.YtcgmmfcphfkdhaaGreatZ0
import Derived.Deep.WholeRow
namespace Go.Proofs.YtcgmmfcphfkdhaaGreat
open Go Go.RowKit Go.Proofs Go.Torn Go.Abs

def zA : Array Value := zN.cells
theorem zA_run (w : World) : (zeroValue 40).run Tryz.prog w = .ok (.agg zA) w := Tryz.zeroValue40 w

theorem load_new40 (W : World) (Z : Array Value) (k : Z.size = 29) : (loadVar 40 ⟨W.heap.size, 0, none⟩).run Tryz.prog (W.alloc (.cells Z 40)) = .ok (.agg Z) (W.alloc (.cells Z 40)) := by
  have hl := run_loadCellsFrom_new (P := Tryz.prog) W 40 Z 29 k
  simp only [loadVar, Sem.run_bind, Tryz.isAgg40, Result.andThen, loadCells]
  simp [hl, Result.andThen, Tryz.sizeOf40]

theorem results_cell_tmp {P : Program} {fn : Func} {a u : Tmp} {t : TypeId} {w : World} {v : Value} {p : Addr} (h : fn.results = #[.cell a t, .tmp u]) (tmps : Array Value) (hp : tmps.getD a undef = .pointer (some p))
    (hl : (loadVar t p).run P w = .ok v w) : (results fn tmps).run P w = .ok (.tuple #[v, tmps.getD u undef]) w := by
  have hp' : tmps[a]?.getD undef = .pointer (some p) := by simpa using hp
  simp only [results, h]
  simp [hp', asAddr, hl]

set_option maxRecDepth 100000 in
theorem do42 {v : Value} (a : Array Value) (_ha : a.size = 29) (w : World) (h : NoB w v) : Calls Tryz.prog 42 #[v, .agg a] w fun e w' => e = .returned (.tuple #[.agg zA, .int .i64 1]) ∧ Below w.heap.size w w' := by
  have H := Lib.hid h
  clear h
  have hz := zA_run
  obtain ⟨Z, hZ, k1, k2⟩ : ∃ Z, zA = Z ∧ Z.size = 29 ∧ Z.all (·.oneCell') = true := ⟨_, rfl, by kernel_rfl, by kernel_rfl⟩
  rw [hZ] at hz ⊢
  clear hZ
  go_enter Tryz.func42, Tryz.ntmps42
  go_wp2_with fail
  have b1 := ((Below.refl w.heap.size w).alloc (Nat.le_refl _) (Obj.cells a 40))
  have b2 := Below.alloc b1 b1.size (Obj.cells Z 40)
  refine (made85 _ (H.out.keep b2)).mono ?_
  rintro e w1 ⟨rfl, rfl⟩
  obtain ⟨W1, hW⟩ : ∃ W1, w.alloc (Obj.cells a 40) = W1 := ⟨_, rfl⟩
  have hn : w.heap.size + 1 = W1.heap.size := by rw [← hW]; show _ = (w.heap.push _).size; rw [Array.size_push]
  rw [hW] at b2 ⊢
  have B := Lib.hid b2
  clear b1 H hW b2
  rw [hn]
  clear hn
  have hs := run_storeCells_new (P := Tryz.prog) W1 40 Z Z (by rw [k1]; kernel_rfl) rfl k2
  have hl := run_loadCellsFrom_new (P := Tryz.prog) W1 40 Z 29 k1
  go_wp2_with fail
  exact bodyPost_ret (results_cell_tmp (fn := Tryz.f42) rfl _ (by rfl) (load_new40 W1 Z k1)) rfl ⟨rfl, B.out⟩
end Go.Proofs.YtcgmmfcphfkdhaaGreat
