/- The abstract machine, part GrAbsB. -/
import Derived.Test.YtcgmmfcphfkdhaaGreatGrAbsA
/- The abstract machine: append against the model's. -/
namespace Go.Abs
open Go Go.RowKit

variable {P : Program} {B : Nat} {ρ : Ren} {H : List AObj} {w : World}

theorem WRel.adopt (h : WRel P B ρ H w) {ao : AObj} {t : Ent} (hne : ∀ (b : Nat) (t' : Ent) (o : AObj), ρ[b]? = some t' → H[b]? = some o → o.live = true → t'.rb ≠ t.rb)
  (ho : ORel P B (ρ ++ [t]) t ao w) : WRel P B (ρ ++ [t]) (H ++ [ao]) w := by
 have live_of_rw : ∀ o : AObj, o.rw = true → o.live = true := fun o ho => by cases o <;> first | rfl | cases ho
 have old : ∀ c (v : Ent) y, (ρ ++ [t])[c]? = some v → (H ++ [ao])[c]? = some y → c < H.length ∧ ρ[c]? = some v ∧ H[c]? = some y ∨ c = H.length ∧ v = t ∧ y = ao := by
  intro c v y hv hy
  rcases Nat.lt_trichotomy c H.length with hb | hb | hb
  ·left
   rw [List.getElem?_append_left (by rw [h.len]; exact hb)] at hv
   rw [List.getElem?_append_left hb] at hy
   exact ⟨hb, hv, hy⟩
  ·right
   subst hb
   rw [List.getElem?_append_right (by rw [h.len]; exact Nat.le_refl _), h.len, Nat.sub_self] at hv
   rw [List.getElem?_append_right (Nat.le_refl _), Nat.sub_self] at hy
   simp at hv hy
   exact ⟨rfl, hv.symm, hy.symm⟩
  ·rw [List.getElem?_eq_none (by simp; omega)] at hy
   cases hy
 refine ⟨by simp [h.len], ?_, ?_, h.base⟩
 ·intro b u o' hu ho'
  rcases old b u o' hu ho' with ⟨_, h2, h3⟩ | ⟨_, rfl, rfl⟩
  ·exact (h.blk b u o' h2 h3).keep (List.prefix_append _ _) (fun _ => rfl)
  ·exact ho
 ·intro b b' u u' x x' hne' hu hu' hx hx' hrw hl
  rcases old b u x hu hx with ⟨h1, h2, h3⟩ | ⟨h1, h2, h3⟩ <;> rcases old b' u' x' hu' hx' with ⟨g1, g2, g3⟩ | ⟨g1, g2, g3⟩
  ·exact h.inj b b' u u' x x' hne' h2 g2 h3 g3 hrw hl
  ·rw [g2]; exact hne b u x h2 h3 (live_of_rw _ hrw)
  ·rw [h2]; exact fun e => hne b' u' x' g2 g3 hl e.symm
  ·omega

def appTail (elem : TypeId) (size sLen sCap n : Nat) (zeros : Bool) (base : Option Addr) (s x : Value) (appended : Sem (Array Value)) : Sem Value := do
 let need := sLen + n
 if need ≤ sCap then
  let new ← appended
  if let some a := base then storeCells (a.add (sLen * size)) new.toList
  pure (.slice base need sCap)
 else
  if (need : Int) > IntKind.i64.max ∧ (zeros ∨ (← typeInfo elem).bytes = 0) then runtimePanic (.error "growslice: len out of range")
  if Builtin.nextslicecap need sCap * (← typeInfo elem).bytes > 2 ^ 48 then (if zeros then runtimePanic (.error "growslice: len out of range") else do
   if !(← Builtin.mayShare size sLen n base x) then mark .noRoom
   unsupported (.resourceLimit "append: a slice or a string whose bytes no memory bears"))
  let newCap ← choose (.appendCap need sCap elem)
  askRoom (newCap * (← typeInfo elem).bytes)
  let old ← Builtin.firstCells size sLen s
  let new ← appended
  let rest := Builtin.zeroCells (← zeroValue elem).cells (newCap - need)
  pure (.slice (some (← newRow elem (old ++ new ++ rest))) need newCap)

def appSem (e : TypeId) (size n : Nat) (zeros : Bool) (x : Value) : Sem (Array Value) :=
 if !zeros then Builtin.firstCells size n x
 else if n * size = 0 then pure #[]
 else do pure (Builtin.zeroCells (← zeroValue e).cells n)

theorem append_slice {ts : Array TypeId} {T sT xT e e2 : TypeId} {i : TypeInfo} {args : Array Value} {base : Option Addr} {sLen sCap n : Nat} {x : Value}
  (h1 : ts[0]? = some sT) (h2 : ts[1]? = some xT) (h3 : args[0]? = some (.slice base sLen sCap)) (h4 : args[1]? = some x) (hu : P.underlying sT = some (.slice e)) (hx : P.underlying xT = some (.slice e2))
  (hi : P.info? e = some i) (hn : (Builtin.lenOf x).run P w = .ok n w) :
  (Builtin.append_ ts T args).run P w = (appTail e i.size sLen sCap n false base (.slice base sLen sCap) x (appSem e i.size n false x)).run P w := by
 unfold Builtin.append_
 simp only [h1, h2, h3, h4]
 rw [run_bind_ok (run_underlying hu w)]
 simp only
 rw [run_bind_ok (run_sizeOf hi w)]
 rw [run_bind_ok (run_underlying hx w)]
 rw [run_bind_ok (a := false) (w1 := w) rfl]
 change Sem.run P (Sem.bind (Builtin.lenOf x) _) w = _
 rw [run_bind', hn]
 rfl

theorem append_zeros {ts : Array TypeId} {T sT xT e : TypeId} {k k' : IntKind} {i : TypeInfo} {args : Array Value} {base : Option Addr} {sLen sCap : Nat} {m : Int}
  (h1 : ts[0]? = some sT) (h2 : ts[1]? = some xT) (h3 : args[0]? = some (.slice base sLen sCap)) (h4 : args[1]? = some (.int k' m)) (hu : P.underlying sT = some (.slice e)) (hx : P.underlying xT = some (.int k))
  (hi : P.info? e = some i) (hm : IntKind.i64.wrap m = m) (h0 : 0 ≤ m) (hb : m * i.bytes ≤ 2 ^ 48) :
  (Builtin.append_ ts T args).run P w = (appTail e i.size sLen sCap m.toNat true base (.slice base sLen sCap) (.int k' m) (appSem e i.size m.toNat true (.int k' m))).run P w := by
 unfold Builtin.append_
 simp only [h1, h2, h3, h4]
 rw [run_bind_ok (run_underlying hu w)]
 simp only
 rw [run_bind_ok (run_sizeOf hi w)]
 rw [run_bind_ok (run_underlying hx w)]
 rw [run_bind_ok (a := true) (w1 := w) rfl]
 rw [if_pos (rfl : true = true)]
 rw [run_bind_ok (a := m) (w1 := w) rfl]
 rw [hm, if_neg (show ¬ m < 0 by omega)]
 rw [run_bind_ok (run_typeInfo hi w)]
 rw [if_neg (show ¬ m * (i.bytes : Int) > 2 ^ 48 by omega)]
 rfl

theorem tail_room {e : TypeId} {size sLen sCap n : Nat} {zeros : Bool} {a : Addr} {s x : Value} {app : Sem (Array Value)} {new : Array Value} {w1 : World} (hn : sLen + n ≤ sCap)
  (ha : app.run P w = .ok new w) (hs : (storeCells (a.add (sLen * size)) new.toList).run P w = .ok () w1) :
  (appTail e size sLen sCap n zeros (some a) s x app).run P w = .ok (.slice (some a) (sLen + n) sCap) w1 := by
 unfold appTail
 dsimp only
 rw [if_pos hn]
 rw [run_bind_ok ha]
 rw [run_bind_ok hs]
 rfl

theorem tail_nil {e : TypeId} {size sLen sCap n : Nat} {zeros : Bool} {s x : Value} {app : Sem (Array Value)} {new : Array Value} (hn : sLen + n ≤ sCap)
  (ha : app.run P w = .ok new w) :
  (appTail e size sLen sCap n zeros none s x app).run P w = .ok (.slice none (sLen + n) sCap) w := by
 unfold appTail
 dsimp only
 rw [if_pos hn]
 rw [run_bind_ok ha]
 rfl

theorem next_le {need cap : Nat} (h : cap < need) : Builtin.nextslicecap need cap ≤ 2 * need + 512 ∨ (256 ≤ cap ∧ Builtin.nextslicecap need cap = Builtin.growBy need 4 cap) := by
 unfold Builtin.nextslicecap
 split
 ·left; omega
 ·split
  ·left; omega
  ·right; exact ⟨by omega, rfl⟩

theorem grow_bound (n : Nat) : ∀ (r c : Nat), c < n → 256 ≤ c → Builtin.growBy n r c ≤ 2 * n + 192
 | 0, c, h, _ => by unfold Builtin.growBy; omega
 | r + 1, c, h, h2 => by
  unfold Builtin.growBy
  rw [if_neg (by omega)]
  by_cases hc : c + (c + 768) / 4 < n
  ·exact grow_bound n r _ hc (by omega)
  ·have : ∀ r, Builtin.growBy n r (c + (c + 768) / 4) = c + (c + 768) / 4 := by
    intro r
    cases r with
    | zero => rfl
    | succ r => unfold Builtin.growBy; rw [if_pos (by omega)]
   rw [this]; omega

theorem next_small {need cap bytes : Nat} (h : cap < need) (hb : 8 * need * bytes ≤ 2 ^ 48) (hn : 0 < need) : ¬ Builtin.nextslicecap need cap * bytes > 2 ^ 48 := by
 have key : Builtin.nextslicecap need cap ≤ 2 * need + 512 := by
  rcases next_le h with h1 | ⟨h1, h2⟩
  ·exact h1
  ·rw [h2]; have := grow_bound need 4 cap h h1; omega
 unfold Builtin.nextslicecap at *
 have hle : Builtin.nextslicecap need cap ≤ 4 * need := by
  unfold Builtin.nextslicecap
  split
  ·omega
  ·split
   ·omega
   ·have := grow_bound need 4 cap h (by omega); omega
 unfold Builtin.nextslicecap at hle
 have := Nat.mul_le_mul_right bytes hle
 have h8 : 4 * need * bytes ≤ 8 * need * bytes := Nat.mul_le_mul_right bytes (by omega)
 omega

theorem tail_grow {e : TypeId} {i : TypeInfo} {sLen sCap n : Nat} {zeros : Bool} {base : Option Addr} {s x z : Value} {app : Sem (Array Value)} {old new : Array Value} (hi : P.info? e = some i) (hz : i.zero = some z)
  (hn : sCap < sLen + n) (hbig : 8 * (sLen + n) * i.bytes ≤ 2 ^ 48) (hsm : sLen + n < 1000000)
  (ho : ∀ k, (Builtin.firstCells i.size sLen s).run P { w with drawn := w.drawn + k } = .ok old { w with drawn := w.drawn + k }) (ha : ∀ k, app.run P { w with drawn := w.drawn + k } = .ok new { w with drawn := w.drawn + k }) :
  ∃ (newCap : Nat) (k : Nat), sLen + n ≤ newCap ∧ (appTail e i.size sLen sCap n zeros base s x app).run P w =
   .ok (.slice (some ⟨w.heap.size, 0, none⟩) (sLen + n) newCap) { w with drawn := w.drawn + k, heap := w.heap.push (.cells (old ++ new ++ Builtin.zeroCells z.cells (newCap - (sLen + n))) e) } := by
 refine ⟨(Question.appendCap (sLen + n) sCap e).cut (w.tape w.drawn (.appendCap (sLen + n) sCap e)), 1, by simp [Question.cut], ?_⟩
 unfold appTail
 dsimp only
 rw [if_neg (by omega)]
 rw [run_bind_ok (run_typeInfo hi w)]
 rw [if_neg (by
  intro h
  have : (IntKind.i64.max : Int) = 9223372036854775807 := by decide
  omega)]
 rw [run_bind_ok (run_typeInfo hi w)]
 rw [if_neg (next_small hn hbig (by omega))]
 rw [run_bind_ok (a := (Question.appendCap (sLen + n) sCap e).cut (w.tape w.drawn (.appendCap (sLen + n) sCap e))) (w1 := { w with drawn := w.drawn + 1 }) (by simp [choose, Sem.run, Question.forced])]
 rw [run_bind_ok (run_typeInfo hi _)]
 have hask : ∀ m w', (askRoom m).run P w' = .ok () w' := by
  intro m w'
  unfold askRoom
  split <;> rfl
 rw [run_bind_ok (hask _ _)]
 rw [run_bind_ok (ho 1)]
 rw [run_bind_ok (ha 1)]
 rw [run_bind_ok (run_zeroValue hi hz _)]
 rfl

end Go.Abs

/- The abstract machine: append, whole. -/
namespace Go.Abs
open Go Go.RowKit

variable {P : Program} {B : Nat} {ρ : Ren} {w : World}

theorem ARel.append {xs ys us vs : Array Value} (h : ARel ρ xs ys) (k : ARel ρ us vs) : ARel ρ (xs ++ us) (ys ++ vs) := by
 have e := h.1
 have e2 := k.1
 refine ⟨by simp [h.1, k.1], fun i => ?_⟩
 by_cases h1 : i < xs.size
 ·have := h.2 i
  have h2 : i < ys.size := by omega
  simp [Array.getD, h1, h2] at this
  simp [Array.getD, Nat.lt_add_right _ h1, Nat.lt_add_right _ h2, h1, h2]
  exact this
 ·by_cases h3 : i < xs.size + us.size
  ·have := k.2 (i - xs.size)
   have h2 : ¬ i < ys.size := by omega
   have h4 : i < ys.size + vs.size := by omega
   have h5 : i - xs.size < us.size := by omega
   have h6 : i - xs.size < vs.size := by omega
   simp [Array.getD, h5, h6] at this
   simp [Array.getD, h3, h4, Array.getElem_append, h1, h2]
   simpa [← e] using this
  ·have h4 : ¬ i < ys.size + vs.size := by omega
   simp [Array.getD, h3, h4]
   exact .nil

theorem appended_run (hP : POk P) {H : List AObj} {ts : Array TypeId} {T sT xT e : TypeId} {i : TypeInfo} {z x x' : Value} {n : Nat} {new : Array Value} {args' : Array Value} {base : Option Addr} {sLen sCap : Nat}
  (hw : WRel P B ρ H w) (h1 : ts[0]? = some sT) (h2 : ts[1]? = some xT) (h3 : args'[0]? = some (.slice base sLen sCap)) (h4 : args'[1]? = some x') (hu : P.underlying sT = some (.slice e)) (hi : P.info? e = some i) (hz : i.zero = some z)
  (hx : VRel ρ x x') (h : appended? P H i xT x = some (n, new)) :
  ∃ zeros app new', (Builtin.append_ ts T args').run P w = (appTail e i.size sLen sCap n zeros base (.slice base sLen sCap) x' app).run P w ∧
   (∀ k, app.run P { w with drawn := w.drawn + k } = .ok new' { w with drawn := w.drawn + k }) ∧ ARel ρ new new' ∧ new.size = n * i.size := by
 unfold appended? at h
 split at h
 ·rename_i k k' m hxT
  split at h
  ·rename_i z' hz'
   rw [hz] at hz'; cases hz'
   split at h
   ·rename_i hc
    obtain ⟨c1, c2, c3, c4, c5⟩ := hc
    simp only [Option.some.injEq, Prod.mk.injEq] at h
    obtain ⟨rfl, rfl⟩ := h
    obtain rfl := rel_int hx
    refine ⟨true, _, if m.toNat * i.size = 0 then #[] else Builtin.zeroCells z.cells m.toNat, append_zeros h1 h2 h3 h4 hu hxT hi c1 c2 c5, fun k => ?_, ?_, ?_⟩
    ·unfold appSem
     rw [if_neg (by simp)]
     by_cases h0 : m.toNat * i.size = 0
     ·rw [if_pos h0, if_pos h0]; rfl
     ·rw [if_neg h0, if_neg h0]
      rw [run_bind_ok (run_zeroValue hi hz _)]
      rfl
    ·by_cases h0 : m.toNat * i.size = 0
     ·rw [if_pos h0]; exact ARel.empty _
     ·rw [if_neg h0]; exact zeroCells_rel (ARel.refl_cells c4) _
    ·by_cases h0 : m.toNat * i.size = 0
     ·rw [if_pos h0, h0]; rfl
     ·rw [if_neg h0, zeroCells_size, hP.zsize _ _ _ hi hz]
   ·split at h <;> cases h
  ·cases h
 ·rename_i e2 hxT
  simp only [Option.some.injEq, Prod.mk.injEq] at h
  obtain ⟨rfl, rfl⟩ := h
  obtain rfl := isAtom_rel hx rfl
  exact ⟨false, _, #[], append_slice h1 h2 h3 h4 hu hxT hi rfl, fun k => rfl, ARel.empty _, by simp⟩
 ·rename_i e2 b o l c hxT
  cases hal : aload P H b o (l * i.size) with
  | none => rw [hal] at h; cases h
  | some cs =>
   rw [hal] at h
   simp only [Option.map_some, Option.some.injEq, Prod.mk.injEq] at h
   obtain ⟨rfl, rfl⟩ := h
   have lenx : (Builtin.lenOf x').run P w = .ok l w := by cases hx <;> rfl
   by_cases hl : 0 < l
   ·obtain ⟨cs', g1, g2, g3⟩ := firstCells_run hw hx (Nat.le_refl _) hl hal
    refine ⟨false, _, cs', append_slice h1 h2 h3 h4 hu hxT hi lenx, fun k => ?_, g2, g3⟩
    obtain ⟨cs'', q1, _, _⟩ := firstCells_run (w := { w with drawn := w.drawn + k }) (hw.drawn rfl) hx (Nat.le_refl _) hl hal
    have : cs'' = cs' := by
     have e1 : (Builtin.firstCells i.size l x').run P { w with drawn := w.drawn + k } = .ok cs' { w with drawn := w.drawn + k } := by
      have shape : ∃ a' c', x' = .slice (some a') l c' := by
       cases hx with
       | atom ha => simp [isAtom] at ha
       | slice => exact ⟨_, _, rfl⟩
       | grown => exact ⟨_, _, rfl⟩
      obtain ⟨a', c', rfl⟩ := shape
      simp only [Builtin.firstCells] at g1 ⊢
      have key : ∀ (m j : Nat) (acc r : Array Value), (loadCellsFrom a' j m acc).run P w = .ok r w → (loadCellsFrom a' j m acc).run P { w with drawn := w.drawn + k } = .ok r { w with drawn := w.drawn + k } := by
       intro m
       induction m with
       | zero =>
        intro j acc r h
        simp only [loadCellsFrom, Pure.pure, Sem.run, Result.ok.injEq] at h ⊢
        exact ⟨h.1, trivial⟩
       | succ m ih =>
        intro j acc r h
        unfold loadCellsFrom at h ⊢
        change Sem.run P (Sem.bind _ _) _ = _ at h ⊢
        rw [run_bind'] at h ⊢
        have hcell : ∀ a, World.cell? { w with drawn := w.drawn + k } a = w.cell? a := fun _ => rfl
        have hfar : ∀ p a b, World.farLoad p { w with drawn := w.drawn + k } a b = w.farLoad p a b := fun _ _ _ => rfl
        simp only [load, Sem.run, hcell, hfar] at h ⊢
        cases hq : w.cell? (a'.add j) with
        | some u => rw [hq] at h; exact ih _ _ _ h
        | none =>
         rw [hq] at h
         simp only at h ⊢
         cases hf : w.farLoad P (a'.add j) (Mode.plain == Mode.atomic) with
         | error x => rw [hf] at h; cases h
         | ok u => rw [hf] at h; exact ih _ _ _ h
      exact key _ _ _ _ g1
     rw [e1] at q1
     cases q1
     rfl
    subst this
    exact q1
   ·obtain rfl : l = 0 := by omega
    have hcs : cs = #[] := by
     rw [Nat.zero_mul] at hal
     simp [aload, loadCells, loadCellsFrom, Pure.pure, arun] at hal
     first | exact hal | exact hal.symm
    subst hcs
    refine ⟨false, _, #[], append_slice h1 h2 h3 h4 hu hxT hi lenx, fun k => ?_, ARel.empty _, by simp⟩
    unfold appSem
    rw [if_pos (by simp)]
    cases hx with
    | atom ha => simp [isAtom] at ha
    | slice => simp [Builtin.firstCells, loadCells, loadCellsFrom, Pure.pure]
    | grown => simp [Builtin.firstCells, loadCells, loadCellsFrom, Pure.pure]
 ·cases h

end Go.Abs

/- The abstract machine: append, the theorem. -/
namespace Go.Abs
open Go Go.RowKit

variable {P : Program} {B : Nat} {ρ : Ren} {w : World}

theorem grow_rel {Hx : List AObj} {e : TypeId} {i : TypeInfo} {cs : List Value} {old new old' new' rest : Array Value} {k need newCap : Nat} (hw : WRel P B ρ Hx w) (hi : P.info? e = some i)
  (hcs : cs = (old ++ new).toList) (ho : ARel ρ old old') (hn : ARel ρ new new') (hsz : (old' ++ new' ++ rest).size = newCap * i.size) (hle : need ≤ newCap) :
  ∃ t, t.rb = w.heap.size ∧ WRel P B (ρ ++ [t]) (Hx ++ [.cells cs e true]) { w with drawn := w.drawn + k, heap := w.heap.push (.cells (old' ++ new' ++ rest) e) } ∧
   VRel (ρ ++ [t]) (.slice (some ⟨Hx.length, 0, none⟩) need (BIG + need)) (.slice (some ⟨w.heap.size, 0, none⟩) need newCap) := by
 have hst : szOf P e = i.size := by unfold szOf; rw [hi]; rfl
 refine ⟨⟨w.heap.size, 0, newCap * i.size, i.size⟩, rfl, ?_, ?_⟩
 ·have hw' : WRel P B ρ Hx { w with drawn := w.drawn + k } := hw.drawn rfl
  refine WRel.push (o := .cells (old' ++ new' ++ rest) e) hw' rfl ?_
  refine ⟨old' ++ new' ++ rest, (0, 0), by simp, fun _ => ⟨rfl, hw.base⟩, hsz, hst, fun j v hj => ?_⟩
  subst hcs
  have hr := (ho.append hn)
  obtain ⟨v', g1, g2⟩ := hr.get (i := j) (x := v) (by rw [← Array.getElem?_toList]; exact hj)
  refine ⟨v', ?_, g2.mono (List.prefix_append _ _)⟩
  rw [Nat.zero_add, Array.getElem?_append_left (Array.getElem?_eq_some_iff.1 g1).1]
  exact g1
 ·have ht : (ρ ++ [(⟨w.heap.size, 0, newCap * i.size, i.size⟩ : Ent)])[Hx.length]? = some ⟨w.heap.size, 0, newCap * i.size, i.size⟩ := by
   rw [List.getElem?_append_right (by rw [hw.len]; exact Nat.le_refl _), hw.len, Nat.sub_self]; rfl
  have := VRel.grown (o := 0) (len := need) (c := need) (o' := 0) (cap' := newCap) ht (Nat.le_refl _) hle (fun _ => rfl) (by simp)
  exact this

theorem Below.drewPush (w : World) (k : Nat) (o : Obj) (h : B ≤ w.heap.size) : Below B w { w with drawn := w.drawn + k, heap := w.heap.push o } :=
 ⟨rfl, rfl, rfl, by simp, fun j hj => by show (w.heap.push o)[j]? = _; rw [Array.getElem?_push, if_neg (by omega)]⟩

theorem builtin_append (hP : POk P) {st st1 : St} {ts : Array TypeId} {T : TypeId} {cs : Array Bool} {args args' : Array Value} {v : Value} (hw : WRel P B ρ st.H w) (ha : ARel ρ args args') (h : aAppend P st ts args = some (v, st1)) :
  Done P B ρ st w v st1 ((builtin .append ts T cs args').run P w) := by
 have wrap : ∀ (v' : Value) (w1 : World), (Builtin.append_ ts T args').run P w = .ok v' w1 → (builtin .append ts T cs args').run P w = .ok (.value v') w1 := by
  intro v' w1 hr
  unfold builtin
  simp only
  rw [run_bind_ok hr]
  rfl
 unfold aAppend at h
 split at h
 ·rename_i sT xT s x h1 h2 h3 h4
  obtain ⟨s', hs', hsr⟩ := ha.get h3
  obtain ⟨x', hx', hxr⟩ := ha.get h4
  split at h
  ·cases h
  ·rename_i e he
   have hu := elemOf_some he
   split at h
   ·cases h
   ·rename_i i hi
    split at h
    ·rename_i z n new hz happ
     have hzs := hP.zsize _ _ _ hi hz
     split at h
     ·-- append to nil
      obtain rfl := isAtom_rel hsr rfl
      obtain ⟨zeros, app, new', hstart, hrun, hnr, hns⟩ := appended_run (T := T) hP hw h1 h2 hs' hx' hu hi hz hxr happ
      split at h
      ·rename_i h0
       subst h0
       simp only [Option.some.injEq, Prod.mk.injEq] at h
       obtain ⟨rfl, rfl⟩ := h
       refine Done.same hw (wrap _ w ?_) (.atom rfl)
       rw [hstart]
       exact tail_nil (by omega) (hrun 0)
      ·rename_i h0
       split at h
       ·rename_i hc
        obtain ⟨c1, c2, _⟩ := hc
        simp only [Option.some.injEq, Prod.mk.injEq] at h
        obtain ⟨rfl, rfl⟩ := h
        obtain ⟨newCap, k, hle, hr⟩ := tail_grow (sLen := 0) (sCap := 0) (n := n) (zeros := zeros) (base := none) (s := .slice none 0 0) (x := x') (app := app) (old := #[]) (new := new') (w := w) hi hz (by omega) (by simpa using c1) (by simpa using c2) (fun k => rfl) hrun
        rw [Nat.zero_add] at hle hr
        obtain ⟨t, g0, g1, g2⟩ := grow_rel (k := k) (cs := new.toList) (old := #[]) (old' := #[]) (rest := Builtin.zeroCells z.cells (newCap - n)) (newCap := newCap) hw hi (by simp) (ARel.empty ρ) hnr (by
         simp only [Array.empty_append, Array.size_append, zeroCells_size, ← hnr.1, hns, hzs]
         rw [← Nat.add_mul]; congr 1; omega) hle
        refine ⟨Nat.le_refl _, _, _, _, .inl (wrap _ _ (hstart.trans hr)), ⟨List.prefix_append _ _, g1, Below.drewPush w k _ hw.base, fun b hb hbl => by rw [List.getElem?_append_left hbl], fun b t' o hb ht ho hl => ?_, by simp, Frames.push hw.len _ (by omega) (fun j hj => by show (w.heap.push _)[j]? = _; rw [Array.getElem?_push, if_neg (by omega)])⟩, g2⟩
        have := (hw.blk b t' o ht ho).lt hl
        show (w.heap.push _)[t'.rb]? = _
        rw [Array.getElem?_push, if_neg (by omega)]
       ·cases h
     ·-- append to what is there
      rename_i b o len cap
      split at h
      ·cases h
      ·rename_i hbs
       have hbs : blockSz P st.H b = some i.size := by simpa using hbs
       have shape : ∃ t o' cap', ρ[b]? = some t ∧ s' = .slice (some ⟨t.rb, o', none⟩) len cap' ∧ t.sz = i.size ∧
         ((cap < BIG ∧ cap' = cap ∧ o' = t.ro + o) ∨ (¬ cap < BIG ∧ len ≤ cap - BIG ∧ cap - BIG ≤ cap' ∧ (0 < cap - BIG → o' = t.ro + o) ∧ o' + cap' * t.sz ≤ t.rn)) := by
        cases hsr with
        | atom hat => simp [isAtom] at hat
        | slice ht hc => exact ⟨_, _, _, ht, rfl, hw.blockSz ht hbs, .inl ⟨hc, rfl, rfl⟩⟩
        | grown ht hl hc ho hn =>
         rename_i c o' cap' t
         refine ⟨_, _, _, ht, rfl, hw.blockSz ht hbs, .inr ⟨by omega, ?_, ?_, ?_, hn⟩⟩ <;> rw [show BIG + c - BIG = c by omega]
         ·exact hl
         ·exact hc
         ·exact ho
       obtain ⟨t, o', cap', ht, rfl, hsz, hcase⟩ := shape
       obtain ⟨zeros, app, new', hstart, hrun, hnr, hns⟩ := appended_run (T := T) hP hw h1 h2 hs' hx' hu hi hz hxr happ
       dsimp only at h
       have hcle : (if cap < BIG then cap else cap - BIG) ≤ cap' := by
        rcases hcase with ⟨q1, q2, _⟩ | ⟨q1, _, q3, _⟩
        ·rw [if_pos q1]; omega
        ·rw [if_neg q1]; exact q3
       generalize hcd : (if cap < BIG then cap else cap - BIG) = c at h hcle
       split at h
       ·-- in place
        rename_i hfit
        rw [← hcd] at hfit
        cases has : astore P st b (o + len * i.size) new with
        | none => rw [has] at h; cases h
        | some st2 =>
         rw [has] at h
         simp only [Option.map_some, Option.some.injEq, Prod.mk.injEq] at h
         obtain ⟨rfl, rfl⟩ := h
         by_cases hpos : cap < BIG ∨ 0 < cap - BIG
         ·have ho' : o' = t.ro + o := by
           rcases hcase with ⟨_, _, q⟩ | ⟨q1, _, _, q, _⟩
           ·exact q
           ·exact q (by omega)
          subst ho'
          obtain ⟨hlo, ρ1, w1, hr1, hm⟩ := astore_run hw ht hnr has
          refine ⟨hlo, ρ1, _, w1, .inl (wrap _ w1 (hstart.trans (tail_room (by omega) (hrun 0) ?_))), hm, ?_⟩
          ·rw [addr_add, Nat.add_assoc]; exact hr1
          ·rcases hcase with ⟨q1, q2, _⟩ | ⟨q1, q2, q3, q4, q5⟩
           ·subst q2
            exact .slice (prefix_get hm.ext ht) q1
           ·rw [if_neg q1] at hfit
            have := VRel.grown (ρ := ρ1) (o := o) (len := len + n) (c := cap - BIG) (o' := t.ro + o) (cap' := cap') (prefix_get hm.ext ht) (by omega) q3 q4 q5
            rwa [show BIG + (cap - BIG) = cap by omega] at this
         ·have hn0 : n = 0 := by
           rcases hcase with ⟨q1, _, _⟩ | ⟨q1, q2, _⟩
           ·exact absurd (Or.inl q1) hpos
           ·rw [if_neg q1] at hfit; omega
          subst hn0
          have hnew : new = #[] := by
           have : new.size = 0 := by rw [hns, Nat.zero_mul]
           exact Array.eq_empty_of_size_eq_zero this
          subst hnew
          have hnew' : new' = #[] := by
           have : new'.size = 0 := by rw [← hnr.1]; rfl
           exact Array.eq_empty_of_size_eq_zero this
          subst hnew'
          have hst : st2 = st := by
           simp [astore, storeCells, Pure.pure, arun] at has
           first | exact has | exact has.symm
          subst hst
          refine Done.same hw (wrap _ w (hstart.trans (tail_room (by omega) (hrun 0) rfl))) ?_
          rcases hcase with ⟨q1, _, _⟩ | ⟨q1, q2, q3, q4, q5⟩
          ·exact absurd (Or.inl q1) hpos
          ·rw [if_neg q1] at hfit
           have := VRel.grown (ρ := ρ) (o := o) (len := len + 0) (c := cap - BIG) (o' := o') (cap' := cap') ht (by omega) q3 q4 q5
           rwa [show BIG + (cap - BIG) = cap by omega] at this
       ·rename_i hfit
        rw [← hcd] at hfit hcle
        split at h
        ·rename_i hc
         obtain ⟨c1, c2, c3, _⟩ := hc
         cases hal : aload P st.H b o (len * i.size) with
         | none => rw [hal] at h; cases h
         | some old =>
          rw [hal] at h
          simp only [Option.bind_some] at h
          have hold : ∃ old', ARel ρ old old' ∧ old.size = len * i.size ∧ (∀ k, (Builtin.firstCells i.size len (.slice (some ⟨t.rb, o', none⟩) len cap')).run P { w with drawn := w.drawn + k } = .ok old' { w with drawn := w.drawn + k }) := by
           by_cases hl0 : 0 < len
           ·have ho' : o' = t.ro + o := by
             rcases hcase with ⟨_, _, q⟩ | ⟨q1, q2, _, q, _⟩
             ·exact q
             ·exact q (by omega)
            subst ho'
            obtain ⟨old', q1, q2, q3⟩ := aload_run (w := w) hw ht hal
            refine ⟨old', q2, q3, fun k => ?_⟩
            have key : ∀ (m j : Nat) (acc r : Array Value), (loadCellsFrom ⟨t.rb, t.ro + o, none⟩ j m acc).run P w = .ok r w → (loadCellsFrom ⟨t.rb, t.ro + o, none⟩ j m acc).run P { w with drawn := w.drawn + k } = .ok r { w with drawn := w.drawn + k } := by
             intro m
             induction m with
             | zero =>
              intro j acc r h
              simp only [loadCellsFrom, Pure.pure, Sem.run, Result.ok.injEq] at h ⊢
              exact ⟨h.1, trivial⟩
             | succ m ih =>
              intro j acc r h
              unfold loadCellsFrom at h ⊢
              change Sem.run P (Sem.bind _ _) _ = _ at h ⊢
              rw [run_bind'] at h ⊢
              have hcell : ∀ a, World.cell? { w with drawn := w.drawn + k } a = w.cell? a := fun _ => rfl
              have hfar : ∀ p a b, World.farLoad p { w with drawn := w.drawn + k } a b = w.farLoad p a b := fun _ _ _ => rfl
              simp only [load, Sem.run, hcell, hfar] at h ⊢
              cases hq : w.cell? ((Addr.mk t.rb (t.ro + o) none).add j) with
              | some u => rw [hq] at h; exact ih _ _ _ h
              | none =>
               rw [hq] at h
               simp only at h ⊢
               cases hf : w.farLoad P ((Addr.mk t.rb (t.ro + o) none).add j) (Mode.plain == Mode.atomic) with
               | error x => rw [hf] at h; cases h
               | ok u => rw [hf] at h; exact ih _ _ _ h
            exact key _ _ _ _ q1
           ·obtain rfl : len = 0 := by omega
            have hcs : old = #[] := by
             rw [Nat.zero_mul] at hal
             simp [aload, loadCells, loadCellsFrom, Pure.pure, arun] at hal
             first | exact hal | exact hal.symm
            subst hcs
            refine ⟨#[], ARel.empty ρ, by simp, fun k => ?_⟩
            simp only [Builtin.firstCells, Nat.zero_mul]
            rfl
          obtain ⟨old', hor, hos, hoR⟩ := hold
          have sizes : ∀ newCap, len + n ≤ newCap → (old' ++ new' ++ Builtin.zeroCells z.cells (newCap - (len + n))).size = newCap * i.size := by
           intro newCap hle
           simp only [Array.size_append, zeroCells_size, ← hnr.1, ← hor.1, hns, hos, hzs]
           rw [← Nat.add_mul, ← Nat.add_mul]; congr 1; omega
          split at h
          ·-- grows, the old array stays
           rename_i hex
           simp only [Option.some.injEq, Prod.mk.injEq] at h
           obtain ⟨rfl, rfl⟩ := h
           have hcap : cap' = cap := by
            rcases hcase with ⟨_, q, _⟩ | ⟨q, _⟩
            ·exact q
            ·exact absurd hex q
           subst hcap
           rw [if_pos hex] at hfit
           obtain ⟨newCap, k, hle, hr⟩ := tail_grow (sLen := len) (sCap := cap') (n := n) (zeros := zeros) (base := some ⟨t.rb, o', none⟩) (s := .slice (some ⟨t.rb, o', none⟩) len cap') (x := x') (app := app) (old := old') (new := new') (w := w) hi hz (by omega) c1 c2 hoR hrun
           obtain ⟨tt, g0, g1, g2⟩ := grow_rel (k := k) hw hi rfl hor hnr (sizes newCap hle) hle
           refine ⟨Nat.le_refl _, _, _, _, .inl (wrap _ _ (hstart.trans hr)), ⟨List.prefix_append _ _, g1, Below.drewPush w k _ hw.base, fun b hb hbl => by rw [List.getElem?_append_left hbl], fun b t' o hb ht ho hl => ?_, by simp, Frames.push hw.len _ (by omega) (fun j hj => by show (w.heap.push _)[j]? = _; rw [Array.getElem?_push, if_neg (by omega)])⟩, g2⟩
           have := (hw.blk b t' o ht ho).lt hl
           show (w.heap.push _)[t'.rb]? = _
           rw [Array.getElem?_push, if_neg (by omega)]
          ·rename_i hex
           split at h
           ·rename_i cc ee hblk
            split at h
            ·cases h
            ·rename_i hone
             simp only [Bool.or_eq_true, bne_iff_ne, ne_eq, Bool.not_eq_true', not_or, Decidable.not_not] at hone
             obtain ⟨hee, hone⟩ := hone
             subst hee
             simp only [Option.some.injEq, Prod.mk.injEq] at h
             obtain ⟨rfl, rfl⟩ := h
             obtain ⟨q1, q2, q3, q4, q5⟩ : ¬ cap < BIG ∧ len ≤ cap - BIG ∧ cap - BIG ≤ cap' ∧ (0 < cap - BIG → o' = t.ro + o) ∧ o' + cap' * t.sz ≤ t.rn := by
              rcases hcase with ⟨q, _⟩ | q
              ·exact absurd q hex
              ·exact q
             rw [if_neg q1] at hfit
             have hblt : b < st.H.length := hw.lt ht
             have hkill : WRel P B ρ (st.H.set b .dead) w := hw.setBlock ht hblk rfl rfl (fun _ _ => rfl) trivial
             have klen : (st.H.set b .dead).length = st.H.length := by simp
             by_cases hin : len + n ≤ cap'
             ·-- the real array has room
              obtain ⟨C, fz, hC, hrw, hCn, hCe, hCv⟩ := hw.blk _ _ _ ht hblk
              obtain ⟨hfz, hB⟩ := hrw rfl
              subst hfz
              have hmul : (len + n) * i.size ≤ cap' * t.sz := by rw [hsz]; exact Nat.mul_le_mul_right _ hin
              have hmul2 : (len + n) * i.size = len * i.size + n * i.size := Nat.add_mul _ _ _
              have hnl : new'.toList.length = n * i.size := by rw [Array.length_toList, ← hnr.1, hns]
              obtain ⟨w', C', r1, r2, r3, r4, r5, r6, r7, r8⟩ := real_store (P := P) (o := o' + len * i.size) new'.toList 0 w C hC (by omega) (fun u hu => by
               obtain ⟨j, hj, rfl⟩ := List.getElem_of_mem hu
               have hj' : j < new'.size := by simpa using hj
               have hj2 : j < new.size := by rw [hnr.1]; exact hj'
               have hrel := hnr.2 j
               simp [hj', hj2] at hrel
               have h1' : new.toList.all (·.oneCell) = true := by simpa using hone
               have h2' := List.all_eq_true.1 h1' new[j] (by simp)
               simp only [Array.getElem_toList]
               rw [oneCell_rel hrel]; exact h2')
              have hlt : t.rb < w.heap.size := (Array.getElem?_eq_some_iff.1 hC).1
              have hk2 : WRel P B ρ (st.H.set b .dead) w' := by
               refine hw.setBlock ht hblk rfl r7 (fun j hj => r6 j hj) trivial
              let t1 : Ent := ⟨t.rb, o', t.rn, t.sz⟩
              refine ⟨Nat.min_le_left _ _, ρ ++ [t1], .slice (some ⟨t.rb, o', none⟩) (len + n) cap', w', .inl (wrap _ w' (hstart.trans (tail_room hin (hrun 0) ?_))), ⟨List.prefix_append _ _, ?_, r8 B hB, ?_, ?_, by simp, Frames.adopt (t1 := t1) hw.len ht hblk rfl rfl (.cells (old ++ new).toList ee true) (fun j hj => r6 j hj)⟩, ?_⟩
              ·rw [addr_add]; exact r1
              ·refine hk2.adopt (t := t1) ?_ ?_
               ·intro b2 t2 o2 hb2 ho2 hl2
                by_cases hbb : b2 = b
                ·subst hbb
                 rw [List.getElem?_set_self hblt] at ho2
                 cases ho2; cases hl2
                ·rw [List.getElem?_set_ne (by omega)] at ho2
                 exact fun e' => hw.inj b b2 t t2 _ o2 (by omega) ht hb2 hblk ho2 rfl hl2 e'.symm
               ·refine ⟨C', (0, 0), r2, fun _ => ⟨rfl, hB⟩, by rw [r3]; exact hCn, hCe, ?_⟩
                ·intro j u hj
                 have hju : (old ++ new)[j]? = some u := by rw [← Array.getElem?_toList]; exact hj
                 by_cases hjl : j < len * i.size
                 ·rw [Array.getElem?_append_left (by omega)] at hju
                  rw [aload_get hblk hal j hjl] at hju
                  obtain ⟨u', k1, k2⟩ := hCv _ _ hju
                  have ho' : o' = t.ro + o := q4 (by
                   have : 0 < len := by
                    rcases Nat.eq_zero_or_pos len with h | h
                    ·subst h; simp at hjl
                    ·exact h
                   omega)
                  refine ⟨u', ?_, k2.mono (List.prefix_append _ _)⟩
                  show C'[o' + j]? = _
                  rw [r4 _ (by omega), ho', Nat.add_assoc]
                  exact k1
                 ·rw [Array.getElem?_append_right (by omega)] at hju
                  obtain ⟨u', k1, k2⟩ := hnr.get hju
                  refine ⟨u', ?_, k2.mono (List.prefix_append _ _)⟩
                  have := r5 (j - old.size) u' (by simpa using k1)
                  show C'[o' + j]? = _
                  rw [← this]; congr 1; omega
              ·intro b2 hb2 hbl2
               simp only [Nat.lt_min] at hb2
               rw [List.getElem?_append_left (by rw [klen]; exact hbl2), List.getElem?_set_ne (by omega)]
              ·intro b2 t2 o2 hb2 ht2 ho2 hl2
               simp only [Nat.lt_min] at hb2
               exact r6 _ (fun e' => hw.inj b b2 t t2 _ o2 (by omega) ht ht2 hblk ho2 rfl hl2 e'.symm)
              ·have htt : (ρ ++ [t1])[(st.H).length]? = some t1 := by
                rw [List.getElem?_append_right (by rw [hw.len]; exact Nat.le_refl _), hw.len, Nat.sub_self]; rfl
               exact VRel.grown (t := t1) (o := 0) (len := len + n) (c := len + n) (o' := o') (cap' := cap') htt (Nat.le_refl _) hin (fun _ => rfl) q5
             ·-- the real array is full too
              obtain ⟨newCap, k, hle, hr⟩ := tail_grow (sLen := len) (sCap := cap') (n := n) (zeros := zeros) (base := some ⟨t.rb, o', none⟩) (s := .slice (some ⟨t.rb, o', none⟩) len cap') (x := x') (app := app) (old := old') (new := new') (w := w) hi hz (by omega) c1 c2 hoR hrun
              obtain ⟨tt, g0, g1, g2⟩ := grow_rel (k := k) hkill hi rfl hor hnr (sizes newCap hle) hle
              rw [klen] at g2
              refine ⟨Nat.min_le_left _ _, _, _, _, .inl (wrap _ _ (hstart.trans hr)), ⟨List.prefix_append _ _, g1, Below.drewPush w k _ hw.base, fun b2 hb2 hbl2 => ?_, fun b2 t' o2 hb2 ht2 ho2 hl2 => ?_, by simp, (Frames.set ht hblk rfl (fun _ _ => rfl) .dead).trans (Frames.push (by simp [hw.len]) _ (by omega) (fun j hj => by show (w.heap.push _)[j]? = _; rw [Array.getElem?_push, if_neg (by omega)])) (Nat.le_refl _)⟩, g2⟩
              ·simp only [Nat.lt_min] at hb2
               rw [List.getElem?_append_left (by rw [klen]; exact hbl2), List.getElem?_set_ne (by omega)]
              ·have := (hw.blk b2 t' o2 ht2 ho2).lt hl2
               show (w.heap.push _)[t'.rb]? = _
               rw [Array.getElem?_push, if_neg (by omega)]
           ·cases h
        ·cases h
     ·cases h
    ·cases h
 ·cases h

end Go.Abs

/- The abstract machine: ranging over a map of one entry at most, delete, bytes to a string. -/
namespace Go.Abs
open Go Go.RowKit

variable {P : Program} {B : Nat} {ρ : Ren} {H : List AObj} {w : World}

theorem push_moved {st : St} (hw : WRel P B ρ st.H w) {o : Obj} {ob : AObj} {t : Ent} (ht : t.rb = w.heap.size) (ho : ORel P B (ρ ++ [t]) t ob { w with heap := w.heap.push o }) :
  Moved P B ρ st.H w (ρ ++ [t]) (st.H ++ [ob]) st.lo { w with heap := w.heap.push o } := by
 refine ⟨List.prefix_append _ _, hw.push ht ho, (Below.refl B w).alloc hw.base _, ?_, ?_, by simp, Frames.push hw.len _ (Nat.le_of_eq ht.symm) (heap_push_old _ _)⟩
 ·intro b hb hbl
  rw [List.getElem?_append_left hbl]
 ·intro b t o hb ht ho hl
  have := (hw.blk b t o ht ho).lt hl
  show (w.heap.push _)[t.rb]? = _
  rw [Array.getElem?_push, if_neg (by omega)]

theorem set_moved {st : St} (hw : WRel P B ρ st.H w) {b : Nat} {t : Ent} {o o' : AObj} {ob : Obj} (ht : ρ[b]? = some t) (hb : st.H[b]? = some o) (hrw : o.rw = true)
  (hn : ORel P B ρ t o' { w with heap := w.heap.setIfInBounds t.rb ob }) (hbase : B ≤ t.rb) :
  Moved P B ρ st.H w ρ (st.H.set b o') (min st.lo b) { w with heap := w.heap.setIfInBounds t.rb ob } := by
 have hk : ∀ j, j ≠ t.rb → ({ w with heap := w.heap.setIfInBounds t.rb ob } : World).heap[j]? = w.heap[j]? := fun j hj => by
  show (w.heap.setIfInBounds _ _)[j]? = _
  rw [Array.getElem?_setIfInBounds_ne (by omega)]
 refine ⟨List.prefix_refl _, hw.setBlock ht hb hrw (by simp) hk hn, ⟨rfl, rfl, rfl, by simp, fun j hj => hk j (by omega)⟩, ?_, ?_, by simp, Frames.set ht hb hrw hk _⟩
 ·intro j hj _
  simp only [Nat.lt_min] at hj
  rw [List.getElem?_set_ne (by omega)]
 ·intro j t' o' hj ht' ho' hl'
  simp only [Nat.lt_min] at hj
  exact hk _ (fun e => hw.inj b j _ t' _ o' (by omega) ht ht' hb ho' hrw hl' e.symm)

theorem op_range {st : St} {t : TypeId} {x x' : Value} {ob : AObj} (hw : WRel P B ρ st.H w) (h : aRange P st.H t x = some ob) (hx : VRel ρ x x') :
  ∃ ρ1 v' w1, (Instr.range t x').run P w = .ok v' w1 ∧ Moved P B ρ st.H w ρ1 (st.H ++ [ob]) st.lo w1 ∧ VRel ρ1 (.pointer (some ⟨st.H.length, 0, none⟩)) v' := by
 have last : ∀ u : Ent, (ρ ++ [u])[st.H.length]? = some u := fun u => by
  rw [← hw.len, List.getElem?_append_right (Nat.le_refl _), Nat.sub_self]
  rfl
 unfold aRange at h
 split at h
 ·rename_i key elem hu
  simp only [Option.some.injEq] at h
  subst h
  obtain rfl := isAtom_rel hx rfl
  refine ⟨ρ ++ [⟨w.heap.size, 0, 0, 0⟩], .pointer (some ⟨w.heap.size, 0, none⟩), _, ?_, push_moved (o := .mapIter none 0 #[] 0) hw rfl ⟨none, by simp, rfl, rfl, hw.base⟩, .ptr (o := 0) (last _)⟩
  unfold Instr.range
  rw [run_bind_ok (run_underlying hu w)]
  rfl
 ·rename_i key elem b hu
  split at h
  ·rename_i es clock hb
   simp only [Option.some.injEq] at h
   subst h
   cases hx with
   | atom ha => simp [isAtom] at ha
   | map hm =>
    rename_i u
    obtain ⟨es', hbl, -, hes⟩ := hw.blk _ _ _ hm hb
    refine ⟨ρ ++ [⟨w.heap.size, 0, 0, 0⟩], .pointer (some ⟨w.heap.size, 0, none⟩), _, ?_, push_moved (o := .mapIter (some u.rb) clock #[] clock) hw rfl ⟨some u.rb, by simp, ⟨u, prefix_get (List.prefix_append _ _) hm, rfl⟩, rfl, hw.base⟩, .ptr (o := 0) (last _)⟩
    unfold Instr.range
    rw [run_bind_ok (run_underlying hu w)]
    simp only
    rw [run_bind_ok (a := .map es' clock) (w1 := w) (by simp only [getObj, Sem.run, hbl])]
    rfl
  ·cases h
 ·cases h

theorem EsRel.filter {p : Nat → Bool} : ∀ {es es' : List MapEntry}, EsRel ρ es es' → EsRel ρ (es.filter fun e => p e.born) (es'.filter fun e => p e.born)
 | [], [], _ => trivial
 | e :: es, e' :: es', ⟨⟨h1, h2, h3, h4⟩, h5⟩ => by
  have ih := EsRel.filter (p := p) h5
  simp only [List.filter_cons, h3]
  split
  ·exact ⟨⟨h1, h2, h3, h4⟩, ih⟩
  ·exact ih
 | [], _ :: _, h => h.elim
 | _ :: _, [], h => h.elim

theorem EsRel.all {p : Nat → Bool} : ∀ {es es' : List MapEntry}, EsRel ρ es es' → (es'.all fun e => p e.born) = es.all fun e => p e.born
 | [], [], _ => rfl
 | e :: es, e' :: es', ⟨⟨h1, h2, h3, h4⟩, h5⟩ => by
  simp only [List.all_cons, h3, EsRel.all (p := p) h5]
 | [], _ :: _, h => h.elim
 | _ :: _, [], h => h.elim

theorem EsRel.find {n : Nat} : ∀ {es es' : List MapEntry} {e : MapEntry}, EsRel ρ es es' → es.find? (fun e => e.born == n) = some e → ∃ e', es'.find? (fun e => e.born == n) = some e' ∧ closed e.key = true ∧ e'.key = e.key ∧ VRel ρ e.val e'.val
 | [], [], _, _, h => by simp at h
 | e :: es, e' :: es', x, ⟨⟨h1, h2, h3, h4⟩, h5⟩, h => by
  simp only [List.find?_cons, h3] at h ⊢
  split at h
  ·rename_i hb
   simp only [Option.some.injEq] at h
   subst h
   exact ⟨e', rfl, h1, h2, h4⟩
  ·rename_i hb
   exact EsRel.find h5 h
 | [], _ :: _, _, h, _ => h.elim
 | _ :: _, [], _, h, _ => h.elim

theorem run_choose_one {α : Type} {n : Nat} {k : Nat → Sem α} (h : n ≤ 1) (w : World) : (choose (.mapNext n) >>= k).run P w = (k 0).run P w := by
 show Sem.run P (Sem.bind (.choose (.mapNext n) .pure) k) w = _
 simp only [Sem.bind, Sem.run, Question.forced, h, decide_true, if_true]

theorem ptr_iter {r : Nat} {v' : Value} (hx : VRel ρ (.pointer (some ⟨r, 0, none⟩)) v') : ∃ t, ρ[r]? = some t ∧ v' = .pointer (some ⟨t.rb, t.ro + 0, none⟩) := by
 cases hx with
 | atom ha => simp [isAtom] at ha
 | ptr ht => exact ⟨_, ht, rfl⟩

theorem op_next {st st1 : St} {it it' v : Value} (ty : TypeId) (hw : WRel P B ρ st.H w) (h : aNext st it = some (v, st1)) (hx : VRel ρ it it') :
  st1.lo ≤ st.lo ∧ ∃ v' w1, (Instr.next it' false ty).run P w = .ok v' w1 ∧ Moved P B ρ st.H w ρ st1.H st1.lo w1 ∧ VRel ρ v v' := by
 unfold aNext at h
 split at h
 ·rename_i r
  obtain ⟨t, ht, rfl⟩ := ptr_iter hx
  split at h
  ·rename_i since seen last hr
   simp only [Option.some.injEq, Prod.mk.injEq] at h
   obtain ⟨rfl, rfl⟩ := h
   obtain ⟨m', h1, rfl, h3, h4⟩ := hw.blk _ _ _ ht hr
   refine ⟨Nat.le_refl _, _, w, ?_, Moved.refl hw _, closed_rel ρ 4 _ rfl⟩
   rw [h3]
   show Sem.run P (Sem.bind _ _) w = _
   simp only [getObj, Sem.bind, Sem.run, h1]
   rfl
  ·rename_i b since seen last hr
   obtain ⟨m', h1, ⟨u, hu, rfl⟩, h3, h4⟩ := hw.blk _ _ _ ht hr
   split at h
   ·rename_i es clock hb
    obtain ⟨es', g1, -, g3⟩ := hw.blk _ _ _ hu hb
    split at h
    ·cases h
    ·rename_i hno
     have hall := g3.all (p := fun n => decide (n ≥ last))
     have hlen := g3.len
     have hno' : (!seen.toArray.isEmpty && !es'.isEmpty && es'.all (fun e => decide (e.born ≥ last))) = false := by
      have e1 : es'.isEmpty = es.isEmpty := by
       rw [Bool.eq_iff_iff, Array.isEmpty_iff_size_eq_zero, List.isEmpty_iff, ← List.length_eq_zero_iff]
       rw [Array.length_toList] at hlen
       omega
      have e2 : es'.all (fun e => decide (e.born ≥ last)) = es.all fun e => decide (e.born ≥ last) := by
       rw [← hall, Array.all_toList]
      rw [e1, e2]
      have : seen.toArray.isEmpty = seen.isEmpty := by simp
      rw [this]
      simpa using hno
     have hl := g3.filter (p := fun n => !seen.contains n)
     have hleft : (es'.filter fun e => !seen.toArray.contains e.born).toList = es'.toList.filter fun e => !seen.contains e.born := by
      rw [Array.toList_filter]
      simp
     -- what is left, the same on both sides
     have run : ∀ (L : Array MapEntry), (es'.filter fun e => !seen.toArray.contains e.born) = L →
       (Instr.next (.pointer (some ⟨t.rb, t.ro + 0, none⟩)) false ty).run P w =
        Sem.run P (do
         let old := L.filter (·.born < since)
         let new := L.filter (·.born ≥ since)
         let candidates := (if old.isEmpty then #[none] else #[]) ++ (old ++ new).map some
         match candidates[← choose (.mapNext candidates.size)]? with
         | some (some e) =>
          setObj t.rb (.mapIter (some u.rb) since (seen.toArray.push e.born) clock)
          pure (.tuple #[.bool true, e.key, e.val])
         | some none => pure (.tuple #[.bool false])
         | none => stuck "Next: no such candidate") w := by
      intro L hL
      subst hL
      rw [h3]
      unfold Instr.next
      show Sem.run P (Sem.bind (getObj t.rb) _) w = _
      rw [run_bind']
      simp only [getObj, Sem.run, h1]
      show Sem.run P (Sem.bind (getObj u.rb) _) w = _
      rw [run_bind']
      simp only [getObj, Sem.run, g1, hno']
      rfl
     split at h
     ·rename_i hlf
      simp only [Option.some.injEq, Prod.mk.injEq] at h
      obtain ⟨rfl, rfl⟩ := h
      refine ⟨Nat.le_refl _, _, w, ?_, Moved.refl hw _, closed_rel ρ 4 _ rfl⟩
      have hz : (es'.filter fun e => !seen.toArray.contains e.born) = #[] := by
       apply Array.toList_inj.1
       rw [hleft]
       have hl2 : EsRel ρ [] (es'.toList.filter fun e => !seen.contains e.born) := by
        have := hl
        unfold leftOf at hlf
        rw [hlf] at this
        exact this
       cases hq : es'.toList.filter fun e => !seen.contains e.born with
       | nil => rfl
       | cons a as => rw [hq] at hl2; exact hl2.elim
      rw [run _ hz]
      have o1 : ((#[] : Array MapEntry).filter fun x => decide (x.born < since)) = #[] := by simp
      have o2 : ((#[] : Array MapEntry).filter fun x => decide (x.born ≥ since)) = #[] := by simp
      simp only [o1, o2]
      refine (run_choose_one ?_ w).trans ?_
      ·simp
      ·have hc : (((if (#[] : Array MapEntry).isEmpty then #[none] else #[]) ++ (#[] ++ #[]).map some) : Array (Option MapEntry))[0]? = some none := by simp
       simp only [hc]
       rfl
     ·rename_i e hlf
      split at h
      ·rename_i hlt
       simp only [Option.some.injEq, Prod.mk.injEq] at h
       obtain ⟨rfl, rfl⟩ := h
       have hl2 : EsRel ρ [e] (es'.toList.filter fun e => !seen.contains e.born) := by
        have := hl
        unfold leftOf at hlf
        rw [hlf] at this
        exact this
       obtain ⟨e', he', q1, q2, q3, q4⟩ : ∃ e', (es'.toList.filter fun e => !seen.contains e.born) = [e'] ∧ closed e.key = true ∧ e'.key = e.key ∧ e'.born = e.born ∧ VRel ρ e.val e'.val := by
        cases hq : es'.toList.filter fun e => !seen.contains e.born with
        | nil => rw [hq] at hl2; exact hl2.elim
        | cons a as =>
         rw [hq] at hl2
         obtain ⟨⟨k1, k2, k3, k4⟩, k5⟩ := hl2
         cases as with
         | nil => exact ⟨a, rfl, k1, k2, k3, k4⟩
         | cons _ _ => exact k5.elim
       have hz : (es'.filter fun e => !seen.toArray.contains e.born) = #[e'] := by
        apply Array.toList_inj.1
        rw [hleft, he']
       have hrb : t.rb < w.heap.size := (Array.getElem?_eq_some_iff.1 h1).1
       refine ⟨Nat.min_le_left _ _, .tuple #[.bool true, e'.key, e'.val], { w with heap := w.heap.setIfInBounds t.rb (.mapIter (some u.rb) since (seen.toArray.push e'.born) clock) }, ?_, ?_, ?_⟩
       ·rw [run _ hz]
        have o1 : (#[e'].filter fun x => decide (x.born < since)) = #[e'] := by simp [q3, hlt]
        have o2 : (#[e'].filter fun x => decide (x.born ≥ since)) = #[] := by
         have : ¬ since ≤ e.born := by omega
         simp [q3, this]
        simp only [o1, o2]
        refine (run_choose_one ?_ w).trans ?_
        ·simp
        have hc : (((if (#[e'] : Array MapEntry).isEmpty then #[none] else #[]) ++ (#[e'] ++ #[]).map some) : Array (Option MapEntry))[0]? = some (some e') := by simp
        simp only [hc]
        show Sem.run P (Sem.bind (setObj _ _) _) w = _
        rw [run_bind']
        simp only [setObj, Sem.run, h1]
        rfl
       ·refine set_moved hw ht hr rfl ⟨some u.rb, ?_, ⟨u, hu, rfl⟩, h3, h4⟩ h4
        show (w.heap.setIfInBounds _ _)[t.rb]? = _
        rw [Array.getElem?_setIfInBounds_self_of_lt hrb, q3]
        simp
       ·refine .tuple rfl fun n => ?_
        match n with
        | 0 => exact .atom rfl
        | 1 =>
         show VRel ρ e.key e'.key
         rw [q2]
         exact closed_rel ρ 4 _ q1
        | 2 => exact q4
        | n + 3 => exact .nil
      ·cases h
     ·cases h
   ·cases h
  ·cases h
 ·cases h

theorem op_entry {it it' v : Value} (hw : WRel P B ρ H w) (h : aEntry H it = some v) (hx : VRel ρ it it') :
  ∃ v', (Instr.entry it').run P w = .ok v' w ∧ VRel ρ v v' := by
 unfold aEntry at h
 split at h
 ·rename_i r
  obtain ⟨t, ht, rfl⟩ := ptr_iter hx
  split at h
  ·rename_i b since seen stepped hr
   obtain ⟨m', h1, ⟨u, hu, rfl⟩, h3, h4⟩ := hw.blk _ _ _ ht hr
   split at h
   ·rename_i stamp es clock hs hb
    obtain ⟨es', g1, -, g3⟩ := hw.blk _ _ _ hu hb
    split at h
    ·rename_i hc
     subst hc
     obtain ⟨e, he, rfl⟩ := Option.map_eq_some_iff.1 h
     obtain ⟨e', q1, q2, q3, q4⟩ := g3.find he
     refine ⟨.tuple #[e'.key, e'.val], ?_, .tuple rfl fun n => ?_⟩
     ·rw [h3]
      unfold Instr.entry
      show Sem.run P (Sem.bind (getObj t.rb) _) w = _
      rw [run_bind']
      simp only [getObj, Sem.run, h1]
      have hbk : seen.toArray.back? = some stamp := by simpa using hs
      simp only [hbk]
      show Sem.run P (Sem.bind (getObj u.rb) _) w = _
      rw [run_bind']
      simp only [getObj, Sem.run, g1]
      have hf : es'.find? (fun e => e.born == stamp) = some e' := by rw [← Array.find?_toList]; exact q1
      simp only [hf]
      simp
     ·match n with
      | 0 =>
       show VRel ρ e.key e'.key
       rw [q3]
       exact closed_rel ρ 4 _ q2
      | 1 => exact q4
      | n + 2 => exact .nil
    ·cases h
   ·cases h
  ·cases h
 ·cases h

theorem EsRel.erase : ∀ {es es' : List MapEntry}, EsRel ρ es es' → ∀ i, EsRel ρ (es.eraseIdx i) (es'.eraseIdx i)
 | [], [], _, i => by cases i <;> exact trivial
 | e :: es, e' :: es', ⟨h1, h5⟩, i => by
  cases i with
  | zero => exact h5
  | succ i => exact ⟨h1, EsRel.erase h5 i⟩
 | [], _ :: _, h, _ => h.elim
 | _ :: _, [], h, _ => h.elim

theorem toList_erase (es : Array MapEntry) (i : Nat) : (es.eraseIdxIfInBounds i).toList = es.toList.eraseIdx i := by
 simp

theorem delete_rel {T : TypeId} {k : Value} {es : List MapEntry} {es' : Array MapEntry} {r : Array MapEntry} {w w2 : World} (hr : EsRel ρ es es'.toList) (h : (deleteRest T es.toArray k).run P w = .ok r w2) :
  ∃ es2, (deleteRest T es' k).run P w = .ok es2 w2 ∧ EsRel ρ r.toList es2.toList := by
 have he : es'.isEmpty = es.toArray.isEmpty := by
  have := hr.len
  rw [Array.length_toList] at this
  rw [Bool.eq_iff_iff]
  simp only [Array.isEmpty_iff_size_eq_zero, List.size_toArray]
  omega
 unfold deleteRest at h ⊢
 rw [he]
 change Sem.run P (Sem.bind _ _) w = _ at h
 rw [run_bind'] at h
 change ∃ es2, Sem.run P (Sem.bind _ _) w = _ ∧ _
 rw [run_bind']
 cases h1 : Sem.run P (Instr.checkKey es.toArray.isEmpty 10000 T k) w with
 | halt x w' => rw [h1] at h; cases h
 | ok u w' =>
  rw [h1] at h
  simp only at h ⊢
  change Sem.run P (Sem.bind _ _) w' = _ at h
  rw [run_bind'] at h
  change ∃ es2, Sem.run P (Sem.bind _ _) w' = _ ∧ _
  rw [run_bind']
  cases h2 : Sem.run P (Instr.findKey T k es.toArray.toList) w' with
  | halt x w'' => rw [h2] at h; cases h
  | ok q w'' =>
   rw [h2] at h
   obtain ⟨q', g1, g2⟩ := findKey_rel hr h2
   rw [g1]
   simp only at h ⊢
   cases q with
   | none =>
    cases q' with
    | some _ => exact g2.elim
    | none =>
     simp only [Pure.pure, Sem.run, Result.ok.injEq] at h
     obtain ⟨rfl, rfl⟩ := h
     exact ⟨es', rfl, by simpa using hr⟩
   | some iv =>
    obtain ⟨i, x⟩ := iv
    cases q' with
    | none => exact g2.elim
    | some jv =>
     obtain ⟨j, x'⟩ := jv
     obtain ⟨rfl, -⟩ := g2
     simp only [Pure.pure, Sem.run, Result.ok.injEq] at h ⊢
     obtain ⟨rfl, rfl⟩ := h
     refine ⟨_, ⟨rfl, rfl⟩, ?_⟩
     rw [toList_erase, toList_erase]
     exact EsRel.erase (by simpa using hr) j

theorem arel_get {args args' : Array Value} (h : ARel ρ args args') {i : Nat} {v : Value} (hi : args[i]? = some v) : ∃ v', args'[i]? = some v' ∧ VRel ρ v v' := by
 obtain ⟨hlt, he⟩ := Array.getElem?_eq_some_iff.1 hi
 have hlt' : i < args'.size := by rw [← h.1]; exact hlt
 refine ⟨args'[i], by simp [hlt'], ?_⟩
 have := h.2 i
 simp only [Array.getD, hlt, hlt', dif_pos] at this
 rw [← he]
 exact this

theorem op_delete {st st1 : St} {ts : Array TypeId} {T : TypeId} {args args' : Array Value} (hw : WRel P B ρ st.H w) (h : aDelete P st ts args = some st1) (ha : ARel ρ args args') :
  st1.lo ≤ st.lo ∧ ∃ w1, (Builtin.delete_ ts T args').run P w = .ok (.tuple #[]) w1 ∧ Moved P B ρ st.H w ρ st1.H st1.lo w1 := by
 unfold aDelete at h
 split at h
 ·rename_i mt b k h0 h1 h2
  split at h
  ·rename_i keyType elem hu
   split at h
   ·rename_i es clock hb
    split at h
    ·rename_i hc
     obtain ⟨m', hm1, hm2⟩ := arel_get ha h1
     obtain ⟨k', hk1, hk2⟩ := arel_get ha h2
     obtain rfl := closed_eq 4 hc hk2
     cases hr : prun P (deleteRest keyType es.toArray k') with
     | none => rw [hr] at h; cases h
     | some r =>
      rw [hr] at h
      simp only [Option.bind_some] at h
      split at h
      ·rename_i hall
       simp only [Option.some.injEq] at h
       subst h
       cases hm2 with
       | atom ha => simp [isAtom] at ha
       | map hm =>
        rename_i tt
        obtain ⟨es0, hbl, hB, hes⟩ := hw.blk _ _ _ hm hb
        obtain ⟨es2, hrest, hes2⟩ := delete_rel (w := w) hes (prun_run hr w)
        have hrb : tt.rb < w.heap.size := (Array.getElem?_eq_some_iff.1 hbl).1
        refine ⟨Nat.min_le_left _ _, { w with heap := w.heap.setIfInBounds tt.rb (.map es2 clock) }, ?_, set_moved hw hm hb rfl ⟨es2, ?_, hB, hes2⟩ hB⟩
        ·unfold Builtin.delete_
         simp only [h0, hm1, hk1]
         rw [run_bind_ok (run_underlying hu w)]
         simp only
         rw [run_bind_ok (a := .map es0 clock) (w1 := w) (by simp only [getObj, Sem.run, hbl])]
         simp only
         unfold deleteRest at hrest
         change Sem.run P (Sem.bind _ _) w = _ at hrest
         rw [run_bind'] at hrest
         change Sem.run P (Sem.bind _ _) w = _
         rw [run_bind']
         cases h1 : Sem.run P (Instr.checkKey es0.isEmpty 10000 keyType k') w with
         | halt x w' => rw [h1] at hrest; cases hrest
         | ok u w' =>
          rw [h1] at hrest
          simp only at hrest ⊢
          change Sem.run P (Sem.bind _ _) w' = _ at hrest
          rw [run_bind'] at hrest
          change Sem.run P (Sem.bind _ _) w' = _
          rw [run_bind']
          cases h2 : Sem.run P (Instr.findKey keyType k' es0.toList) w' with
          | halt x w'' => rw [h2] at hrest; cases hrest
          | ok u2 w'' =>
           rw [h2] at hrest
           simp only at hrest ⊢
           cases u2 with
           | none =>
            simp only [Pure.pure, Sem.run, Result.ok.injEq] at hrest
            obtain ⟨rfl, rfl⟩ := hrest
            exact (run_bind_ok (run_setObj_map hbl)).trans rfl
           | some iv =>
            obtain ⟨i, vv⟩ := iv
            simp only [Pure.pure, Sem.run, Result.ok.injEq] at hrest
            obtain ⟨rfl, rfl⟩ := hrest
            exact (run_bind_ok (run_setObj_map hbl)).trans rfl
        ·show (w.heap.setIfInBounds _ _)[tt.rb]? = _
         rw [Array.getElem?_setIfInBounds_self_of_lt hrb]
      ·cases h
    ·cases h
   ·cases h
  ·cases h
 ·cases h

theorem op_bytes {src dst : TypeId} {x x' v : Value} (hw : WRel P B ρ H w) (h : aBytes P H src dst x = some v) (hx : VRel ρ x x') :
  (convert src dst x').run P w = .ok v w ∧ closed v = true := by
 unfold aBytes at h
 split at h
 ·rename_i e b o len cap hs hd
  split at h
  ·rename_i he
   cases hl : aload P H b o len with
   | none => rw [hl] at h; cases h
   | some cs =>
    rw [hl] at h
    simp only [Option.bind_some] at h
    split at h
    ·rename_i hall
     obtain ⟨h, hcv⟩ : prun P (bytesRest cs) = some v ∧ closed v = true := by
      cases hp : prun P (bytesRest cs) with
      | none => rw [hp] at h; cases h
      | some u =>
       rw [hp] at h
       simp only [Option.bind_some] at h
       split at h
       ·rename_i hc
        simp only [Option.some.injEq] at h
        subst h
        exact ⟨rfl, hc⟩
       ·cases h
     have fin : ∀ t c o', ρ[b]? = some t → (0 < len → o' = t.ro + o) → (convert src dst (.slice (some ⟨t.rb, o', none⟩) len c)).run P w = .ok v w := by
      intro t c o' ht ho
      obtain ⟨cs', g1, g2, g3⟩ := aload_run hw ht hl
      have hcs : cs' = cs := by
       have hcl : closedN 1 (.agg cs) = true := by
        simp only [closedN, List.all_eq_true] at hall ⊢
        intro y hy
        have := hall y hy
        unfold isByte at this
        split at this
        ·rfl
        ·cases this
       refine arr_eq g2.1 fun i hi => ?_
       have h2 := g2.2 i
       have hy := all_getD (p := isByte) hall i hi
       cases hv : cs.getD i undef with
       | int k n =>
        rw [hv] at h2
        exact isAtom_rel h2 rfl
       | _ => rw [hv] at hy; cases hy
      subst hcs
      have hload : (loadCells ⟨t.rb, o', none⟩ len).run P w = .ok cs' w := by
       by_cases h0 : 0 < len
       ·rw [ho h0]
        exact g1
       ·have : len = 0 := by omega
        subst this
        have : cs'.size = 0 := g3
        have : cs' = #[] := Array.eq_empty_of_size_eq_zero this
        subst this
        rfl
      unfold convert
      rw [run_bind_ok (run_underlying hs w), run_bind_ok (run_underlying hd w)]
      simp only
      rw [run_bind_ok (run_underlying he w)]
      simp only
      show Sem.run P (Sem.bind (loadCells ⟨t.rb, o', none⟩ len) bytesRest) w = _
      rw [run_bind', hload]
      exact prun_run h w
     cases hx with
     | atom ha => simp [isAtom] at ha
     | slice ht hc => exact ⟨fin _ _ _ ht (fun _ => rfl), hcv⟩
     | grown ht h1 h2 h3 h4 => exact ⟨fin _ _ _ ht (fun hp => h3 (by omega)), hcv⟩
    ·cases h
  ·cases h
 ·cases h

end Go.Abs

/- The abstract machine: one operation. -/
namespace Go.Abs
open Go Go.RowKit

variable {P : Program} {B : Nat} {ρ : Ren} {w : World}

theorem gen_done {st st1 : St} {e e' : Sem Next} {v : Value} (hw : WRel P B ρ st.H w) (hs : Sim P B ρ st.H NRel e e') (h : ofRun (arun P e st.H st.lo) = some (.val v st1)) :
  Done P B ρ st w v st1 (e'.run P w) := by
 cases hr : arun P e st.H st.lo with
 | none => rw [hr] at h; cases h
 | some r =>
  obtain ⟨x, H1, lo1⟩ := r
  rw [hr] at h
  obtain ⟨hlo, ρ1, x', w1, h1, h2, h3⟩ := hs w hw _ _ _ _ hr
  cases x with
  | value u =>
   simp only [ofRun, Option.some.injEq, ANext.val.injEq] at h
   obtain ⟨rfl, rfl⟩ := h
   cases x' with
   | value u' => exact ⟨hlo, ρ1, u', w1, .inl h1, h2, h3⟩
   | _ => exact h3.elim
  | skip =>
   simp only [ofRun, Option.some.injEq, ANext.val.injEq] at h
   obtain ⟨rfl, rfl⟩ := h
   cases x' with
   | skip => exact ⟨hlo, ρ1, undef, w1, .inr ⟨h1, rfl⟩, h2, .nil⟩
   | _ => exact h3.elim
  | _ => simp [ofRun] at h

def NCRel (ρ : Ren) : Next → Next → Prop
 | .value v, .value v' => CRel ρ v v'
 | _, _ => False

theorem genC_done {st st1 : St} {e e' : Sem Next} {v : Value} (hw : WRel P B ρ st.H w) (hs : Sim P B ρ st.H NCRel e e') (h : ((ofRun (arun P e st.H st.lo)).bind fun r => if capOk r then some r else none) = some (.val v st1)) :
  Done P B ρ st w v st1 (e'.run P w) := by
 cases hr : arun P e st.H st.lo with
 | none => rw [hr] at h; cases h
 | some r =>
  obtain ⟨x, H1, lo1⟩ := r
  rw [hr] at h
  obtain ⟨hlo, ρ1, x', w1, h1, h2, h3⟩ := hs w hw _ _ _ _ hr
  cases x with
  | value u =>
   simp only [ofRun, Option.bind_some] at h
   split at h
   ·rename_i hc
    simp only [Option.some.injEq, ANext.val.injEq] at h
    obtain ⟨rfl, rfl⟩ := h
    cases x' with
    | value u' =>
     refine ⟨hlo, ρ1, u', w1, .inl h1, h2, h3 ?_⟩
     intro a l c hu
     subst hu
     simpa [capOk] using hc
    | _ => exact h3.elim
   ·cases h
  | skip => cases x' <;> exact h3.elim
  | _ => simp [ofRun] at h

theorem closed_args {tm : List Value} {o : Oper} {f : Operand → Value} (hc : closedArgs tm o = true) (hf : ∀ x ∈ o.op.operands, VRel ρ (aeval tm x) (f x)) (hs : ∀ cs b, o.op ≠ .select cs b) :
  execOp f o = execOp (aeval tm) o := by
 refine execOp_congr o hs fun x hx => ?_
 have := List.all_eq_true.1 hc x (by simpa using hx)
 exact closed_eq 4 this (hf x hx)

theorem pure_done {st st1 : St} {tm : List Value} {o : Oper} {f : Operand → Value} {v : Value} (hw : WRel P B ρ st.H w) (hc : closedArgs tm o = true) (hf : ∀ x ∈ o.op.operands, VRel ρ (aeval tm x) (f x))
  (hs : ∀ cs b, o.op ≠ .select cs b) (h : ofPure (prun P (execOp (aeval tm) o)) st = some (.val v st1)) : Done P B ρ st w v st1 ((execOp f o).run P w) := by
 obtain ⟨h1, h2, rfl⟩ := ofPure_done h
 rw [closed_args hc hf hs]
 exact Done.same hw (prun_run h1 w) (closed_rel ρ 4 _ h2)

theorem rel_opt {tm : List Value} {f : Operand → Value} {x : Option Operand} (h : ∀ y, x = some y → VRel ρ (aeval tm y) (f y)) : SameInt (x.map (aeval tm)) (x.map f) := by
 cases x with
 | none => exact ⟨fun _ => rfl, fun v hv => by simp at hv⟩
 | some y =>
  refine ⟨fun hv => by simp at hv, fun v hv hi => ?_⟩
  simp only [Option.map_some, Option.some.injEq] at hv ⊢
  subst hv
  obtain ⟨i, hi⟩ := hi
  obtain ⟨k, n, he, _, _⟩ := intOf_some hi
  have := h y rfl
  rw [he] at this ⊢
  exact rel_int this

theorem op_nilCheck {v v' : Value} (h : VRel ρ v v') (st : St) (dst : Option Tmp) (T : TypeId) (pos : String) (after : Array Edge) (guard : Option (Nat × Bool)) {tm : List Value} {f : Operand → Value} {x : Operand}
  (hv : aeval tm x = v) (hv' : f x = v') : Sim P B ρ st.H NRel (execOp (aeval tm) ⟨dst, .nilCheck x, T, pos, after, guard⟩) (execOp f ⟨dst, .nilCheck x, T, pos, after, guard⟩) := by
 unfold execOp
 simp only [hv, hv']
 cases h with
 | atom ha =>
  cases v <;> first
   | exact Sim.fail fun _ _ => rfl
   | exact Sim.pure (R := NRel) (VRel.atom ha)
   | (rename_i a; cases a <;> first | exact Sim.fail fun _ _ => rfl | (simp [isAtom] at ha))
   | (simp [isAtom] at ha)
 | ptr h => exact Sim.pure (R := NRel) (VRel.ptr h)
 | slice h hc => exact Sim.pure (R := NRel) (VRel.slice h hc)
 | grown h hl hc ho hn => exact Sim.pure (R := NRel) (VRel.grown h hl hc ho hn)
 | map h => exact Sim.pure (R := NRel) (VRel.map h)
 | func h1 h2 h3 h4 => exact Sim.pure (R := NRel) (VRel.func h1 h2 h3 h4)
 | yield h => exact Sim.pure (R := NRel) (VRel.yield h)
 | agg h1 h2 => exact Sim.pure (R := NRel) (VRel.agg h1 h2)
 | nil => exact Sim.pure (R := NRel) VRel.nil
 | tuple h1 h2 => exact Sim.pure (R := NRel) (VRel.tuple h1 h2)

theorem args_rel {tm : List Value} {f : Operand → Value} {xs : Array Operand} (h : ∀ x ∈ xs, VRel ρ (aeval tm x) (f x)) : ARel ρ (xs.map (aeval tm)) (xs.map f) := ARel.map h

theorem run_value {e : Sem Value} {v : Value} {w1 : World} (h : e.run P w = .ok v w1) : (do pure (Next.value (← e)) : Sem Next).run P w = .ok (.value v) w1 := by
 rw [run_bind_ok h]; rfl

theorem step_val (hP : POk P) {st st1 : St} {tm : List Value} {o : Oper} {f : Operand → Value} {v : Value} (hw : WRel P B ρ st.H w) (hf : ∀ x ∈ o.op.operands, VRel ρ (aeval tm x) (f x))
  (h : stepOp P tm o st = some (.val v st1)) : Done P B ρ st w v st1 ((execOp f o).run P w) := by
 unfold stepOp at h
 split at h
 ·obtain ⟨dst, op, T, pos, after, guard⟩ := o
  cases op with
  | move x => exact gen_done hw (Sim.pure (R := NRel) (v := .value (aeval tm x)) (v' := .value (f x)) (hf x (by simp [Op.operands]))) h
  | assign x => exact gen_done hw (Sim.pure (R := NRel) (v := .value (aeval tm x)) (v' := .value (f x)) (hf x (by simp [Op.operands]))) h
  | pick c a b =>
   refine gen_done hw ?_ h
   unfold execOp
   refine Sim.bind (sim_asBool (hf c (by simp [Op.operands]))) fun ρ1 H1 t t' hρ ht => ?_
   subst ht
   refine Sim.pure (R := NRel) ?_
   show VRel ρ1 (if t' = true then _ else _) (if t' = true then _ else _)
   split
   ·exact (hf a (by simp [Op.operands])).mono hρ
   ·exact (hf b (by simp [Op.operands])).mono hρ
  | alloc e => exact gen_done hw (sim_value (op_alloc hP)) h
  | box e x => exact gen_done hw (sim_value (op_box (hf x (by simp [Op.operands])))) h
  | build t ps =>
   refine gen_done hw (sim_value (op_build hP ?_)) h
   rw [Array.toList_map, Array.toList_map]
   exact PRel.map fun x hx => hf x (by simpa [Op.operands] using hx)
  | buildSlice t n ps =>
   refine genC_done hw (Sim.bind (op_buildSlice hP ?_) fun _ _ u u' _ hv => Sim.pure (R := NCRel) (v := .value u) (v' := .value u') hv) h
   rw [Array.toList_map, Array.toList_map]
   exact PRel.map fun x hx => hf x (by simpa [Op.operands] using hx)
  | load t a => exact gen_done hw (sim_value (op_load (hf a (by simp [Op.operands])))) h
  | store t a x => exact gen_done hw (sim_skip (op_store (hf a (by simp [Op.operands])) (hf x (by simp [Op.operands])))) h
  | nilCheck x => exact gen_done hw (op_nilCheck (hf x (by simp [Op.operands])) st dst T pos after guard rfl rfl) h
  | fieldAddr s x k => exact gen_done hw (sim_value (op_fieldAddr (hf x (by simp [Op.operands])))) h
  | indexAddr t x i => exact gen_done hw (sim_value (op_indexAddr (hf x (by simp [Op.operands])) (hf i (by simp [Op.operands])))) h
  | extract x i => exact gen_done hw (sim_value (op_extract (hf x (by simp [Op.operands])))) h
  | makeFunc fn first captured =>
   cases fn with
   | func g =>
    refine gen_done hw (sim_value (op_makeFunc (args_rel fun x hx => hf x ?_) (args_rel fun x hx => hf x ?_))) h
    ·simp [Op.operands, hx]
    ·simp [Op.operands, hx]
   | _ => cases h
  | makeMap t r =>
   cases r with
   | none => exact gen_done hw (sim_value op_makeMap) h
   | some _ => cases h
  | makeSlice t l c =>
   simp only at h
   split at h
   ·exact genC_done hw (Sim.bind (op_makeSlice hP (hf l (by simp [Op.operands])) (hf c (by simp [Op.operands]))) fun _ _ u u' _ hv => Sim.pure (R := NCRel) (v := .value u) (v' := .value u') hv) h
   ·cases h
  | binOp op t x y yt =>
   simp only at h
   split at h
   ·exact pure_done hw ‹_› hf (by simp) h
   ·have hx := hf x (by simp [Op.operands])
    have hy := hf y (by simp [Op.operands])
    split at h
    ·cases hn : nilCmp P t (aeval tm x) (aeval tm y) with
     | none => rw [hn] at h; cases h
     | some b =>
      rw [hn] at h
      simp only [Option.map_some, Option.some.injEq, ANext.val.injEq] at h
      obtain ⟨rfl, rfl⟩ := h
      obtain ⟨h1, h2, h3, h4, h5, h6, h7⟩ := nilCmp_run hn hx hy w
      refine Done.same hw (v' := .bool b) (run_value ?_) (.atom rfl)
      rw [run_bind_ok (run_eqGuard h2 h3 w)]
      have : binOp .eql t (f x) (f y) = (do pure (.bool (← Op.equal t (f x) (f y)))) := by
       cases hfx : f x <;> first
        | rfl
        | (exfalso; exact h4 _ _ hfx)
        | (exfalso; exact h5 _ _ hfx)
        | (exfalso; exact h6 _ _ _ hfx)
        | (exfalso; exact h7 _ hfx)
      rw [this, run_bind_ok h1]
      rfl
    ·cases hn : nilCmp P t (aeval tm x) (aeval tm y) with
     | none => rw [hn] at h; cases h
     | some b =>
      rw [hn] at h
      simp only [Option.map_some, Option.some.injEq, ANext.val.injEq] at h
      obtain ⟨rfl, rfl⟩ := h
      obtain ⟨h1, h2, h3, h4, h5, h6, h7⟩ := nilCmp_run hn hx hy w
      refine Done.same hw (v' := .bool !b) (run_value ?_) (.atom rfl)
      rw [run_bind_ok (run_eqGuard h2 h3 w)]
      have : binOp .neq t (f x) (f y) = (do pure (.bool (!(← Op.equal t (f x) (f y))))) := by
       cases hfx : f x <;> first
        | rfl
        | (exfalso; exact h4 _ _ hfx)
        | (exfalso; exact h5 _ _ hfx)
        | (exfalso; exact h6 _ _ _ hfx)
        | (exfalso; exact h7 _ hfx)
      rw [this, run_bind_ok h1]
      rfl
    ·cases h
  | unOp op t x =>
   simp only at h
   split at h
   ·exact pure_done hw ‹_› hf (by simp) h
   ·cases h
  | convert a b x =>
   simp only at h
   split at h
   ·exact pure_done hw ‹_› hf (by simp) h
   ·cases hs : aBytes P st.H a b (aeval tm x) with
    | none => rw [hs] at h; cases h
    | some u =>
     rw [hs] at h
     simp only [Option.map_some, Option.some.injEq, ANext.val.injEq] at h
     obtain ⟨rfl, rfl⟩ := h
     obtain ⟨h1, h2⟩ := op_bytes hw hs (hf x (by simp [Op.operands]))
     exact Done.same hw (run_value h1) (closed_rel ρ 4 _ h2)
  | range t x =>
   simp only at h
   cases hs : aRange P st.H t (aeval tm x) with
   | none => rw [hs] at h; cases h
   | some u =>
    rw [hs] at h
    simp only [Option.map_some, Option.some.injEq, ANext.val.injEq] at h
    obtain ⟨rfl, rfl⟩ := h
    obtain ⟨ρ1, v', w1, h1, h2, h3⟩ := op_range hw hs (hf x (by simp [Op.operands]))
    exact ⟨Nat.le_refl _, ρ1, v', w1, .inl (run_value h1), h2, h3⟩
  | next it s =>
   cases s with
   | true => cases h
   | false =>
    simp only at h
    cases hs : aNext st (aeval tm it) with
    | none => rw [hs] at h; cases h
    | some u =>
     obtain ⟨u, st2⟩ := u
     rw [hs] at h
     simp only [Option.map_some, Option.some.injEq, ANext.val.injEq] at h
     obtain ⟨rfl, rfl⟩ := h
     obtain ⟨hlo, v', w1, h1, h2, h3⟩ := op_next T hw hs (hf it (by simp [Op.operands]))
     exact ⟨hlo, ρ, v', w1, .inl (run_value h1), h2, h3⟩
  | entry it =>
   simp only at h
   cases hs : aEntry st.H (aeval tm it) with
   | none => rw [hs] at h; cases h
   | some u =>
    rw [hs] at h
    simp only [Option.map_some, Option.some.injEq, ANext.val.injEq] at h
    obtain ⟨rfl, rfl⟩ := h
    obtain ⟨v', h1, h2⟩ := op_entry (w := w) hw hs (hf it (by simp [Op.operands]))
    exact Done.same hw (run_value h1) h2
  | field t x k =>
   simp only at h
   split at h
   ·exact pure_done hw ‹_› hf (by simp) h
   ·cases h
  | index t x i =>
   simp only at h
   split at h
   ·exact pure_done hw ‹_› hf (by simp) h
   ·cases h
  | lookup t m k ok =>
   simp only at h
   split at h
   ·rename_i hc
    have hk := closed_eq 4 hc (hf k (by simp [Op.operands]))
    cases hl : aLookup P st.H t (aeval tm m) (aeval tm k) ok with
    | none => rw [hl] at h; cases h
    | some u =>
     rw [hl] at h
     simp only [Option.map_some, Option.some.injEq, ANext.val.injEq] at h
     obtain ⟨rfl, rfl⟩ := h
     obtain ⟨u', h1, h2⟩ := op_lookup hw hl (hf m (by simp [Op.operands]))
     refine Done.same hw (v' := u') (run_value ?_) h2
     rw [hk]; exact h1
   ·cases h
  | mapUpdate t m k x =>
   simp only at h
   split at h
   ·rename_i hc
    have hk := closed_eq 4 hc (hf k (by simp [Op.operands]))
    have hx := hf x (by simp [Op.operands])
    cases hl : aUpdate P st t (aeval tm m) (aeval tm k) (aeval tm x) with
    | none => rw [hl] at h; cases h
    | some u =>
     rw [hl] at h
     simp only [Option.map_some, Option.some.injEq, ANext.val.injEq] at h
     obtain ⟨rfl, rfl⟩ := h
     obtain ⟨h1, w1, h2, h3⟩ := op_update hw hl (hf m (by simp [Op.operands])) hx
     refine ⟨h1, ρ, undef, w1, .inr ⟨?_, rfl⟩, h3, .nil⟩
     show Sem.run P (do Instr.mapUpdate t (f m) (f k) (f x); pure Next.skip) w = _
     rw [hk, run_bind_ok h2]
     rfl
   ·cases h
  | slice t x l hi mx =>
   simp only at h
   cases hs : aSlice P st.H t (aeval tm x) (l.map (aeval tm)) (hi.map (aeval tm)) (mx.map (aeval tm)) with
   | none => rw [hs] at h; cases h
   | some u =>
    rw [hs] at h
    simp only [Option.map_some, Option.some.injEq, ANext.val.injEq] at h
    obtain ⟨rfl, rfl⟩ := h
    obtain ⟨u', h1, h2⟩ := op_slice (w := w) hw hs (hf x (by simp [Op.operands])) (lo' := l.map f) (hi' := hi.map f) (mx' := mx.map f)
     (rel_opt fun y hy => hf y (by simp [Op.operands, hy])) (rel_opt fun y hy => hf y (by simp [Op.operands, hy])) (rel_opt fun y hy => hf y (by simp [Op.operands, hy]))
    exact Done.same hw (run_value h1) h2
  | call c =>
   obtain ⟨callee, args, ts⟩ := c
   cases callee with
   | builtin b =>
    have ha : ARel ρ (args.map (aeval tm)) (args.map f) := args_rel fun x hx => hf x (by simp [Op.operands, Call.operands, hx])
    have hrun : ∀ (r : Result Next), (builtin b ts T (args.map fun | .const _ => true | _ => false) (args.map f)).run P w = r → (execOp f ⟨dst, .call ⟨.builtin b, args, ts⟩, T, pos, after, guard⟩).run P w = r := by
     intro r hr
     rw [← hr]; rfl
    cases b <;> simp only at h <;> first
     | (cases h; done)
     | skip
    case append =>
     cases hs : aAppend P st ts (args.map (aeval tm)) with
     | none => rw [hs] at h; cases h
     | some u =>
      obtain ⟨u, st2⟩ := u
      rw [hs] at h
      simp only [Option.map_some, Option.some.injEq, ANext.val.injEq] at h
      obtain ⟨rfl, rfl⟩ := h
      exact builtin_append (T := T) (cs := args.map fun | .const _ => true | _ => false) hP hw ha hs
    case copy =>
     cases hs : aCopy P st ts (args.map (aeval tm)) with
     | none => rw [hs] at h; cases h
     | some u =>
      obtain ⟨u, st2⟩ := u
      rw [hs] at h
      simp only [Option.map_some, Option.some.injEq, ANext.val.injEq] at h
      obtain ⟨rfl, rfl⟩ := h
      exact builtin_copy (T := T) (cs := args.map fun | .const _ => true | _ => false) hw ha hs
    case clear =>
     cases hs : aClear P st ts (args.map (aeval tm)) with
     | none => rw [hs] at h; cases h
     | some u =>
      obtain ⟨u, st2⟩ := u
      rw [hs] at h
      simp only [Option.map_some, Option.some.injEq, ANext.val.injEq] at h
      obtain ⟨rfl, rfl⟩ := h
      exact builtin_clear (T := T) (cs := args.map fun | .const _ => true | _ => false) hw ha hs
    case len =>
     cases hs : aLen P st.H ts (args.map (aeval tm)) with
     | none => rw [hs] at h; cases h
     | some u =>
      rw [hs] at h
      simp only [Option.map_some, Option.some.injEq, ANext.val.injEq] at h
      obtain ⟨rfl, rfl⟩ := h
      obtain ⟨h1, h2⟩ := builtin_len (T := T) (cs := args.map fun | .const _ => true | _ => false) hw ha hs
      exact Done.same hw h1 h2
    case delete =>
     cases hs : aDelete P st ts (args.map (aeval tm)) with
     | none => rw [hs] at h; cases h
     | some u =>
      rw [hs] at h
      simp only [Option.map_some, Option.some.injEq, ANext.val.injEq] at h
      obtain ⟨rfl, rfl⟩ := h
      obtain ⟨hlo, w1, h1, h2⟩ := op_delete (T := T) hw hs ha
      exact ⟨hlo, ρ, _, w1, .inl (hrun _ (run_value h1)), h2, closed_rel ρ 4 _ rfl⟩
    case cap =>
     cases hs : aCap P ts (args.map (aeval tm)) with
     | none => rw [hs] at h; cases h
     | some u =>
      rw [hs] at h
      simp only [Option.map_some, Option.some.injEq, ANext.val.injEq] at h
      obtain ⟨rfl, rfl⟩ := h
      obtain ⟨h1, h2⟩ := builtin_cap (T := T) (w := w) (cs := args.map fun | .const _ => true | _ => false) ha hs
      exact Done.same hw h1 h2
    case min =>
     split at h
     ·exact pure_done hw ‹_› hf (by simp) h
     ·cases h
    case max =>
     split at h
     ·exact pure_done hw ‹_› hf (by simp) h
     ·cases h
   | value g =>
    simp only at h
    split at h
    ·cases h
    ·split at h <;> cases h
    ·cases h
   | invoke => cases h
  | _ => cases h
 ·cases h

end Go.Abs

/- The abstract machine: calls, rounds, whole operations. -/
namespace Go.Abs
open Go Go.RowKit

variable {P : Program} {B : Nat} {ρ : Ren} {w : World}

def fen (r : Option Nat) : Fence := { Fence.wide with round := r }

theorem callsIn_fen {r : Option Nat} {n : Nat} {f : FuncId} {args : Array Value} {R : Ending → World → Prop} (h : Calls P f args w R) : CallsIn (fen r) n P f args w R :=
 have h1 : CallsIn Fence.wide n P f args w R := callsIn_wide.2 h
 h1

theorem calls_fen {r : Option Nat} {n : Nat} {f : FuncId} {args : Array Value} {R : Ending → World → Prop} (h : CallsIn (fen r) n P f args w R) : Calls P f args w R :=
 have h1 : CallsIn Fence.wide n P f args w R := h
 callsIn_wide.1 h1

inductive DRel (ρ : Ren) : List Nat → List Deferred → Prop
 | nil : DRel ρ [] []
 | cons {d : Nat} {ds : List Nat} {t : Ent} {ds' : List Deferred} (h : ρ[d]? = some t) (hr : DRel ρ ds ds') : DRel ρ (d :: ds) ({ target := .collected t.rb, args := #[] } :: ds')

theorem DRel.mono {ρ ρ' : Ren} (hρ : ρ <+: ρ') {ds : List Nat} {ds' : List Deferred} (h : DRel ρ ds ds') : DRel ρ' ds ds' := by
 induction h with
 | nil => exact .nil
 | cons h _ ih => exact .cons (prefix_get hρ h) ih

inductive RRel (ρ : Ren) : Option Nat → Option Nat → Prop
 | none : RRel ρ none none
 | some {l : Nat} {t : Ent} (h : ρ[l]? = some t) : RRel ρ (some l) (some t.rb)

theorem RRel.mono {ρ ρ' : Ren} (hρ : ρ <+: ρ') {r r' : Option Nat} (h : RRel ρ r r') : RRel ρ' r r' := by
 cases h with
 | none => exact .none
 | some h => exact .some (prefix_get hρ h)

def toExit : AX → Exit
 | .normal => .normal
 | .exit id => .exit id
 | .ret => .ret

def PostC (P : Program) (B : Nat) (ρ : Ren) (H : List AObj) (w : World) (x : AX) (fr1 : Fr) (st1 : St) (e : Exit) (a1 : Act) (w1 : World) : Prop :=
 e = toExit x ∧ ∃ ρ1, Moved P B ρ H w ρ1 st1.H st1.lo w1 ∧ ARel ρ1 fr1.tm.toArray a1.tmps ∧ DRel ρ1 fr1.ds a1.defers

def SoundC (P : Program) (ec : EC) : Prop :=
 ∀ c fr st x fr1 st1, ec c fr st = some (x, fr1, st1) → st1.lo ≤ st.lo ∧ fr1.rd = fr.rd ∧
  ∀ B ρ w rd' (a : Act) n, WRel P B ρ st.H w → ARel ρ fr.tm.toArray a.tmps → DRel ρ fr.ds a.defers → RRel ρ fr.rd rd' →
   c.wpIn (fen rd') n P (PostC P B ρ st.H w x fr1 st1) a w

def PostF (P : Program) (B : Nat) (ρ : Ren) (H : List AObj) (w : World) (v : Value) (st1 : St) (e : Ending) (w1 : World) : Prop :=
 ∃ v' ρ1, e = .returned v' ∧ Moved P B ρ H w ρ1 st1.H st1.lo w1 ∧ VRel ρ1 v v'

def SoundF (P : Program) (ef : EF) : Prop :=
 ∀ f args st v st1, ef f args st = some (v, st1) → st1.lo ≤ st.lo ∧ (∃ fn c, P.funcs[f]? = some fn ∧ fn.body = some c) ∧
  ∀ B ρ w args', WRel P B ρ st.H w → ARel ρ args args' → Calls P f args' w (PostF P B ρ st.H w v st1)

theorem list_getD (l : List Value) (i : Nat) : l.toArray.getD i undef = (l[i]?).getD undef := by simp

theorem opd_rel {tm : List Value} {a : Act} (ht : ARel ρ tm.toArray a.tmps) {x : Operand} (hx : opdOk x = true) : VRel ρ (aeval tm x) (a.eval x) := by
 cases x with
 | tmp t =>
  have := ht.2 t
  rw [list_getD] at this
  exact this
 | const v => exact closed_rel ρ 4 _ hx
 | global g => cases hx
 | func f => exact .func rfl (fun i => by simp; exact .nil) rfl (fun i => by simp; exact .nil)

theorem opds_rel {tm : List Value} {a : Act} (ht : ARel ρ tm.toArray a.tmps) {o : Oper} (ho : opsOk o = true) : ∀ x ∈ o.op.operands, VRel ρ (aeval tm x) (a.eval x) :=
 fun x hx => opd_rel ht (List.all_eq_true.1 ho x (by simpa using hx))

theorem stepOp_ok {tm : List Value} {o : Oper} {st : St} {r : ANext} (h : stepOp P tm o st = some r) : opsOk o = true := by
 unfold stepOp at h
 split at h
 ·assumption
 ·cases h

theorem stepOp_noDefer {tm : List Value} {o : Oper} {st : St} {r : ANext} (h : stepOp P tm o st = some r) : ∀ c, o.op ≠ .defer c := by
 intro c hc
 unfold stepOp at h
 rw [hc] at h
 split at h <;> cases h

theorem ofRun_val {r : Option (Next × List AObj × Nat)} {x : ANext} (h : ofRun r = some x) : ∃ v s, x = .val v s := by
 unfold ofRun at h
 split at h <;> first | (cases h; done) | (simp only [Option.some.injEq] at h; exact ⟨_, _, h.symm⟩)

theorem ofPure_val {r : Option Next} {st : St} {x : ANext} (h : ofPure r st = some x) : ∃ v s, x = .val v s := by
 unfold ofPure at h
 split at h
 ·split at h
  ·simp only [Option.some.injEq] at h; exact ⟨_, _, h.symm⟩
  ·cases h
 ·cases h

theorem map_val {α : Type} {r : Option α} {f : α → Value} {g : α → St} {x : ANext} (h : (r.map fun a => ANext.val (f a) (g a)) = some x) : ∃ v s, x = .val v s := by
 cases r with
 | none => cases h
 | some a => simp only [Option.map_some, Option.some.injEq] at h; exact ⟨_, _, h.symm⟩

theorem bind_val {r : Option (Next × List AObj × Nat)} {x : ANext} (h : ((ofRun r).bind fun r => if capOk r then some r else none) = some x) : ∃ v s, x = .val v s := by
 cases hr : ofRun r with
 | none => rw [hr] at h; cases h
 | some y =>
  rw [hr] at h
  simp only [Option.bind_some] at h
  split at h
  ·simp only [Option.some.injEq] at h
   subst h
   exact ofRun_val hr
  ·cases h

theorem step_enter (hP : POk P) {tm : List Value} {o : Oper} {st : St} {g : FuncId} {args : Array Value} {f : Operand → Value} (hf : ∀ x ∈ o.op.operands, VRel ρ (aeval tm x) (f x))
  (h : stepOp P tm o st = some (.enter g args)) {fn : Func} {c : Code} (hfn : P.funcs[g]? = some fn) (hb : fn.body = some c) :
  ∃ args', ARel ρ args args' ∧ (execOp f o).run P w = .ok (.enter g args') w := by
 obtain ⟨dst, op, T, pos, after, guard⟩ := o
 have ho := stepOp_ok h
 unfold stepOp at h
 rw [if_pos ho] at h
 cases op with
 | call c =>
  obtain ⟨callee, as, ts⟩ := c
  cases callee with
  | value fv =>
   simp only at h
   have hfv := hf fv (by simp [Op.operands, Call.operands])
   split at h
   ·rename_i g' first captured he
    simp only [Option.some.injEq, ANext.enter.injEq] at h
    obtain ⟨rfl, rfl⟩ := h
    rw [he] at hfv
    generalize hv : f fv = fv' at hfv
    have shape : ∃ first' captured', fv' = .func (.func g') first' captured' ∧ ARel ρ first first' ∧ ARel ρ captured captured' := by
     cases hfv with
     | atom ha => simp [isAtom] at ha
     | func h1 h2 h3 h4 => exact ⟨_, _, rfl, ⟨h1, h2⟩, ⟨h3, h4⟩⟩
    obtain ⟨first', captured', rfl, r1, r2⟩ := shape
    have ra : ARel ρ (as.map (aeval tm)) (as.map f) := args_rel fun x hx => hf x (by simp [Op.operands, Call.operands, hx])
    refine ⟨first' ++ as.map f ++ captured', (r1.append ra).append r2, ?_⟩
    show Sem.run P (do let d ← resolve f ⟨.value fv, as, ts⟩ T; invoke d.target d.args) w = _
    rw [run_bind_ok (a := { target := .fn (.func g') captured', args := first' ++ as.map f }) (w1 := w) (by simp only [resolve, hv, Deferred.ofValue]; rfl)]
    show Sem.run P (callFunc g' (first' ++ as.map f ++ captured')) w = _
    unfold callFunc
    rw [run_bind_ok (a := P) (w1 := w) rfl]
    simp only [hfn, hP.name _ _ hfn, hb]
    rfl
   ·split at h <;> cases h
   ·cases h
  | builtin b =>
   exact absurd h (by
    intro h
    cases b <;> simp only at h <;> (repeat' (first
     | (cases h; done)
     | (obtain ⟨_, _, e⟩ := ofPure_val h; cases e; done)
     | (obtain ⟨_, _, e⟩ := map_val h; cases e; done)
     | split at h)))
  | invoke => cases h
 | makeFunc fn a b =>
  exact absurd h (by
   intro h
   cases fn <;> first | (cases h; done) | (obtain ⟨_, _, e⟩ := ofRun_val h; cases e))
 | makeMap t r =>
  exact absurd h (by
   intro h
   cases r <;> first | (cases h; done) | (obtain ⟨_, _, e⟩ := ofRun_val h; cases e))
 | next it s =>
  exact absurd h (by
   intro h
   cases s <;> first | (cases h; done) | (obtain ⟨_, _, e⟩ := map_val h; cases e))
 | _ => exact absurd h (by
   intro h
   simp only at h
   repeat' (first
    | (cases h; done)
    | (obtain ⟨_, _, e⟩ := ofRun_val h; cases e; done)
    | (obtain ⟨_, _, e⟩ := ofPure_val h; cases e; done)
    | (obtain ⟨_, _, e⟩ := map_val h; cases e; done)
    | (obtain ⟨_, _, e⟩ := bind_val h; cases e; done)
    | split at h))

end Go.Abs

/- The abstract machine: rounds of a range over a function; whole operations; regions. -/
namespace Go.Abs
open Go Go.RowKit

variable {P : Program} {B : Nat} {ρ : Ren} {w : World}

theorem step_yield {tm : List Value} {o : Oper} {st : St} {l : Nat} {args : Array Value} {f : Operand → Value} (hf : ∀ x ∈ o.op.operands, VRel ρ (aeval tm x) (f x))
  (h : stepOp P tm o st = some (.yield l args)) :
  ∃ t args', ρ[l]? = some t ∧ ARel ρ args args' ∧ (execOp f o).run P w = (Instr.yield t.rb args').run P w := by
 obtain ⟨dst, op, T, pos, after, guard⟩ := o
 have ho := stepOp_ok h
 unfold stepOp at h
 rw [if_pos ho] at h
 cases op with
 | call c =>
  obtain ⟨callee, as, ts⟩ := c
  cases callee with
  | value fv =>
   simp only at h
   have hfv := hf fv (by simp [Op.operands, Call.operands])
   split at h
   ·cases h
   ·rename_i l' first captured he
    split at h
    ·rename_i hemp
     simp only [Option.some.injEq, ANext.yield.injEq] at h
     obtain ⟨rfl, rfl⟩ := h
     rw [he] at hfv
     generalize hv : f fv = fv' at hfv
     have ra : ARel ρ (as.map (aeval tm)) (as.map f) := args_rel fun x hx => hf x (by simp [Op.operands, Call.operands, hx])
     cases hfv with
     | atom ha => simp [isAtom] at ha
     | yield ht =>
      refine ⟨_, as.map f, ht, ra, ?_⟩
      show Sem.run P (do let d ← resolve f ⟨.value fv, as, ts⟩ T; invoke d.target d.args) w = _
      rw [run_bind_ok (a := { target := .fn (.yield _) #[], args := #[] ++ as.map f }) (w1 := w) (by simp only [resolve, hv, Deferred.ofValue]; rfl)]
      simp only [Array.empty_append]
      rfl
    ·cases h
   ·cases h
  | builtin b =>
   exact absurd h (by
    intro h
    cases b <;> simp only at h <;> (repeat' (first
     | (cases h; done)
     | (obtain ⟨_, _, e⟩ := ofPure_val h; cases e; done)
     | (obtain ⟨_, _, e⟩ := map_val h; cases e; done)
     | split at h)))
  | invoke => cases h
 | makeFunc fn a b =>
  exact absurd h (by
   intro h
   cases fn <;> first | (cases h; done) | (obtain ⟨_, _, e⟩ := ofRun_val h; cases e))
 | makeMap t r =>
  exact absurd h (by
   intro h
   cases r <;> first | (cases h; done) | (obtain ⟨_, _, e⟩ := ofRun_val h; cases e))
 | next it s =>
  exact absurd h (by
   intro h
   cases s <;> first | (cases h; done) | (obtain ⟨_, _, e⟩ := map_val h; cases e))
 | _ => exact absurd h (by
   intro h
   simp only at h
   repeat' (first
    | (cases h; done)
    | (obtain ⟨_, _, e⟩ := ofRun_val h; cases e; done)
    | (obtain ⟨_, _, e⟩ := ofPure_val h; cases e; done)
    | (obtain ⟨_, _, e⟩ := map_val h; cases e; done)
    | (obtain ⟨_, _, e⟩ := bind_val h; cases e; done)
    | split at h))

theorem getLoop_some {H : List AObj} {l : Nat} {r : Loop} (h : getLoop H l = some r) : H[l]? = some (.loop r) := by
 unfold getLoop at h
 split at h
 ·simp only [Option.some.injEq] at h; subst h; assumption
 ·cases h

theorem loop_set {H : List AObj} {l : Nat} {t : Ent} {r r2 L2 : Loop} {lo : Nat} (hw : WRel P B ρ H w) (ht : ρ[l]? = some t) (hH : H[l]? = some (.loop r)) (hr : LoopRel ρ r2 L2) :
  Moved P B ρ H w ρ (H.set l (.loop r2)) (min lo l) { w with heap := w.heap.setIfInBounds t.rb (.loop L2) } := by
 obtain ⟨L, h1, _, hB⟩ := hw.blk _ _ _ ht hH
 have hrb : t.rb < w.heap.size := (Array.getElem?_eq_some_iff.1 h1).1
 refine ⟨List.prefix_refl _, ?_, ⟨rfl, rfl, rfl, by simp, fun j hj => ?_⟩, fun b hb _ => ?_, fun b t' o hb ht' ho hl => ?_, by simp, Frames.set ht hH rfl (fun j hj => by show (w.heap.setIfInBounds _ _)[j]? = _; rw [Array.getElem?_setIfInBounds_ne (by omega)]) _⟩
 ·refine hw.setBlock ht hH rfl (by simp) (fun j hj => ?_) ⟨L2, ?_, hr, hB⟩
  ·show (w.heap.setIfInBounds _ _)[j]? = _
   rw [Array.getElem?_setIfInBounds_ne (by omega)]
  ·show (w.heap.setIfInBounds _ _)[t.rb]? = _
   rw [Array.getElem?_setIfInBounds_self_of_lt hrb]
 ·show (w.heap.setIfInBounds _ _)[j]? = _
  rw [Array.getElem?_setIfInBounds_ne (by omega)]
 ·simp only [Nat.lt_min] at hb
  rw [List.getElem?_set_ne (by omega)]
 ·simp only [Nat.lt_min] at hb
  show (w.heap.setIfInBounds _ _)[t'.rb]? = _
  rw [Array.getElem?_setIfInBounds_ne]
  exact fun e => hw.inj l b t t' _ o (by omega) ht ht' hH ho rfl hl e

theorem run_getLoop {l : Nat} {L : Loop} (h : w.heap[l]? = some (.loop L)) : (Instr.getLoop l).run P w = .ok L w := by
 unfold Instr.getLoop
 rw [run_bind_ok (a := .loop L) (w1 := w) (by simp only [getObj, Sem.run, h])]
 rfl

theorem run_setLoop {l : Nat} {L L2 : Loop} (h : w.heap[l]? = some (.loop L)) : (setObj l (.loop L2)).run P w = .ok () { w with heap := w.heap.setIfInBounds l (.loop L2) } := by
 simp only [setObj, Sem.run, h]

theorem run_beginRound {l : Nat} {L : Loop} (h : w.heap[l]? = some (.loop L)) (hs : L.state = .ready) :
  (Instr.beginRound l).run P w = .ok () { w with heap := w.heap.setIfInBounds l (.loop { L with state := .busy }) } := by
 unfold Instr.beginRound
 rw [run_bind_ok (run_getLoop h), run_bind_ok (run_setLoop h), hs]
 rfl

theorem run_endRound {l : Nat} {L : Loop} (j : Option Code) (h : w.heap[l]? = some (.loop L)) :
  (Instr.endRound l j).run P w = .ok (.bool j.isNone) { w with heap := w.heap.setIfInBounds l (.loop { L with state := if j.isNone then .ready else .done, pending := j }) } := by
 unfold Instr.endRound
 rw [run_bind_ok (run_getLoop h), run_bind_ok (run_setLoop h)]
 rfl

theorem fold_rel : ∀ (ps : List Tmp) (as as' : List Value) {xs ys : Array Value}, LRel ρ as as' → ARel ρ xs ys →
  ARel ρ ((ps.zip as).foldl (fun tmps (p : Tmp × Value) => tmps.setIfInBounds p.1 p.2) xs) ((ps.zip as').foldl (fun tmps (p : Tmp × Value) => tmps.setIfInBounds p.1 p.2) ys) := by
 intro ps
 induction ps with
 | nil => intro as as' xs ys _ h; simpa using h
 | cons p ps ih =>
  intro as as' xs ys ha h
  cases as with
  | nil => rw [ha.nil_iff]; simpa using h
  | cons a as =>
   obtain ⟨y, ys', rfl, hv, hr⟩ := ha.cons
   simp only [List.zip_cons_cons, List.foldl_cons]
   exact ih as ys' hr (h.set hv _)

theorem fold_arr (ps : Array Tmp) (as : Array Value) (xs : Array Value) :
  (ps.zip as).foldl (fun tmps (p : Tmp × Value) => tmps.setIfInBounds p.1 p.2) xs = (ps.toList.zip as.toList).foldl (fun tmps (p : Tmp × Value) => tmps.setIfInBounds p.1 p.2) xs := by
 rw [← Array.foldl_toList, Array.toList_zip]

theorem toList_toArray (a : Array Value) : a.toList.toArray = a := by simp

theorem round_sound {ec : EC} (hC : SoundC P ec) {l : Nat} {args : Array Value} {st st1 : St} {v : Value} (h : evRound ec l args st = some (v, st1)) :
  st1.lo ≤ st.lo ∧ ∀ B ρ w t args' n (R : Ending → World → Prop), WRel P B ρ st.H w → ρ[l]? = some t → ARel ρ args args' →
   (∀ v' ρ1 w1, Moved P B ρ st.H w ρ1 st1.H st1.lo w1 → VRel ρ1 v v' → R (.returned v') w1) →
   ∃ f tmps assign body, (Instr.yield t.rb args').run P w = .ok (.round t.rb f tmps assign body) w ∧ ∀ rd', RoundIn (fen rd') n P t.rb f tmps assign body w R := by
 unfold evRound at h
 split at h
 ·cases h
 ·rename_i r hr
  have hH := getLoop_some hr
  split at h
  ·cases h
  ·rename_i hsz
   have hsz : args.size = r.params.size := by simpa using hsz
   split at h
   ·rename_i fr1 st2 hassign
    obtain ⟨hlo1, hrd1, hsound1⟩ := hC _ _ _ _ _ _ hassign
    split at h
    ·rename_i r1 hr1
     have hH1 := getLoop_some hr1
     split at h
     ·cases h
     ·rename_i hready
      have hready : r1.state = .ready := by simpa using hready
      split at h
      ·rename_i x fr2 st3 hbody
       obtain ⟨hlo2, hrd2, hsound2⟩ := hC _ _ _ _ _ _ hbody
       split at h
       ·rename_i r2 hr2
        have hH2 := getLoop_some hr2
        simp only [Option.some.injEq, Prod.mk.injEq] at h
        obtain ⟨rfl, rfl⟩ := h
        simp only at hlo1 hlo2
        refine ⟨by simp only; omega, ?_⟩
        intro B ρ w t args' n R hw ht ha hR
        obtain ⟨L, hL, hLr, hLB⟩ := hw.blk _ _ _ ht hH
        have hrel0 : ARel ρ ((r.params.zip args).foldl (fun tmps (p : Tmp × Value) => tmps.setIfInBounds p.1 p.2) r.tmps) ((L.params.zip args').foldl (fun tmps (p : Tmp × Value) => tmps.setIfInBounds p.1 p.2) L.tmps) := by
         rw [fold_arr, fold_arr, hLr.params]
         exact fold_rel _ _ _ (LRel.of_arr ha) hLr.tmps
        refine ⟨L.fn, (L.params.zip args').foldl (fun tmps (p : Tmp × Value) => tmps.setIfInBounds p.1 p.2) L.tmps, L.assign, L.body, ?_, ?_⟩
        ·unfold Instr.yield
         rw [run_bind_ok (run_getLoop hL)]
         rw [if_neg (by rw [← ha.1, hsz, hLr.params]; simp)]
         rfl
        ·intro rd'
         refine roundIn_of_wpIn (F := fen rd') trivial ?_
         rw [hLr.assign, hLr.body]
         have hw1 := hsound1 B ρ w (some t.rb) ⟨(L.params.zip args').foldl (fun tmps (p : Tmp × Value) => tmps.setIfInBounds p.1 p.2) L.tmps, []⟩ n hw (by rw [toList_toArray]; exact hrel0) .nil (.some ht)
         refine wpIn_mono hw1 ?_
         rintro e a1 w1 ⟨rfl, ρ1, hm1, hat1, hds1⟩
         show ∃ w₂, _ ∧ _
         obtain ⟨L1, hL1, hLr1, _⟩ := hm1.rel.blk _ _ _ (prefix_get hm1.ext ht) hH1
         have hbusy : LoopRel ρ1 { r1 with state := .busy } { L1 with state := .busy } := ⟨rfl, hLr1.pending, hLr1.tmps, hLr1.params, hLr1.assign, hLr1.body, hLr1.defers⟩
         have hm2 := loop_set (lo := st2.lo) hm1.rel (prefix_get hm1.ext ht) hH1 hbusy
         refine ⟨_, run_beginRound hL1 (by rw [hLr1.state]; exact hready), ?_⟩
         have hw2 := hsound2 B ρ1 _ (some t.rb) a1 n hm2.rel hat1 hds1 (by rw [hrd1]; exact .some (prefix_get hm1.ext ht))
         refine wpIn_mono hw2 ?_
         rintro e a2 w2 ⟨rfl, ρ2, hm3, hat2, hds2⟩
         obtain ⟨L2, hL2, hLr2, _⟩ := hm3.rel.blk _ _ _ (prefix_get hm3.ext (prefix_get hm1.ext ht)) hH2
         have hdone : LoopRel ρ2 { r2 with state := if (jumpOf x).isNone then .ready else .done, pending := jumpOf x } { L2 with state := if (jumpOf x).isNone then .ready else .done, pending := jumpOf x } :=
          ⟨rfl, rfl, hLr2.tmps, hLr2.params, hLr2.assign, hLr2.body, hLr2.defers⟩
         have hm4 := loop_set (lo := st3.lo) hm3.rel (prefix_get hm3.ext (prefix_get hm1.ext ht)) hH2 hdone
         have hall := ((hm1.trans hm2 (Nat.min_le_left _ _)).trans hm3 hlo2).trans hm4 (Nat.min_le_left _ _)
         have hend := run_endRound (P := P) (jumpOf x) hL2
         have hRR := hR (.bool (jumpOf x).isNone) ρ2 _ hall (.atom rfl)
         cases x with
         | normal => exact ⟨_, _, hend, hRR⟩
         | exit id => exact ⟨_, _, hend, hRR⟩
         | ret => exact ⟨_, _, hend, hRR⟩
       ·cases h
      ·cases h
    ·cases h
   ·cases h

end Go.Abs

/- The abstract machine: whole operations, regions in the order of the text. -/
namespace Go.Abs
open Go Go.RowKit

variable {P : Program} {B : Nat} {ρ : Ren} {w : World}

theorem arun_lo {α : Type} (e : Sem α) {H H1 : List AObj} {lo lo1 : Nat} {v : α} (h : arun P e H lo = some (v, H1, lo1)) : lo1 ≤ lo := by
 induction e generalizing H lo with
 | pure a => simp only [arun, Option.some.injEq, Prod.mk.injEq] at h; omega
 | load m a k ih =>
  simp only [arun] at h
  split at h
  ·split at h
   ·exact ih _ h
   ·cases h
  ·cases h
 | store m a v k ih =>
  simp only [arun] at h
  split at h
  ·split at h
   ·exact Nat.le_trans (ih h) (Nat.min_le_left _ _)
   ·cases h
  ·cases h
 | new o k ih =>
  simp only [arun] at h
  split at h
  ·exact ih _ h
  ·cases h
 | getObj r k ih =>
  simp only [arun] at h
  split at h
  ·exact ih _ h
  ·cases h
 | setObj r o k ih =>
  simp only [arun] at h
  split at h
  ·split at h
   ·exact Nat.le_trans (ih h) (Nat.min_le_left _ _)
   ·cases h
  ·cases h
 | program k ih => exact ih _ h
 | mark m k ih => exact ih h
 | _ => cases h

theorem ofRun_lo {e : Sem Next} {st st1 : St} {v : Value} (h : ofRun (arun P e st.H st.lo) = some (.val v st1)) : st1.lo ≤ st.lo := by
 cases hr : arun P e st.H st.lo with
 | none => rw [hr] at h; cases h
 | some r =>
  obtain ⟨x, H1, lo1⟩ := r
  have := arun_lo e hr
  rw [hr] at h
  cases x <;> simp [ofRun] at h <;> (obtain ⟨_, rfl⟩ := h; exact this)

theorem bind_lo {e : Sem Next} {st st1 : St} {v : Value} (h : ((ofRun (arun P e st.H st.lo)).bind fun r => if capOk r then some r else none) = some (.val v st1)) : st1.lo ≤ st.lo := by
 cases hr : ofRun (arun P e st.H st.lo) with
 | none => rw [hr] at h; cases h
 | some r =>
  rw [hr] at h
  simp only [Option.bind_some] at h
  split at h
  ·simp only [Option.some.injEq] at h
   subst h
   exact ofRun_lo hr
  ·cases h

theorem ofPure_lo {r : Option Next} {st st1 : St} {v : Value} (h : ofPure r st = some (.val v st1)) : st1.lo ≤ st.lo := by
 obtain ⟨_, _, rfl⟩ := ofPure_done h; exact Nat.le_refl _

theorem astore_lo {st st1 : St} {b o : Nat} {vs : Array Value} (h : astore P st b o vs = some st1) : st1.lo ≤ st.lo := by
 unfold astore at h
 cases hr : arun P (storeCells ⟨b, o, none⟩ vs.toList) st.H st.lo with
 | none => rw [hr] at h; cases h
 | some r =>
  have := arun_lo _ hr
  rw [hr] at h
  simp only [Option.map_some, Option.some.injEq] at h
  subst h
  exact this

theorem aAppend_lo {st st1 : St} {ts : Array TypeId} {args : Array Value} {v : Value} (h : aAppend P st ts args = some (v, st1)) : st1.lo ≤ st.lo := by
 unfold aAppend at h
 repeat' (first
  | (cases h; done)
  | (simp only [Option.some.injEq, Prod.mk.injEq] at h; obtain ⟨-, rfl⟩ := h; first | exact Nat.le_refl _ | exact Nat.min_le_left _ _)
  | (simp only [Option.map_eq_some_iff, Prod.mk.injEq] at h; obtain ⟨s, hs, -, rfl⟩ := h; exact astore_lo hs)
  | (simp only [Option.bind_eq_some_iff] at h; obtain ⟨old, _, h⟩ := h)
  | split at h
  | dsimp only at h)

theorem aCopy_lo {st st1 : St} {ts : Array TypeId} {args : Array Value} {v : Value} (h : aCopy P st ts args = some (v, st1)) : st1.lo ≤ st.lo := by
 unfold aCopy at h
 repeat' (first
  | (cases h; done)
  | (simp only [Option.some.injEq, Prod.mk.injEq] at h; obtain ⟨-, rfl⟩ := h; exact Nat.le_refl _)
  | (simp only [Option.map_eq_some_iff, Prod.mk.injEq] at h; obtain ⟨s, hs, -, rfl⟩ := h; exact astore_lo hs)
  | (simp only [Option.bind_eq_some_iff] at h; obtain ⟨old, _, h⟩ := h)
  | split at h
  | dsimp only at h)

theorem aClear_lo {st st1 : St} {ts : Array TypeId} {args : Array Value} {v : Value} (h : aClear P st ts args = some (v, st1)) : st1.lo ≤ st.lo := by
 unfold aClear at h
 repeat' (first
  | (cases h; done)
  | (simp only [Option.some.injEq, Prod.mk.injEq] at h; obtain ⟨-, rfl⟩ := h; exact Nat.le_refl _)
  | (simp only [Option.map_eq_some_iff, Prod.mk.injEq] at h; obtain ⟨s, hs, -, rfl⟩ := h; exact astore_lo hs)
  | split at h
  | dsimp only at h)

theorem aUpdate_lo {st st1 : St} {t : TypeId} {x k v : Value} (h : aUpdate P st t x k v = some st1) : st1.lo ≤ st.lo := by
 unfold aUpdate at h
 split at h
 ·split at h
  ·simp only [Option.bind_eq_some_iff] at h
   obtain ⟨r, _, h⟩ := h
   split at h
   ·simp only [Option.some.injEq] at h; subst h; exact Nat.min_le_left _ _
   ·cases h
  ·cases h
 ·cases h

theorem aDelete_lo {st st1 : St} {ts : Array TypeId} {args : Array Value} (h : aDelete P st ts args = some st1) : st1.lo ≤ st.lo := by
 unfold aDelete at h
 repeat' (first
  | (cases h; done)
  | (simp only [Option.some.injEq] at h; subst h; exact Nat.min_le_left _ _)
  | (simp only [Option.bind_eq_some_iff] at h; obtain ⟨r, _, h⟩ := h)
  | split at h)

theorem aNext_lo {st st1 : St} {it v : Value} (h : aNext st it = some (v, st1)) : st1.lo ≤ st.lo := by
 unfold aNext at h
 repeat' (first
  | (cases h; done)
  | (simp only [Option.some.injEq, Prod.mk.injEq] at h; obtain ⟨-, rfl⟩ := h; first | exact Nat.le_refl _ | exact Nat.min_le_left _ _)
  | split at h)

theorem aRange_lo {r : Option AObj} {u : Value} {H : List AObj} {st st1 : St} {v : Value} (h : (r.map fun ob => ANext.val u ⟨H ++ [ob], st.lo⟩) = some (.val v st1)) : st1.lo ≤ st.lo := by
 cases r with
 | none => cases h
 | some a => simp only [Option.map_some, Option.some.injEq, ANext.val.injEq] at h; rw [← h.2]; exact Nat.le_refl _

theorem mapSt_lo {α : Type} {r : Option α} {f : α → Value} {st st1 : St} {v : Value} (h : (r.map fun a => ANext.val (f a) st) = some (.val v st1)) : st1.lo ≤ st.lo := by
 cases r with
 | none => cases h
 | some a => simp only [Option.map_some, Option.some.injEq, ANext.val.injEq] at h; rw [← h.2]; exact Nat.le_refl _

theorem mapPair_lo {r : Option (Value × St)} {st st1 : St} {v : Value} (h : (r.map fun a => ANext.val a.1 a.2) = some (.val v st1)) (k : ∀ u s, r = some (u, s) → s.lo ≤ st.lo) : st1.lo ≤ st.lo := by
 cases r with
 | none => cases h
 | some a => simp only [Option.map_some, Option.some.injEq, ANext.val.injEq] at h; rw [← h.2]; exact k _ _ rfl

theorem mapOne_lo {r : Option St} {u : Value} {st st1 : St} {v : Value} (h : (r.map fun a => ANext.val u a) = some (.val v st1)) (k : ∀ s, r = some s → s.lo ≤ st.lo) : st1.lo ≤ st.lo := by
 cases r with
 | none => cases h
 | some a => simp only [Option.map_some, Option.some.injEq, ANext.val.injEq] at h; rw [← h.2]; exact k _ rfl

theorem stepOp_lo {tm : List Value} {o : Oper} {st st1 : St} {v : Value} (h : stepOp P tm o st = some (.val v st1)) : st1.lo ≤ st.lo := by
 have ho := stepOp_ok h
 obtain ⟨dst, op, T, pos, after, guard⟩ := o
 unfold stepOp at h
 rw [if_pos ho] at h
 cases op with
 | call c =>
  obtain ⟨callee, as, ts⟩ := c
  cases callee with
  | value fv =>
   simp only at h
   split at h
   ·cases h
   ·split at h <;> cases h
   ·cases h
  | builtin b =>
   cases b <;> simp only at h <;> (repeat' (first
     | (cases h; done)
     | exact ofPure_lo h
     | exact mapSt_lo h
     | exact mapPair_lo h fun _ _ hs => aAppend_lo hs
     | exact mapPair_lo h fun _ _ hs => aCopy_lo hs
     | exact mapPair_lo h fun _ _ hs => aClear_lo hs
     | exact mapOne_lo h fun _ hs => aDelete_lo hs
     | split at h))
  | invoke => cases h
 | makeFunc fn a b => cases fn <;> first | (cases h; done) | exact ofRun_lo h
 | makeMap t r => cases r <;> first | (cases h; done) | exact ofRun_lo h
 | mapUpdate t m k x =>
  simp only at h
  split at h
  ·exact mapOne_lo h fun _ hs => aUpdate_lo hs
  ·cases h
 | range t x => exact aRange_lo h
 | next it s =>
  cases s with
  | true => cases h
  | false => exact mapPair_lo h fun _ _ hs => aNext_lo hs
 | _ =>
  simp only at h
  repeat' (first
    | (cases h; done)
    | exact ofRun_lo h
    | exact ofPure_lo h
    | exact mapSt_lo h
    | exact bind_lo h
    | split at h)

theorem wpIn_of_run {o : Oper} {a : Act} {rd' : Option Nat} {n : Nat} {K : Act → World → Prop} {Q : Exit → Act → World → Prop} (hd : ∀ c, o.op ≠ .defer c)
  (h : o.uponIn (fen rd') n P a K Q ((execOp a.eval o).run P w)) : o.wpIn (fen rd') n P a w K Q := by
 refine ⟨fun _ _ => trivial, ?_⟩
 rw [Oper.semAt_eq _ _ _ hd]
 exact h

theorem op_sound_at (hP : POk P) {ec : EC} {ef : EF} (hC : SoundC P ec) (hF : SoundF P ef) {tm : List Value} {o : Oper} {st st1 : St} {v : Value} (h : evOp P ec ef tm o st = some (v, st1)) :
  st1.lo ≤ st.lo ∧ ∀ B ρ w rd' (a : Act) n (K : Act → World → Prop) (Q : Exit → Act → World → Prop), WRel P B ρ st.H w → (∀ x ∈ o.op.operands, VRel ρ (aeval tm x) (a.eval x)) →
   (∀ v' ρ1 w1, Moved P B ρ st.H w ρ1 st1.H st1.lo w1 → VRel ρ1 v v' → K (a.put o.dst v') w1) → o.wpIn (fen rd') n P a w K Q := by
 unfold evOp at h
 split at h
 ·rename_i v0 st0 hs
  simp only [Option.some.injEq, Prod.mk.injEq] at h
  obtain ⟨rfl, rfl⟩ := h
  refine ⟨stepOp_lo hs, ?_⟩
  intro B ρ w rd' a n K Q hw ht hK
  refine wpIn_of_run (stepOp_noDefer hs) ?_
  obtain ⟨_, ρ1, v', w1, hr, hm, hv⟩ := step_val hP hw ht hs
  rcases hr with hr | ⟨hr, rfl⟩
  ·rw [hr]; exact hK _ _ _ hm hv
  ·rw [hr]; exact hK _ _ _ hm hv
 ·rename_i g args hs
  obtain ⟨hlo, ⟨fn, c, hfn, hb⟩, hcall⟩ := hF _ _ _ _ _ h
  refine ⟨hlo, ?_⟩
  intro B ρ w rd' a n K Q hw ht hK
  refine wpIn_of_run (stepOp_noDefer hs) ?_
  obtain ⟨args', ha, hr⟩ := step_enter (w := w) hP ht hs hfn hb
  rw [hr]
  refine ⟨fun h => absurd h (by simp [fen, Fence.wide]), callsIn_fen ?_⟩
  refine (hcall B ρ w args' hw ha).mono ?_
  rintro e w1 ⟨v', ρ1, rfl, hm, hv⟩
  exact hK _ _ _ hm hv
 ·rename_i l args hs
  obtain ⟨hlo, hround⟩ := round_sound hC h
  refine ⟨hlo, ?_⟩
  intro B ρ w rd' a n K Q hw ht hK
  refine wpIn_of_run (stepOp_noDefer hs) ?_
  obtain ⟨t, args', hl, ha, hr⟩ := step_yield (w := w) ht hs
  obtain ⟨f, tmps, assign, body, hy, hR⟩ := hround B ρ w t args' (n - 1) (fun
    | .returned v, w'' => K (a.put o.dst v) w''
    | .panicked chain, w'' => Q (.panic chain) a w''
    | .outgrown, _ => LetsOut Q) hw hl ha (fun v' ρ1 w1 hm hv => hK _ _ _ hm hv)
  rw [hr, hy]
  exact ⟨fun h => absurd h (by simp [fen, Fence.wide]), hR rd'⟩
 ·cases h

theorem evOp_ok {ec : EC} {ef : EF} {tm : List Value} {o : Oper} {st : St} {r : Value × St} (h : evOp P ec ef tm o st = some r) : opsOk o = true := by
 unfold evOp at h
 split at h
 ·rename_i hs; exact stepOp_ok hs
 ·rename_i hs; exact stepOp_ok hs
 ·rename_i hs; exact stepOp_ok hs
 ·cases h

theorem op_sound (hP : POk P) {ec : EC} {ef : EF} (hC : SoundC P ec) (hF : SoundF P ef) {tm : List Value} {o : Oper} {st st1 : St} {v : Value} (h : evOp P ec ef tm o st = some (v, st1)) :
  st1.lo ≤ st.lo ∧ ∀ B ρ w rd' (a : Act) n (K : Act → World → Prop) (Q : Exit → Act → World → Prop), WRel P B ρ st.H w → ARel ρ tm.toArray a.tmps →
   (∀ v' ρ1 w1, Moved P B ρ st.H w ρ1 st1.H st1.lo w1 → VRel ρ1 v v' → K (a.put o.dst v') w1) → o.wpIn (fen rd') n P a w K Q := by
 obtain ⟨h1, h2⟩ := op_sound_at hP hC hF h
 exact ⟨h1, fun B ρ w rd' a n K Q hw ht hK => h2 B ρ w rd' a n K Q hw (opds_rel ht (evOp_ok h)) hK⟩

theorem yielded_rel {tm : List Value} {a : Act} (ht : ARel ρ tm.toArray a.tmps) (ops : Array Oper) (j : Nat) : yieldedA ops tm j = yielded ops a.tmps j := by
 unfold yieldedA yielded
 cases ((ops[j]?).bind (·.dst)) with
 | none => rfl
 | some d =>
  simp only [Option.bind_some]
  have hr := ht.2 d
  have hs := ht.1
  by_cases hd : d < tm.length
  ·have hd' : d < a.tmps.size := by rw [← hs]; simpa using hd
   simp [hd, hd'] at hr ⊢
   generalize tm[d] = x at hr
   generalize a.tmps[d] = y at hr
   cases hr <;> rfl
  ·have hd' : ¬ d < a.tmps.size := by rw [← hs]; simpa using hd
   simp [hd, hd']

theorem put_rel {tm : List Value} {a : Act} {v v' : Value} (ht : ARel ρ tm.toArray a.tmps) (hv : VRel ρ v v') (dst : Option Tmp) : ARel ρ (put tm dst v).toArray (a.put dst v').tmps := by
 cases dst with
 | none => exact ht
 | some d =>
  have := ht.set hv d
  simpa [put, Act.put] using this

theorem put_defers (a : Act) (dst : Option Tmp) (v : Value) : (a.put dst v).defers = a.defers := by
 cases dst <;> rfl

theorem ops_sound (hP : POk P) {ec : EC} {ef : EF} (hC : SoundC P ec) (hF : SoundF P ef) (ops : Array Oper) : ∀ (rest : List Oper) (k : Nat) (tm : List Value) (st : St) (tm1 : List Value) (st1 : St), ops.toList.drop k = rest →
  evOps P ec ef ops rest tm st = some (tm1, st1) → st1.lo ≤ st.lo ∧ ∀ B ρ w rd' (a : Act) n, WRel P B ρ st.H w → ARel ρ tm.toArray a.tmps →
   ∀ (Q : Exit → Act → World → Prop), (∀ ρ1 a1 w1, Moved P B ρ st.H w ρ1 st1.H st1.lo w1 → ARel ρ1 tm1.toArray a1.tmps → a1.defers = a.defers → Q .normal a1 w1) →
    wpOpsIn (fen rd') n P ops Q (List.range' k rest.length) a w := by
 intro rest
 induction rest with
 | nil =>
  intro k tm st tm1 st1 _ h
  simp only [evOps, Option.some.injEq, Prod.mk.injEq] at h
  obtain ⟨rfl, rfl⟩ := h
  exact ⟨Nat.le_refl _, fun B ρ w rd' a n hw ht Q hQ => hQ ρ a w (Moved.refl hw _) ht rfl⟩
 | cons o rest ih =>
  intro k tm st tm1 st1 hd h
  have hk : ops[k]? = some o := by
   have : (ops.toList.drop k)[0]? = some o := by rw [hd]; rfl
   simpa using this
  have hd' : ops.toList.drop (k + 1) = rest := by
   rw [← List.drop_drop, hd]; rfl
  simp only [evOps] at h
  split at h
  ·rename_i hw
   split at h
   ·rename_i v st2 hop
    obtain ⟨hlo, hsound⟩ := op_sound hP hC hF hop
    obtain ⟨hlo2, hrest⟩ := ih (k + 1) _ _ _ _ hd' h
    refine ⟨Nat.le_trans hlo2 hlo, ?_⟩
    intro B ρ w rd' a n hwr ht Q hQ
    simp only [List.length_cons, List.range'_succ, wpOpsIn, hk]
    have hwant : Region.wanted o (yielded ops a.tmps) = true := by
     rw [← hw]; congr 1; funext j; exact (yielded_rel ht ops j).symm
    rw [if_pos hwant]
    refine hsound B ρ w rd' a n _ Q hwr ht ?_
    intro v' ρ1 w1 hm hv
    refine hrest B ρ1 w1 rd' _ n hm.rel (put_rel (ht.mono hm.ext) hv _) Q ?_
    intro ρ2 a1 w2 hm2 ht2 hdef
    exact hQ ρ2 a1 w2 (hm.trans hm2 hlo2) ht2 (by rw [hdef, put_defers])
   ·cases h
  ·rename_i hw
   obtain ⟨hlo2, hrest⟩ := ih (k + 1) _ _ _ _ hd' h
   refine ⟨hlo2, ?_⟩
   intro B ρ w rd' a n hwr ht Q hQ
   simp only [List.length_cons, List.range'_succ, wpOpsIn, hk]
   have hwant : ¬ Region.wanted o (yielded ops a.tmps) = true := by
    have : Region.wanted o (yielded ops a.tmps) = Region.wanted o (yieldedA ops tm) := by congr 1; funext j; exact (yielded_rel ht ops j).symm
    rw [this]; exact hw
   rw [if_neg hwant]
   refine ⟨fun _ _ => trivial, ?_⟩
   refine hrest B ρ w rd' _ n hwr (put_rel ht .nil _) Q ?_
   intro ρ2 a1 w2 hm2 ht2 hdef
   exact hQ ρ2 a1 w2 hm2 ht2 (by rw [hdef, put_defers])

end Go.Abs

/- The abstract machine: code, calls, and the machine whole. -/
namespace Go.Abs
open Go Go.RowKit

variable {P : Program} {B : Nat} {ρ : Ren} {w : World}

/-! ### Trees that only read -/

def ro {α : Type} : Sem α → Program → Prop
 | .load _ _ k, P => ∀ v, ro (k v) P
 | .store .., _ => False
 | .new .., _ => False
 | .getObj .., _ => False
 | .setObj .., _ => False
 | .shape .., _ => False
 | .freeze .., _ => False
 | .frozen .., _ => False
 | .choose .., _ => False
 | .sys .., _ => False
 | .program k, P => ro (k P) P
 | .mark _ k, P => ro k P
 | _, _ => True

theorem ro_bind {α β : Type} {e : Sem α} {f : α → Sem β} (h : ro e P) (k : ∀ a, ro (f a) P) : ro (e >>= f) P := by
 change ro (e.bind f) P
 induction e with
 | pure a => exact k a
 | program k' ih => exact ih P h
 | mark m k' ih => exact ih h
 | load m a k' ih => exact fun v => ih v (h v)
 | store => exact h.elim
 | new => exact h.elim
 | getObj => exact h.elim
 | setObj => exact h.elim
 | shape => exact h.elim
 | freeze => exact h.elim
 | frozen => exact h.elim
 | choose => exact h.elim
 | sys => exact h.elim
 | _ => trivial

theorem ro_run {α : Type} {e : Sem α} (h : ro e P) {v : α} {w1 : World} (hr : e.run P w = .ok v w1) : w1 = w := by
 induction e with
 | pure a => simp only [Sem.run, Result.ok.injEq] at hr; exact hr.2.symm
 | program k' ih => exact ih P h hr
 | mark m k' ih => exact ih h hr
 | load m a k' ih =>
  simp only [Sem.run] at hr
  split at hr
  ·exact ih _ (h _) hr
  ·split at hr
   ·exact ih _ (h _) hr
   ·cases hr
 | store => exact h.elim
 | new => exact h.elim
 | getObj => exact h.elim
 | setObj => exact h.elim
 | shape => exact h.elim
 | freeze => exact h.elim
 | frozen => exact h.elim
 | choose => exact h.elim
 | sys => exact h.elim
 | halt => cases hr

theorem ro_typeInfo (t : TypeId) : ro (typeInfo t) P := by
 unfold typeInfo
 refine ro_bind trivial fun p => ?_
 split <;> trivial

theorem ro_underlying (t : TypeId) : ro (underlying t) P := by
 unfold underlying
 refine ro_bind trivial fun p => ?_
 split <;> trivial

theorem ro_loadCells (a : Addr) : ∀ (n i : Nat) (acc : Array Value), ro (loadCellsFrom a i n acc) P
 | 0, _, _ => trivial
 | n + 1, i, _ => ro_bind (fun _ => trivial) fun _ => ro_loadCells a n (i + 1) _

theorem ro_loadVar (t : TypeId) (a : Addr) : ro (loadVar t a) P := by
 unfold loadVar isAgg sizeOf
 refine ro_bind (ro_bind (ro_underlying t) fun d => ?_) fun b => ?_
 ·split <;> trivial
 ·split
  ·exact ro_bind (ro_bind (ro_typeInfo t) fun _ => trivial) fun n => ro_bind (ro_loadCells a n 0 #[]) fun _ => trivial
  ·exact fun _ => trivial

theorem ro_mapM {α β : Type} {f : α → Sem β} (h : ∀ a, ro (f a) P) : ∀ (l : List α), ro (l.mapM f) P
 | [] => by simp; trivial
 | a :: l => by
  rw [List.mapM_cons]
  exact ro_bind (h a) fun b => ro_bind (ro_mapM h l) fun bs => trivial

theorem ro_results (fn : Func) (tmps : Array Value) : ro (results fn tmps) P := by
 unfold results
 refine ro_bind ?_ fun vs => trivial
 rw [Array.mapM_eq_mapM_toList]
 refine ro_bind (ro_mapM (fun r => ?_) _) fun _ => trivial
 cases r with
 | tmp t => trivial
 | cell a t =>
  refine ro_bind ?_ fun x => ro_loadVar t x
  generalize tmps.getD a undef = u
  cases u <;> first | trivial | (rename_i a; cases a <;> trivial)

/-! ### The results of a function -/

theorem sim_asAddr {H : List AObj} {v v' : Value} (h : VRel ρ v v') : Sim P B ρ H (fun ρ a a' => ∃ b o t, a = ⟨b, o, none⟩ ∧ a' = ⟨t.rb, t.ro + o, none⟩ ∧ ρ[b]? = some t) (asAddr v) (asAddr v') := by
 cases h with
 | ptr h => exact Sim.pure ⟨_, _, _, rfl, rfl, h⟩
 | atom ha =>
  cases v <;> first | exact Sim.halt | (rename_i a; cases a <;> first | exact Sim.fail fun _ _ => rfl | (simp [isAtom] at ha))
 | _ => exact Sim.halt

theorem sim_mapM {α : Type} {f g : α → Sem Value} : ∀ (l : List α) {ρ : Ren} {H : List AObj}, (∀ a ∈ l, ∀ ρ1 H1, ρ <+: ρ1 → Sim P B ρ1 H1 VRel (f a) (g a)) → Sim P B ρ H LRel (l.mapM f) (l.mapM g)
 | [], ρ, H, _ => by
  simp only [List.mapM_nil]
  exact Sim.pure (ARel.empty ρ)
 | a :: l, ρ, H, h => by
  rw [List.mapM_cons, List.mapM_cons]
  refine Sim.bind (h a (by simp) ρ H (List.prefix_refl _)) fun ρ1 H1 v v' hρ hv => ?_
  refine Sim.bind (sim_mapM l fun b hb ρ2 H2 hρ2 => h b (by simp [hb]) ρ2 H2 (hρ.trans hρ2)) fun ρ2 H2 vs vs' hρ2 hvs => ?_
  refine Sim.pure ?_
  have hv2 := hv.mono hρ2
  refine ⟨by simpa using hvs.1, fun i => ?_⟩
  cases i with
  | zero => simpa using hv2
  | succ i => simpa using hvs.2 i

theorem sim_results {H : List AObj} {fn : Func} {tm : List Value} {tmps : Array Value} (ht : ARel ρ tm.toArray tmps) : Sim P B ρ H VRel (results fn tm.toArray) (results fn tmps) := by
 unfold results
 refine Sim.bind (R := ARel) ?_ fun ρ1 H1 vs vs' hρ hvs => ?_
 ·rw [Array.mapM_eq_mapM_toList, Array.mapM_eq_mapM_toList]
  refine Sim.bind (sim_mapM _ fun r _ ρ1 H1 hρ => ?_) fun ρ2 H2 vs vs' hρ2 hvs => Sim.pure hvs
  cases r with
  | tmp t => exact Sim.pure ((ht.2 t).mono hρ)
  | cell a t =>
   refine Sim.bind (sim_asAddr ((ht.2 a).mono hρ)) fun ρ2 H2 x x' hρ2 hx => ?_
   obtain ⟨b, o, tt, rfl, rfl, htt⟩ := hx
   exact sim_loadVar htt t
 ·refine Sim.pure ?_
  have e := hvs.1
  by_cases h1 : vs.size = 1
  ·rw [dif_pos h1, dif_pos (by omega)]
   have := hvs.2 0
   simpa [h1, show vs'.size = 1 by omega] using this
  ·rw [dif_neg h1, dif_neg (by omega)]
   exact .tuple hvs.1 hvs.2

/-! ### Leaving a function: the marks of its loops -/

theorem marks_sound {F : Fence} {n : Nat} {fn : Func} {tmps : Array Value} {R : Ending → World → Prop} {B0 : Nat} : ∀ (ds : List Nat) (ds' : List Deferred) (H H2 : List AObj) (w : World) (lo : Nat), WRel P B ρ H w → DRel ρ ds ds' → killMarks ds H = some H2 →
  (∀ w2, Moved P B ρ H w ρ H2 (lowest lo ds) w2 → ∃ v, (results fn tmps).run P w2 = .ok v w2 ∧ R (.returned v) w2) → B0 = B0 → LeavesInM F n P fn tmps R ds' .returning w := by
 intro ds
 induction ds with
 | nil =>
  intro ds' H H2 w lo hw hd hk h _
  cases hd
  simp only [killMarks, Option.some.injEq] at hk
  subst hk
  exact h w (Moved.refl hw _)
 | cons d ds ih =>
  intro ds' H H2 w lo hw hd hk h _
  cases hd with
  | cons ht hr =>
   rename_i t ds'
   simp only [killMarks] at hk
   split at hk
   ·rename_i hH
    obtain ⟨h1, hB⟩ := hw.blk _ _ _ ht hH
    have hrb : t.rb < w.heap.size := (Array.getElem?_eq_some_iff.1 h1).1
    refine ⟨by simp, .inl ⟨t.rb, { w with heap := w.heap.setIfInBounds t.rb (.deferred none) }, rfl, ?_, ?_⟩⟩
    ·unfold Instr.takeDeferred
     rw [run_bind_ok (a := .deferred (some [])) (w1 := w) (by simp only [getObj, Sem.run, h1])]
     simp only
     rw [run_bind_ok (a := ()) (w1 := { w with heap := w.heap.setIfInBounds t.rb (.deferred none) }) (by simp only [setObj, Sem.run, h1])]
     rfl
    ·have hm : Moved P B ρ H w ρ (H.set d .dead) (min lo d) { w with heap := w.heap.setIfInBounds t.rb (.deferred none) } := by
      refine ⟨List.prefix_refl _, ?_, ⟨rfl, rfl, rfl, by simp, fun j hj => ?_⟩, fun b hb _ => ?_, fun b t' o hb ht' ho hl => ?_, by simp, Frames.set ht hH rfl (fun j hj => by show (w.heap.setIfInBounds _ _)[j]? = _; rw [Array.getElem?_setIfInBounds_ne (by omega)]) _⟩
      ·refine hw.setBlock ht hH rfl (by simp) (fun j hj => ?_) trivial
       show (w.heap.setIfInBounds _ _)[j]? = _
       rw [Array.getElem?_setIfInBounds_ne (by omega)]
      ·show (w.heap.setIfInBounds _ _)[j]? = _
       rw [Array.getElem?_setIfInBounds_ne (by omega)]
      ·simp only [Nat.lt_min] at hb
       rw [List.getElem?_set_ne (by omega)]
      ·simp only [Nat.lt_min] at hb
       show (w.heap.setIfInBounds _ _)[t'.rb]? = _
       rw [Array.getElem?_setIfInBounds_ne]
       exact fun e => hw.inj d b t t' _ o (by omega) ht ht' hH ho rfl hl e
     refine ih ds' _ _ _ (min lo d) hm.rel hr hk ?_ rfl
     intro w2 hm2
     refine h w2 ?_
     have hle : lowest (min lo d) ds ≤ min lo d := by
      have key : ∀ (l : List Nat) (x : Nat), lowest x l ≤ x := by
       intro l
       induction l with
       | nil => intro x; exact Nat.le_refl _
       | cons y l ih => intro x; exact Nat.le_trans (ih (min x y)) (Nat.min_le_left _ _)
      exact key ds _
     exact hm.trans hm2 hle
   ·cases hk

theorem lowest_le : ∀ (l : List Nat) (x : Nat), lowest x l ≤ x
 | [], _ => Nat.le_refl _
 | y :: l, x => Nat.le_trans (lowest_le l (min x y)) (Nat.min_le_left _ _)

theorem call_sound {ec : EC} (hC : SoundC P ec) : SoundF P (stepCall P ec) := by
 intro f args st v st1 h
 unfold stepCall at h
 split at h
 ·cases h
 ·rename_i fn hfn
  split at h
  ·cases h
  ·rename_i body hb
   dsimp only at h
   split at h
   ·rename_i x fr st2 hbody
    obtain ⟨hlo, hrd, hsound⟩ := hC _ _ _ _ _ _ hbody
    simp only at hlo hrd
    have fin : ∀ H2 v0 H3 lo3, killMarks fr.ds st2.H = some H2 → arun P (results fn fr.tm.toArray) H2 (lowest st2.lo fr.ds) = some (v0, H3, lo3) → (x = .normal ∨ x = .ret) →
      (if closed v0 && decide (st.H.length ≤ lo3) then some (v0, st) else some (v0, ⟨H3, min st.lo lo3⟩)) = some (v, st1) →
      st1.lo ≤ st.lo ∧ (∃ fn c, P.funcs[f]? = some fn ∧ fn.body = some c) ∧ ∀ B ρ w args', WRel P B ρ st.H w → ARel ρ args args' → Calls P f args' w (PostF P B ρ st.H w v st1) := by
     intro H2 v0 H3 lo3 hk hres hx hfin
     have hlo3 : lo3 ≤ st.H.length := by
      have := arun_lo _ hres
      have := lowest_le fr.ds st2.lo
      omega
     refine ⟨?_, ⟨fn, body, hfn, hb⟩, ?_⟩
     ·split at hfin
      ·simp only [Option.some.injEq, Prod.mk.injEq] at hfin; rw [← hfin.2]; exact Nat.le_refl _
      ·simp only [Option.some.injEq, Prod.mk.injEq] at hfin; rw [← hfin.2]; exact Nat.min_le_left _ _
     ·intro B ρ w args' hw ha
      refine calls_fen (r := none) (n := 0) (callsIn_of_wp_marks (F := fen none) (n := 0) hfn hb trivial ?_ rfl)
      have hargs : ARel ρ (args.toList ++ List.replicate (fn.ntmps - args.size) undef).toArray (args' ++ Array.replicate (fn.ntmps - args'.size) undef) := by
       have h1 : (args.toList ++ List.replicate (fn.ntmps - args.size) undef).toArray = args ++ Array.replicate (fn.ntmps - args.size) undef := by
        apply Array.ext'
        simp
       rw [h1, ← ha.1]
       refine ha.append ⟨by simp, fun i => ?_⟩
       by_cases hi : i < fn.ntmps - args.size
       ·simp [hi]; exact .nil
       ·simp [hi]; exact .nil
      have hw1 := hsound B ρ w none ⟨args' ++ Array.replicate (fn.ntmps - args'.size) undef, []⟩ 0 hw hargs .nil .none
      refine wpIn_mono hw1 ?_
      rintro e a1 w1 ⟨rfl, ρ1, hm1, ht1, hd1⟩
      have leave : LeavesInM (fen none) 0 P fn a1.tmps (PostF P B ρ st.H w v st1) a1.defers .returning w1 := by
       refine marks_sound (B0 := 0) fr.ds a1.defers st2.H H2 w1 st2.lo hm1.rel hd1 hk ?_ rfl
       intro w2 hm2
       obtain ⟨hl3, ρ3, v', w3, r1, r2, r3⟩ := sim_results (fn := fn) (ht1.mono hm2.ext) w2 hm2.rel _ _ _ _ hres
       have hsame := ro_run (ro_results fn a1.tmps) r1
       subst hsame
       refine ⟨v', r1, ?_⟩
       have hall : Moved P B ρ st.H w ρ3 H3 lo3 w3 := (hm1.trans hm2 (lowest_le _ _)).trans r2 hl3
       split at hfin
       ·rename_i hc
        simp only [Bool.and_eq_true, decide_eq_true_eq] at hc
        simp only [Option.some.injEq, Prod.mk.injEq] at hfin
        obtain ⟨rfl, rfl⟩ := hfin
        have hv' := closed_eq 4 hc.1 r3
        subst hv'
        exact ⟨_, ρ, rfl, hall.forget hw hc.2, closed_rel ρ 4 _ hc.1⟩
       ·simp only [Option.some.injEq, Prod.mk.injEq] at hfin
        obtain ⟨rfl, rfl⟩ := hfin
        exact ⟨_, ρ3, rfl, hall.lower (Nat.min_le_right _ _), r3⟩
      rcases hx with rfl | rfl
      ·exact leave
      ·exact leave
    cases x with
    | exit id => cases h
    | normal =>
     simp only at h
     split at h
     ·cases h
     ·rename_i H2 hk
      split at h
      ·rename_i v0 H3 lo3 hres
       exact fin H2 v0 H3 lo3 hk hres (.inl rfl) h
      ·cases h
    | ret =>
     simp only at h
     split at h
     ·cases h
     ·rename_i H2 hk
      split at h
      ·rename_i v0 H3 lo3 hres
       exact fin H2 v0 H3 lo3 hk hres (.inr rfl) h
      ·cases h
   ·cases h

end Go.Abs

/- The abstract machine: a range over a function; code. -/
namespace Go.Abs
open Go Go.RowKit

variable {P : Program} {B : Nat} {ρ : Ren} {w : World}

theorem WRel.addLoop {H : List AObj} (hw : WRel P B ρ H w) {r L : Loop} {d : Nat} {t : Ent} (hd : ρ[d]? = some t) (h1 : L.state = r.state) (h2 : L.pending = r.pending) (h3 : ARel ρ r.tmps L.tmps)
  (h4 : L.params = r.params) (h5 : L.assign = r.assign) (h6 : L.body = r.body) (h7 : r.defers = d) (h8 : L.defers = t.rb) (lo : Nat) :
  Moved P B ρ H w (ρ ++ [⟨w.heap.size, 0, 0, 0⟩]) (H ++ [.loop r]) lo { w with heap := w.heap.push (.loop L) } := by
 refine ⟨List.prefix_append _ _, hw.push rfl ⟨L, by simp, ⟨h1, h2, h3.mono (List.prefix_append _ _), h4, h5, h6, t, ?_, h8⟩, hw.base⟩, (Below.refl B w).alloc hw.base _, fun b hb hbl => by rw [List.getElem?_append_left hbl], fun b t' o hb ht ho hl => ?_, by simp, Frames.push hw.len _ (Nat.le_refl _) (heap_push_old _ _)⟩
 ·rw [h7]; exact prefix_get (List.prefix_append _ _) hd
 ·have := (hw.blk b t' o ht ho).lt hl
  show (w.heap.push _)[t'.rb]? = _
  rw [Array.getElem?_push, if_neg (by omega)]

theorem WRel.addDeferred {H : List AObj} (hw : WRel P B ρ H w) (lo : Nat) :
  Moved P B ρ H w (ρ ++ [⟨w.heap.size, 0, 0, 0⟩]) (H ++ [.deferred]) lo { w with heap := w.heap.push (.deferred (some [])) } := by
 refine ⟨List.prefix_append _ _, hw.push rfl ⟨by simp, hw.base⟩, (Below.refl B w).alloc hw.base _, fun b hb hbl => by rw [List.getElem?_append_left hbl], fun b t' o hb ht ho hl => ?_, by simp, Frames.push hw.len _ (Nat.le_refl _) (heap_push_old _ _)⟩
 have := (hw.blk b t' o ht ho).lt hl
 show (w.heap.push _)[t'.rb]? = _
 rw [Array.getElem?_push, if_neg (by omega)]

theorem last_get {ρ : Ren} {H : List AObj} (hl : ρ.length = H.length) (t : Ent) : (ρ ++ [t])[H.length]? = some t := by
 rw [List.getElem?_append_right (by rw [hl]; exact Nat.le_refl _), hl, Nat.sub_self]; rfl

theorem enter_sound {H : List AObj} {fr : Fr} {params : Array Tmp} {assign body : Code} {d : Nat} {mark : List Nat} {H1 : List AObj} {rd' : Option Nat} {a : Act} {lo : Nat} (fn : FuncId)
  (hw : WRel P B ρ H w) (ht : ARel ρ fr.tm.toArray a.tmps) (hr : RRel ρ fr.rd rd')
  (h : (match fr.rd with
   | some l => (getLoop H l).map fun r => (r.defers, [], H)
   | none => some (H.length, [H.length], H ++ [.deferred])) = some (d, mark, H1)) :
  ∃ l' mark' w1 ρ1, (Instr.enterLoop fn a.tmps params assign body rd').run P w = .ok (l', mark') w1 ∧
   Moved P B ρ H w ρ1 (H1 ++ [.loop { state := .ready, pending := none, fn := 0, tmps := fr.tm.toArray, params, assign, body, defers := d }]) lo w1 ∧
   (∃ t, ρ1[H1.length]? = some t ∧ t.rb = l') ∧ DRel ρ1 mark mark' := by
 obtain ⟨tm, ds, rd⟩ := fr
 simp only at h ht hr ⊢
 cases hr with
 | none =>
  simp only [Option.some.injEq, Prod.mk.injEq] at h
  obtain ⟨rfl, rfl, rfl⟩ := h
  have m1 := hw.addDeferred lo
  have g1 := last_get hw.len (⟨w.heap.size, 0, 0, 0⟩ : Ent)
  have m2 := WRel.addLoop (w := { w with heap := w.heap.push (.deferred (some [])) }) m1.rel (L := { state := .ready, pending := none, fn, tmps := a.tmps, params, assign, body, defers := w.heap.size })
   (r := { state := .ready, pending := none, fn := 0, tmps := tm.toArray, params, assign, body, defers := H.length }) g1 rfl rfl (ht.mono (List.prefix_append _ _)) rfl rfl rfl rfl rfl lo
  refine ⟨(w.heap.push (.deferred (some []))).size, [{ target := .collected w.heap.size, args := #[] }], _, _, ?_, m1.trans m2 (Nat.le_refl _), ?_, ?_⟩
  ·rfl
  ·refine ⟨⟨(w.heap.push (.deferred (some []))).size, 0, 0, 0⟩, ?_, rfl⟩
   exact last_get m1.rel.len _
  ·exact .cons (t := ⟨w.heap.size, 0, 0, 0⟩) (prefix_get (List.prefix_append _ _) g1) .nil
 | some hl =>
  rename_i l t
  simp only at h
  cases hg : getLoop H l with
  | none => rw [hg] at h; cases h
  | some r =>
   rw [hg] at h
   simp only [Option.map_some, Option.some.injEq, Prod.mk.injEq] at h
   obtain ⟨rfl, rfl, rfl⟩ := h
   obtain ⟨L, hL, hLr, _⟩ := hw.blk _ _ _ hl (getLoop_some hg)
   obtain ⟨td, hd, hd2⟩ := hLr.defers
   have m2 := hw.addLoop (L := { state := .ready, pending := none, fn, tmps := a.tmps, params, assign, body, defers := L.defers })
    (r := { state := .ready, pending := none, fn := 0, tmps := tm.toArray, params, assign, body, defers := r.defers }) hd rfl rfl ht rfl rfl rfl rfl hd2 lo
   refine ⟨w.heap.size, [], _, _, ?_, m2, ⟨⟨w.heap.size, 0, 0, 0⟩, last_get hw.len _, rfl⟩, .nil⟩
   unfold Instr.enterLoop
   simp only
   rw [run_bind_ok (run_getLoop hL)]
   rfl

theorem DRel.append {ρ : Ren} {ds es : List Nat} {ds' es' : List Deferred} (h : DRel ρ ds ds') (k : DRel ρ es es') : DRel ρ (ds ++ es) (ds' ++ es') := by
 induction h with
 | nil => exact k
 | cons h _ ih => exact .cons h ih

theorem run_endLoop {l : Nat} {L : Loop} (h : w.heap[l]? = some (.loop L)) (hs : (L.state == .busy) = false) :
  (Instr.endLoop l).run P w = .ok L.pending { w with heap := w.heap.setIfInBounds l (.loop { L with state := .exhausted }) } := by
 unfold Instr.endLoop
 rw [run_bind_ok (run_getLoop h)]
 simp only [hs, Bool.false_eq_true, if_false]
 rw [run_bind_ok (run_setLoop h)]
 rfl

theorem range_sound (hP : POk P) {ec : EC} {ef : EF} (hC : SoundC P ec) (hF : SoundF P ef) {f : Operand} {params : Array Tmp} {assign body : Code} {fr fr1 : Fr} {st st1 : St} {x : AX}
  (h : evRange ec ef f params assign body fr st = some (x, fr1, st1)) : st1.lo ≤ st.lo ∧ fr1.rd = fr.rd ∧
   ∀ B ρ w rd' (a : Act) n, WRel P B ρ st.H w → ARel ρ fr.tm.toArray a.tmps → DRel ρ fr.ds a.defers → RRel ρ fr.rd rd' →
    (Code.rangeFunc f params assign body).wpIn (fen rd') n P (PostC P B ρ st.H w x fr1 st1) a w := by
 unfold evRange at h
 split at h
 ·rename_i t
  split at h
  ·rename_i g first captured hv
   dsimp only at h
   split at h
   ·cases h
   ·rename_i d mark H1 hpre
    split at h
    ·rename_i v0 st2 hcall
     obtain ⟨hlo, ⟨fn, c, hfn, hb⟩, hsound⟩ := hF _ _ _ _ _ hcall
     simp only at hlo
     split at h
     ·rename_i r1 hr1
      have hH1 := getLoop_some hr1
      split at h
      ·cases h
      ·rename_i hbusy
       have hbusy : (r1.state == .busy) = false := by simpa using hbusy
       have main : ∀ (Q : Exit → Act → World → Prop) B ρ w rd' (a : Act) n, WRel P B ρ st.H w → ARel ρ fr.tm.toArray a.tmps → DRel ρ fr.ds a.defers → RRel ρ fr.rd rd' →
         (∀ ρ4 a' w4, Moved P B ρ st.H w ρ4 (st2.H.set H1.length (.loop { r1 with state := .exhausted })) (min st2.lo H1.length) w4 → ARel ρ4 fr.tm.toArray a'.tmps → DRel ρ4 (mark ++ fr.ds) a'.defers → RRel ρ4 fr.rd rd' →
          (match r1.pending with
           | none => Q .normal a' w4
           | some c => c.wpIn (fen rd') n P Q a' w4)) →
         (Code.rangeFunc (.tmp t) params assign body).wpIn (fen rd') n P Q a w := by
        intro Q B ρ w rd' a n hw ht hds hrd hQ
        refine wpIn_rangeFunc ?_
        intro fn0 _
        obtain ⟨l', mark', w1, ρ1, he, hm1, ⟨tl, htl, hl'⟩, hmk⟩ := enter_sound (lo := st.lo) (params := params) (assign := assign) (body := body) fn0 hw ht hrd hpre
        subst hl'
        have hfv : VRel ρ (.func (.func g) first captured) (a.eval (.tmp t)) := by
         have := ht.2 t
         rw [list_getD, hv] at this
         exact this
        generalize hfe : a.eval (.tmp t) = fv at hfv
        have shape : ∃ first' captured', fv = .func (.func g) first' captured' ∧ ARel ρ first first' ∧ ARel ρ captured captured' := by
         cases hfv with
         | atom ha => simp [isAtom] at ha
         | func h1 h2 h3 h4 => exact ⟨_, _, rfl, ⟨h1, h2⟩, ⟨h3, h4⟩⟩
        obtain ⟨first', captured', rfl, r1', r2'⟩ := shape
        have hargs : ARel ρ1 (first ++ #[.func (.yield H1.length) #[] #[]] ++ captured) (first' ++ #[.func (.yield tl.rb) #[] #[]] ++ captured') :=
         ((r1'.mono hm1.ext).append ((ARel.empty ρ1).push (.yield htl))).append (r2'.mono hm1.ext)
        refine ⟨tl.rb, mark', w1, { target := .fn (.func g) captured', args := first' ++ #[.func (.yield tl.rb) #[] #[]] }, w1, g, first' ++ #[.func (.yield tl.rb) #[] #[]] ++ captured', w1, he, ?_, fun _ _ => trivial, ?_, fun h => absurd h (by simp [fen, Fence.wide]), ?_⟩
        ·have harg : (rangeCall (.tmp t) tl.rb).args.map a.eval = #[.func (.yield tl.rb) #[] #[]] := by simp [Act.eval]
         simp only [resolve, harg]
         rw [hfe]
         rfl
        ·show Sem.run P (callFunc g _) w1 = _
         unfold callFunc
         rw [run_bind_ok (a := P) (w1 := w1) rfl]
         simp only [hfn, hP.name _ _ hfn, hb]
         rfl
        ·refine callsIn_fen ((hsound B ρ1 w1 _ hm1.rel hargs).mono ?_)
         rintro e w3 ⟨v', ρ3, rfl, hm3, _⟩
         obtain ⟨L1, hL1, hLr1, _⟩ := hm3.rel.blk _ _ _ (prefix_get hm3.ext htl) hH1
         have hex : LoopRel ρ3 { r1 with state := .exhausted } { L1 with state := .exhausted } := ⟨rfl, hLr1.pending, hLr1.tmps, hLr1.params, hLr1.assign, hLr1.body, hLr1.defers⟩
         have hm4 := loop_set (lo := st2.lo) hm3.rel (prefix_get hm3.ext htl) hH1 hex
         have hall := (hm1.trans hm3 hlo).trans hm4 (Nat.min_le_left _ _)
         have hend := run_endLoop (P := P) hL1 (by rw [hLr1.state]; exact hbusy)
         have hq := hQ ρ3 { a with defers := mark' ++ a.defers } _ hall (ht.mono hall.ext) ((hmk.mono (hm3.ext)).append (hds.mono hall.ext)) (hrd.mono hall.ext)
         exact ⟨r1.pending, _, hend.trans (by rw [hLr1.pending]), hq⟩
       generalize hr2 : ({ r1 with state := .exhausted } : Loop) = r2 at h main
       cases hp : r1.pending with
       | none =>
        rw [hp] at h
        simp only [Option.some.injEq, Prod.mk.injEq] at h
        obtain ⟨rfl, rfl, rfl⟩ := h
        refine ⟨Nat.le_trans (Nat.min_le_left _ _) hlo, rfl, ?_⟩
        intro B ρ w rd' a n hw ht hds hrd
        refine main _ B ρ w rd' a n hw ht hds hrd ?_
        intro ρ4 a' w4 hm h1 h2 _
        rw [hp]
        exact ⟨rfl, ρ4, hm, h1, h2⟩
       | some c =>
        rw [hp] at h
        simp only at h
        obtain ⟨hlo2, hrd2, hs2⟩ := hC _ _ _ _ _ _ h
        simp only at hlo2 hrd2
        refine ⟨by omega, hrd2, ?_⟩
        intro B ρ w rd' a n hw ht hds hrd
        refine main _ B ρ w rd' a n hw ht hds hrd ?_
        intro ρ4 a' w4 hm h1 h2 h3
        rw [hp]
        simp only
        refine wpIn_mono (hs2 B ρ4 w4 rd' a' n hm.rel h1 h2 h3) ?_
        rintro e a5 w5 ⟨rfl, ρ5, hm5, g1, g2⟩
        exact ⟨rfl, ρ5, hm.trans hm5 hlo2, g1, g2⟩
     ·cases h
    ·cases h
  ·cases h
 ·cases h

theorem rounds_mono {F : Fence} {n : Nat} {c : Code} {Q Q' : Exit → Act → World → Prop} (hq : ∀ e a w, Q e a w → Q' e a w) : ∀ (m : Nat) (a : Act) (w : World), Code.roundsIn F n P c Q m a w → Code.roundsIn F n P c Q' m a w
 | 0, _, _, h => h.elim
 | m + 1, a, w, h => by
  rw [roundsIn_succ] at h ⊢
  refine wpIn_mono h ?_
  intro e a1 w1 h1
  cases e with
  | normal => exact rounds_mono hq m a1 w1 h1
  | _ => exact hq _ _ _ h1

def SoundL (P : Program) (m : Nat) (ec : EC) : Prop :=
 ∀ body fr st x fr1 st1, ec (.loop body) fr st = some (x, fr1, st1) → ∀ B ρ w rd' (a : Act) n, WRel P B ρ st.H w → ARel ρ fr.tm.toArray a.tmps → DRel ρ fr.ds a.defers → RRel ρ fr.rd rd' →
   Code.roundsIn (fen rd') n P body (PostC P B ρ st.H w x fr1 st1) m a w

def SoundD (P : Program) (draw : Array Oper → List Value → St → Option (List Value × St)) : Prop :=
 ∀ ops tm st tm1 st1, draw ops tm st = some (tm1, st1) → st1.lo ≤ st.lo ∧ ∀ B ρ w rd' (a : Act) n id, WRel P B ρ st.H w → ARel ρ tm.toArray a.tmps →
  (Code.region id ops true).wpIn (fen rd') n P (fun e a1 w1 => e = .normal ∧ ∃ ρ1, Moved P B ρ st.H w ρ1 st1.H st1.lo w1 ∧ ARel ρ1 tm1.toArray a1.tmps ∧ a1.defers = a.defers) a w

theorem loop_sound {m : Nat} {ec : EC} {ef : EF} {draw : Array Oper → List Value → St → Option (List Value × St)} (hC : SoundC P ec) (hL : SoundL P m ec) : SoundL P (m + 1) (stepCode P ec ef draw) := by
 intro body fr st x fr1 st1 h
 unfold stepCode at h
 simp only at h
 split at h
 ·rename_i fr2 st2 h1
  obtain ⟨l1, r1, s1⟩ := hC _ _ _ _ _ _ h1
  obtain ⟨l2, r2, _⟩ := hC _ _ _ _ _ _ h
  have s2 := hL _ _ _ _ _ _ h
  intro B ρ w rd' a n hw ht hd hr
  rw [roundsIn_succ]
  refine wpIn_mono (s1 B ρ w rd' a n hw ht hd hr) ?_
  rintro e a1 w1 ⟨rfl, ρ1, hm1, ht1, hd1⟩
  refine rounds_mono ?_ m a1 w1 (s2 B ρ1 w1 rd' a1 n hm1.rel ht1 hd1 (by rw [r1]; exact hr.mono hm1.ext))
  rintro e a2 w2 ⟨rfl, ρ2, hm2, ht2, hd2⟩
  exact ⟨rfl, ρ2, hm1.trans hm2 l2, ht2, hd2⟩
 ·rename_i hno
  obtain ⟨l1, r1, s1⟩ := hC _ _ _ _ _ _ h
  intro B ρ w rd' a n hw ht hd hr
  rw [roundsIn_succ]
  refine wpIn_mono (s1 B ρ w rd' a n hw ht hd hr) ?_
  rintro e a1 w1 ⟨rfl, hrest⟩
  cases x with
  | normal => exact absurd h (hno fr1 st1)
  | exit id => exact ⟨rfl, hrest⟩
  | ret => exact ⟨rfl, hrest⟩

theorem code_sound (hP : POk P) {m : Nat} {ec : EC} {ef : EF} {draw : Array Oper → List Value → St → Option (List Value × St)} (hC : SoundC P ec) (hL : SoundL P m ec) (hF : SoundF P ef) (hD : SoundD P draw) : SoundC P (stepCode P ec ef draw) := by
 intro c fr st x fr1 st1 h
 unfold stepCode at h
 cases c with
 | skip =>
  simp only [Option.some.injEq, Prod.mk.injEq] at h
  obtain ⟨rfl, rfl, rfl⟩ := h
  exact ⟨Nat.le_refl _, rfl, fun B ρ w rd' a n hw ht hd _ => wpIn_skip ⟨rfl, ρ, Moved.refl hw _, ht, hd⟩⟩
 | label l =>
  simp only [Option.some.injEq, Prod.mk.injEq] at h
  obtain ⟨rfl, rfl, rfl⟩ := h
  exact ⟨Nat.le_refl _, rfl, fun B ρ w rd' a n hw ht hd _ => wpIn_label ⟨rfl, ρ, Moved.refl hw _, ht, hd⟩⟩
 | exit id =>
  simp only [Option.some.injEq, Prod.mk.injEq] at h
  obtain ⟨rfl, rfl, rfl⟩ := h
  exact ⟨Nat.le_refl _, rfl, fun B ρ w rd' a n hw ht hd _ => wpIn_exit ⟨rfl, ρ, Moved.refl hw _, ht, hd⟩⟩
 | ret =>
  simp only [Option.some.injEq, Prod.mk.injEq] at h
  obtain ⟨rfl, rfl, rfl⟩ := h
  exact ⟨Nat.le_refl _, rfl, fun B ρ w rd' a n hw ht hd _ => wpIn_ret ⟨rfl, ρ, Moved.refl hw _, ht, hd⟩⟩
 | seq c1 c2 =>
  simp only at h
  split at h
  ·rename_i fr2 st2 h1
   obtain ⟨l1, r1, s1⟩ := hC _ _ _ _ _ _ h1
   obtain ⟨l2, r2, s2⟩ := hC _ _ _ _ _ _ h
   refine ⟨Nat.le_trans l2 l1, r2.trans r1, ?_⟩
   intro B ρ w rd' a n hw ht hd hr
   refine wpIn_seq (wpIn_mono (s1 B ρ w rd' a n hw ht hd hr) ?_)
   rintro e a1 w1 ⟨rfl, ρ1, hm1, ht1, hd1⟩
   refine wpIn_mono (s2 B ρ1 w1 rd' a1 n hm1.rel ht1 hd1 (by rw [r1]; exact hr.mono hm1.ext)) ?_
   rintro e a2 w2 ⟨rfl, ρ2, hm2, ht2, hd2⟩
   exact ⟨rfl, ρ2, hm1.trans hm2 l2, ht2, hd2⟩
  ·rename_i hno
   obtain ⟨l1, r1, s1⟩ := hC _ _ _ _ _ _ h
   refine ⟨l1, r1, ?_⟩
   intro B ρ w rd' a n hw ht hd hr
   refine wpIn_seq (wpIn_mono (s1 B ρ w rd' a n hw ht hd hr) ?_)
   rintro e a1 w1 ⟨rfl, hrest⟩
   cases x with
   | normal => exact absurd h (hno fr1 st1)
   | exit id => exact ⟨rfl, hrest⟩
   | ret => exact ⟨rfl, hrest⟩
 | cond c t e =>
  simp only at h
  split at h
  ·rename_i b hb
   obtain ⟨l1, r1, s1⟩ := hC _ _ _ _ _ _ h
   refine ⟨l1, r1, ?_⟩
   intro B ρ w rd' a n hw ht hd hr
   refine wpIn_cond (t := b) ?_ (s1 B ρ w rd' a n hw ht hd hr)
   cases c with
   | tmp k =>
    have := ht.2 k
    rw [list_getD] at this
    change (fr.tm[k]?).getD undef = _ at hb
    rw [hb] at this
    exact isAtom_rel this rfl
   | const v => exact hb
   | global g => cases hb
   | func f => cases hb
  ·cases h
 | block id body =>
  simp only at h
  split at h
  ·rename_i id' fr2 st2 h1
   simp only [Option.some.injEq, Prod.mk.injEq] at h
   obtain ⟨rfl, rfl, rfl⟩ := h
   obtain ⟨l1, r1, s1⟩ := hC _ _ _ _ _ _ h1
   refine ⟨l1, r1, ?_⟩
   intro B ρ w rd' a n hw ht hd hr
   refine wpIn_block (wpIn_mono (s1 B ρ w rd' a n hw ht hd hr) ?_)
   rintro e a1 w1 ⟨rfl, hrest⟩
   show if id' = id then _ else _
   by_cases hid : id' = id
   ·rw [if_pos hid, if_pos hid]; exact ⟨rfl, hrest⟩
   ·rw [if_neg hid, if_neg hid]; exact ⟨rfl, hrest⟩
  ·rename_i hno
   obtain ⟨l1, r1, s1⟩ := hC _ _ _ _ _ _ h
   refine ⟨l1, r1, ?_⟩
   intro B ρ w rd' a n hw ht hd hr
   refine wpIn_block (wpIn_mono (s1 B ρ w rd' a n hw ht hd hr) ?_)
   rintro e a1 w1 ⟨rfl, hrest⟩
   cases x with
   | normal => exact ⟨rfl, hrest⟩
   | exit id' => exact absurd h (hno id' fr1 st1)
   | ret => exact ⟨rfl, hrest⟩
 | loop body =>
  have hl := loop_sound (ef := ef) (draw := draw) hC hL body fr st x fr1 st1 h
  have lo : st1.lo ≤ st.lo ∧ fr1.rd = fr.rd := by
   simp only at h
   split at h
   ·rename_i fr2 st2 h1
    obtain ⟨l1, r1, _⟩ := hC _ _ _ _ _ _ h1
    obtain ⟨l2, r2, _⟩ := hC _ _ _ _ _ _ h
    exact ⟨Nat.le_trans l2 l1, r2.trans r1⟩
   ·obtain ⟨l1, r1, _⟩ := hC _ _ _ _ _ _ h
    exact ⟨l1, r1⟩
  exact ⟨lo.1, lo.2, fun B ρ w rd' a n hw ht hd hr => wpIn_loop_rounds (m + 1) (hl B ρ w rd' a n hw ht hd hr)⟩
 | region id ops dr =>
  simp only at h
  split at h
  ·rename_i tm1 st2 h1
   simp only [Option.some.injEq, Prod.mk.injEq] at h
   obtain ⟨rfl, rfl, rfl⟩ := h
   cases dr with
   | true =>
    simp only [if_true] at h1
    obtain ⟨l1, s1⟩ := hD _ _ _ _ _ h1
    refine ⟨l1, rfl, ?_⟩
    intro B ρ w rd' a n hw ht hd hr
    refine wpIn_mono (s1 B ρ w rd' a n id hw ht) ?_
    rintro e a1 w1 ⟨rfl, ρ1, hm1, ht1, hd1⟩
    exact ⟨rfl, ρ1, hm1, ht1, by rw [hd1]; exact hd.mono hm1.ext⟩
   | false =>
    simp only [Bool.false_eq_true, if_false] at h1
    obtain ⟨l1, s1⟩ := ops_sound hP hC hF ops ops.toList 0 fr.tm st tm1 st2 rfl h1
    refine ⟨l1, rfl, ?_⟩
    intro B ρ w rd' a n hw ht hd hr
    refine wpIn_region ?_
    have := s1 B ρ w rd' a n hw ht (PostC P B ρ st.H w .normal { fr with tm := tm1 } st2) (fun ρ1 a1 w1 hm ht1 hd1 => ⟨rfl, ρ1, hm, ht1, by rw [hd1]; exact hd.mono hm.ext⟩)
    rw [List.range_eq_range']
    simpa using this
  ·cases h
 | rangeFunc f params assign body => exact range_sound hP hC hF h
 | _ => cases h

end Go.Abs

/- The abstract machine: regions that draw their order: what is asked of them. -/
namespace Go.Abs
open Go Go.RowKit

variable {P : Program} {B : Nat} {ρ : Ren} {w : World}

/-! ### Ancestors -/

def ancStep (acc : List Nat) (s : Nat) (e : Edge) : Nat :=
  if Region.binds .any e && decide (e.on < acc.length) then s ||| 2 ^ e.on ||| acc.getD e.on 0 else s

def ancOf (acc : List Nat) (o : Oper) : Nat := o.after.toList.foldl (ancStep acc) 0

def ancs : List Oper → List Nat → List Nat
  | [], acc => acc
  | o :: rest, acc => ancs rest (acc ++ [ancOf acc o])

theorem anc_fold (acc : List Nat) (j : Nat) : ∀ (l : List Edge) (s : Nat), (l.foldl (ancStep acc) s).testBit j = true →
    s.testBit j = true ∨ ∃ e ∈ l, Region.binds .any e = true ∧ e.on < acc.length ∧ (e.on = j ∨ (acc.getD e.on 0).testBit j = true)
  | [], s, h => .inl h
  | e :: l, s, h => by
    rcases anc_fold acc j l _ h with h1 | ⟨e', h1, h2⟩
    · unfold ancStep at h1
      split at h1
      · rename_i hc
        simp only [Bool.and_eq_true, decide_eq_true_eq] at hc
        rw [Nat.testBit_or, Nat.testBit_or, Nat.testBit_two_pow] at h1
        simp only [Bool.or_eq_true, decide_eq_true_eq] at h1
        rcases h1 with (h1 | h1) | h1
        · exact .inl h1
        · exact .inr ⟨e, by simp, hc.1, hc.2, .inl h1⟩
        · exact .inr ⟨e, by simp, hc.1, hc.2, .inr h1⟩
      · exact .inl h1
    · exact .inr ⟨e', by simp [h1], h2⟩

theorem anc_of (acc : List Nat) (o : Oper) (j : Nat) (h : (ancOf acc o).testBit j = true) : ∃ e ∈ o.after, Region.binds .any e = true ∧ e.on < acc.length ∧ (e.on = j ∨ (acc.getD e.on 0).testBit j = true) := by
  rcases anc_fold acc j _ 0 h with h1 | ⟨e, h1, h2⟩
  · simp at h1
  · exact ⟨e, by simpa using h1, h2⟩

theorem ancs_spec : ∀ (rest : List Oper) (acc : List Nat), (∀ i, i < acc.length → (ancs rest acc)[i]? = acc[i]?) ∧ (ancs rest acc).length = acc.length + rest.length ∧
    ∀ i o, rest[i]? = some o → ∃ p, p <+: ancs rest acc ∧ p.length = acc.length + i ∧ (ancs rest acc)[acc.length + i]? = some (ancOf p o)
  | [], acc => ⟨fun _ _ => rfl, rfl, fun i o h => by simp at h⟩
  | o :: rest, acc => by
    obtain ⟨h1, h2, h3⟩ := ancs_spec rest (acc ++ [ancOf acc o])
    simp only [List.length_append, List.length_cons, List.length_nil, Nat.zero_add] at h1 h2 h3
    have hp : ∀ (l : List Nat), (∀ i, i < l.length → (ancs rest (acc ++ [ancOf acc o]))[i]? = l[i]?) → l <+: ancs rest (acc ++ [ancOf acc o]) := by
      intro l hl
      rw [List.prefix_iff_eq_take]
      apply List.ext_getElem?
      intro i
      by_cases hi : i < l.length
      · rw [List.getElem?_take, if_pos hi, hl i hi]
      · rw [List.getElem?_eq_none (by omega), List.getElem?_take, if_neg hi]
    refine ⟨fun i hi => ?_, by simp only [ancs]; rw [h2]; simp; omega, fun i o' hi => ?_⟩
    · simp only [ancs]
      rw [h1 i (by omega), List.getElem?_append_left hi]
    · cases i with
      | zero =>
        simp at hi
        subst hi
        refine ⟨acc, hp acc fun i hi => ?_, rfl, ?_⟩
        · rw [h1 i (by omega), List.getElem?_append_left hi]
        · simp only [ancs]
          rw [Nat.add_zero, h1 _ (by omega), List.getElem?_append_right (Nat.le_refl _)]
          simp
      | succ i =>
        obtain ⟨p, q1, q2, q3⟩ := h3 i o' (by simpa using hi)
        exact ⟨p, q1, by omega, by simp only [ancs]; rw [← q3]; congr 1; omega⟩

abbrev anc (ops : Array Oper) (i j : Nat) : Bool := ((ancs ops.toList []).getD i 0).testBit j

theorem anc_edge {ops : Array Oper} {i j : Nat} (h : anc ops i j = true) : ∃ o, ops[i]? = some o ∧ ∃ e ∈ o.after, Region.binds .any e = true ∧ e.on < i ∧ (e.on = j ∨ anc ops e.on j = true) := by
  obtain ⟨_, h2, h3⟩ := ancs_spec ops.toList []
  unfold anc at h
  cases ho : ops[i]? with
  | none =>
    have : ops.size ≤ i := by simpa using ho
    rw [List.getD_eq_getElem?_getD, List.getElem?_eq_none (by rw [h2]; simpa using this)] at h
    simp at h
  | some o =>
    obtain ⟨p, q1, q2, q3⟩ := h3 i o (by simpa using ho)
    simp only [List.length_nil, Nat.zero_add] at q2 q3
    rw [List.getD_eq_getElem?_getD, q3] at h
    simp only [Option.getD_some] at h
    obtain ⟨e, g1, g2, g3, g4⟩ := anc_of p o j h
    refine ⟨o, rfl, e, g1, g2, by omega, ?_⟩
    rcases g4 with g4 | g4
    · exact .inl g4
    · right
      unfold anc
      obtain ⟨s, hs⟩ := q1
      rw [← hs, List.getD_eq_getElem?_getD, List.getElem?_append_left g3, ← List.getD_eq_getElem?_getD]
      exact g4

theorem anc_lt {ops : Array Oper} : ∀ (i j : Nat), anc ops i j = true → j < i := by
  intro i
  induction i using Nat.strongRecOn with
  | _ i ih =>
    intro j h
    obtain ⟨o, ho, e, he, hb, hlt, h1 | h1⟩ := anc_edge h
    · omega
    · have := ih e.on hlt j h1; omega

def Closed (ops : Array Oper) (listed : Array Bool) : Prop := ∀ j oj, ops[j]? = some oj → listed.getD j false = true → ∀ e ∈ oj.after, Region.binds .any e = true → listed.getD e.on false = true

theorem anc_listed {ops : Array Oper} {listed : Array Bool} (hc : Closed ops listed) : ∀ (i j : Nat), anc ops i j = true → (∀ o, ops[i]? = some o → ∀ e ∈ o.after, Region.binds .any e = true → listed.getD e.on false = true) → listed.getD j false = true := by
  intro i
  induction i using Nat.strongRecOn with
  | _ i ih =>
    intro j h hd
    obtain ⟨o, ho, e, he, hb, hlt, h1 | h1⟩ := anc_edge h
    · rw [← h1]; exact hd o ho e he hb
    · exact ih e.on hlt j h1 (fun o' ho' e' he' hb' => hc _ _ ho' (hd o ho e he hb) e' he' hb')

/-! ### Quiet operations -/

theorem arun_len {α : Type} (e : Sem α) {H H1 : List AObj} {lo lo1 : Nat} {v : α} (h : arun P e H lo = some (v, H1, lo1)) : H.length ≤ H1.length := by
  induction e generalizing H lo with
  | pure a => simp only [arun, Option.some.injEq, Prod.mk.injEq] at h; rw [← h.2.1]; exact Nat.le_refl _
  | load m a k ih =>
    simp only [arun] at h
    split at h
    · split at h
      · exact ih _ h
      · cases h
    · cases h
  | store m a v k ih =>
    simp only [arun] at h
    split at h
    · split at h
      · simpa using ih h
      · cases h
    · cases h
  | new o k ih =>
    simp only [arun] at h
    split at h
    · have := ih _ h; simp at this; omega
    · cases h
  | getObj r k ih =>
    simp only [arun] at h
    split at h
    · exact ih _ h
    · cases h
  | setObj r o k ih =>
    simp only [arun] at h
    split at h
    · split at h
      · simpa using ih h
      · cases h
    · cases h
  | program k ih => exact ih _ h
  | mark m k ih => exact ih h
  | _ => cases h

def Sub (Hm H : List AObj) : Prop := ∀ (b : Nat) (o : AObj), Hm[b]? = some o → o.live = true → H[b]? = some o

theorem arun_mono {α : Type} (e : Sem α) {Hm H H1 : List AObj} {lo lo1 : Nat} {v : α} (hs : Sub Hm H) (h : arun P e Hm lo = some (v, H1, lo1)) (hl : H1.length = Hm.length) (hlo : lo1 = lo) (hle : Hm.length ≤ lo) (lo2 : Nat) :
    arun P e H lo2 = some (v, H, lo2) := by
  induction e generalizing lo with
  | pure a => simp only [arun, Option.some.injEq, Prod.mk.injEq] at h ⊢; first | exact h.1 | exact ⟨h.1, trivial⟩ | exact ⟨h.1, trivial, trivial⟩
  | load m a k ih =>
    simp only [arun] at h
    split at h
    · rename_i c e rw h1 h2
      have := hs _ _ h2 rfl
      split at h
      · rename_i u hu
        simp only [arun, h1, this, hu]
        exact ih _ h hlo hle
      · cases h
    · cases h
  | store m a v k ih =>
    simp only [arun] at h
    split at h
    · rename_i h1 h2
      split at h
      · have h3 := arun_lo _ h
        have h4 := (List.getElem?_eq_some_iff.1 h2).1
        have h5 := Nat.le_trans h3 (Nat.min_le_right _ _)
        omega
      · cases h
    · cases h
  | new o k ih =>
    simp only [arun] at h
    split at h
    · have h3 := arun_len _ h
      simp at h3; omega
    · cases h
  | getObj r k ih =>
    simp only [arun] at h
    split at h
    · rename_i es clock h2
      have := hs _ _ h2 rfl
      simp only [arun, this]
      exact ih _ h hlo hle
    · cases h
  | setObj r o k ih =>
    simp only [arun] at h
    split at h
    · rename_i h2
      split at h
      · have h3 := arun_lo _ h
        have h4 := (List.getElem?_eq_some_iff.1 h2).1
        have h5 := Nat.le_trans h3 (Nat.min_le_right _ _)
        omega
      · cases h
    · cases h
  | program k ih => exact ih _ h hlo hle
  | mark m k ih => exact ih h hlo hle
  | _ => cases h

def isQuiet (o : Oper) : Bool :=
  match o.op with
  | .move _ | .assign _ | .pick .. | .load .. | .nilCheck _ | .fieldAddr .. | .indexAddr .. | .makeFunc (.func _) _ _ | .extract .. | .build .. | .binOp .. | .unOp .. | .convert .. | .field .. | .index ..
  | .lookup .. | .slice .. => true
  | .call c => match c.callee with
    | .builtin .len | .builtin .cap | .builtin .min | .builtin .max => true
    | _ => false
  | _ => false

theorem ofRun_mono {e : Sem Next} {Hm H H1 : List AObj} {lo1 : Nat} {v : Value} (hs : Sub Hm H) (h : ofRun (arun P e Hm Hm.length) = some (.val v ⟨H1, lo1⟩)) (hl : H1.length = Hm.length) (hlo : lo1 = Hm.length) (lo2 : Nat) :
    ofRun (arun P e H lo2) = some (.val v ⟨H, lo2⟩) := by
  cases hr : arun P e Hm Hm.length with
  | none => rw [hr] at h; cases h
  | some r =>
    obtain ⟨x, H2, lo3⟩ := r
    rw [hr] at h
    cases x with
    | value u =>
      simp only [ofRun, Option.some.injEq, ANext.val.injEq, St.mk.injEq] at h
      obtain ⟨rfl, rfl, rfl⟩ := h
      rw [arun_mono e hs hr hl hlo (Nat.le_refl _) lo2]
      rfl
    | skip =>
      simp only [ofRun, Option.some.injEq, ANext.val.injEq, St.mk.injEq] at h
      obtain ⟨rfl, rfl, rfl⟩ := h
      rw [arun_mono e hs hr hl hlo (Nat.le_refl _) lo2]
      rfl
    | _ => simp [ofRun] at h

theorem ofPure_mono {r : Option Next} {st st2 : St} {st1 : St} {v : Value} (h : ofPure r st = some (.val v st1)) : ofPure r st2 = some (.val v st2) := by
  obtain ⟨h1, h2, _⟩ := ofPure_done h
  subst h1
  simp [ofPure, h2]

theorem map_mono {α : Type} {r r' : Option α} {f : α → Value} {st st1 st2 : St} {v : Value} (hr : ∀ x, r = some x → r' = some x) (h : (r.map fun a => ANext.val (f a) st) = some (.val v st1)) :
    (r'.map fun a => ANext.val (f a) st2) = some (.val v st2) := by
  cases r with
  | none => cases h
  | some a =>
    simp only [Option.map_some, Option.some.injEq, ANext.val.injEq] at h
    rw [hr a rfl]
    simp [h.1]

theorem blockSz_mono {Hm H : List AObj} (hs : Sub Hm H) {b n : Nat} (h : blockSz P Hm b = some n) : blockSz P H b = some n := by
  unfold blockSz at h ⊢
  split at h
  · rename_i c e rw h1
    rw [hs _ _ h1 rfl]
    exact h
  · cases h

theorem aSlice_mono {Hm H : List AObj} (hs : Sub Hm H) {t : TypeId} {x v : Value} {lo hi mx : Option Value} (h : aSlice P Hm t x lo hi mx = some v) : aSlice P H t x lo hi mx = some v := by
  unfold aSlice at h ⊢
  split at h
  · split at h
    · cases h
    · split at h
      · rename_i hc
        rw [if_pos hc]; exact h
      · rename_i hc
        rw [if_neg hc]
        split at h
        · rename_i hb
          have := beq_iff_eq.1 hb
          rw [if_pos (by rw [blockSz_mono hs this]; simp)]
          exact h
        · cases h
  · exact h
  · cases h

theorem aLookup_mono {Hm H : List AObj} (hs : Sub Hm H) {t : TypeId} {x k v : Value} {ok : Bool} (h : aLookup P Hm t x k ok = some v) : aLookup P H t x k ok = some v := by
  unfold aLookup at h ⊢
  split at h
  · split at h
    · rename_i h1
      rw [hs _ _ h1 rfl]
      exact h
    · cases h
  · exact h
  · cases h

theorem aLen_mono {Hm H : List AObj} (hs : Sub Hm H) {ts : Array TypeId} {args : Array Value} {v : Value} (h : aLen P Hm ts args = some v) : aLen P H ts args = some v := by
  unfold aLen at h ⊢
  split at h
  · split at h <;> first
      | exact h
      | (split at h
         · rename_i h1
           rw [hs _ _ h1 rfl]
           exact h
         · cases h)
      | cases h
  · cases h

theorem aload_mono {Hm H : List AObj} (hs : Sub Hm H) {b o n : Nat} {cs : Array Value} (h : aload P Hm b o n = some cs) : aload P H b o n = some cs := by
  have key : ∀ (n i : Nat) (acc : Array Value) (lo lo2 : Nat) (H1 : List AObj) (lo1 : Nat) (r : Array Value), arun P (loadCellsFrom ⟨b, o, none⟩ i n acc) Hm lo = some (r, H1, lo1) →
      arun P (loadCellsFrom ⟨b, o, none⟩ i n acc) H lo2 = some (r, H, lo2) := by
    intro n
    induction n with
    | zero =>
      intro i acc lo lo2 H1 lo1 r h
      simp only [loadCellsFrom, Pure.pure, arun, Option.some.injEq, Prod.mk.injEq] at h ⊢
      exact ⟨h.1, trivial⟩
    | succ n ih =>
      intro i acc lo lo2 H1 lo1 r h
      unfold loadCellsFrom at h ⊢
      rw [addr_add] at h ⊢
      change arun P (Sem.bind _ _) Hm lo = _ at h
      change arun P (Sem.bind _ _) H lo2 = _
      rw [arun_bind] at h ⊢
      simp only [load, arun] at h ⊢
      split at h
      · rename_i c e rw hsp hH
        rw [hs _ _ hH rfl]
        split at h
        · rename_i u hu
          simp only [Option.bind_some] at h
          simp only [hu, Option.bind_some]
          exact ih (i + 1) (acc.push u) lo lo2 H1 lo1 r h
        · cases h
      · cases h
  unfold aload at h ⊢
  cases hr : arun P (loadCells ⟨b, o, none⟩ n) Hm Hm.length with
  | none => rw [hr] at h; cases h
  | some r =>
    obtain ⟨cs1, H1, lo1⟩ := r
    rw [hr] at h
    have h2 : arun P (loadCells ⟨b, o, none⟩ n) H H.length = some (cs1, H, H.length) := key n 0 #[] Hm.length H.length H1 lo1 cs1 hr
    rw [h2]
    exact h

theorem aBytes_mono {Hm H : List AObj} (hs : Sub Hm H) {a b : TypeId} {x v : Value} (h : aBytes P Hm a b x = some v) : aBytes P H a b x = some v := by
  unfold aBytes at h ⊢
  split at h
  · split at h
    · rename_i he
      simp only [Option.bind_eq_some_iff] at h ⊢
      obtain ⟨cs, h1, h2⟩ := h
      exact ⟨cs, aload_mono hs h1, h2⟩
    · cases h
  · cases h

theorem quiet_mono {tm : List Value} {o : Oper} {Hm H H1 : List AObj} {lo1 : Nat} {v : Value} (hq : isQuiet o = true) (hs : Sub Hm H) (h : stepOp P tm o ⟨Hm, Hm.length⟩ = some (.val v ⟨H1, lo1⟩))
    (hl : H1.length = Hm.length) (hlo : lo1 = Hm.length) (lo2 : Nat) : stepOp P tm o ⟨H, lo2⟩ = some (.val v ⟨H, lo2⟩) := by
  have ho := stepOp_ok h
  unfold stepOp at h ⊢
  rw [if_pos ho] at h ⊢
  obtain ⟨dst, op, T, pos, after, guard⟩ := o
  cases op with
  | call c =>
    obtain ⟨callee, as, ts⟩ := c
    cases callee with
    | builtin b =>
      cases b <;> first | (cases hq; done) | skip
      case len => exact map_mono (fun x hx => aLen_mono hs hx) h
      case cap => exact map_mono (fun x hx => hx) h
      case min =>
        simp only at h ⊢
        split at h
        · rename_i hc; rw [if_pos hc]; exact ofPure_mono h
        · cases h
      case max =>
        simp only at h ⊢
        split at h
        · rename_i hc; rw [if_pos hc]; exact ofPure_mono h
        · cases h
    | value => cases hq
    | invoke => cases hq
  | makeFunc fn a b => cases fn <;> first | (cases hq; done) | exact ofRun_mono hs h hl hlo lo2
  | slice t x l hi mx => exact map_mono (fun x hx => aSlice_mono hs hx) h
  | lookup t m k ok =>
    simp only at h ⊢
    split at h
    · rename_i hc; rw [if_pos hc]; exact map_mono (fun x hx => aLookup_mono hs hx) h
    · cases h
  | binOp op t x y yt =>
    simp only at h ⊢
    split at h
    · rename_i hc; rw [if_pos hc]; exact ofPure_mono h
    · rename_i hc
      rw [if_neg hc]
      split at h
      · exact map_mono (fun x hx => hx) h
      · exact map_mono (fun x hx => hx) h
      · cases h
  | move x => exact ofRun_mono hs h hl hlo lo2
  | assign x => exact ofRun_mono hs h hl hlo lo2
  | pick c a b => exact ofRun_mono hs h hl hlo lo2
  | load t a => exact ofRun_mono hs h hl hlo lo2
  | nilCheck x => exact ofRun_mono hs h hl hlo lo2
  | fieldAddr s x k => exact ofRun_mono hs h hl hlo lo2
  | indexAddr t x i => exact ofRun_mono hs h hl hlo lo2
  | extract x i => exact ofRun_mono hs h hl hlo lo2
  | build t ps => exact ofRun_mono hs h hl hlo lo2
  | unOp op t x =>
    simp only at h ⊢
    split at h
    · rename_i hc; rw [if_pos hc]; exact ofPure_mono h
    · cases h
  | convert a b x =>
    simp only at h ⊢
    split at h
    · rename_i hc; rw [if_pos hc]; exact ofPure_mono h
    · rename_i hc
      rw [if_neg hc]
      exact map_mono (f := fun v => v) (fun x hx => aBytes_mono hs hx) h
  | field t x k =>
    simp only at h ⊢
    split at h
    · rename_i hc; rw [if_pos hc]; exact ofPure_mono h
    · cases h
  | index t x i =>
    simp only at h ⊢
    split at h
    · rename_i hc; rw [if_pos hc]; exact ofPure_mono h
    · cases h
  | _ => cases hq

theorem stepOp_congr {tm tm2 : List Value} {o : Oper} {st : St} (h : ∀ x ∈ o.op.operands, aeval tm x = aeval tm2 x) : stepOp P tm o st = stepOp P tm2 o st := by
  have hsel : ∀ cs b, o.op = .select cs b → stepOp P tm o st = stepOp P tm2 o st := by
    intro cs b he
    unfold stepOp
    simp only [he]
  by_cases hs : ∃ cs b, o.op = .select cs b
  · obtain ⟨cs, b, he⟩ := hs; exact hsel cs b he
  · have he : execOp (aeval tm) o = execOp (aeval tm2) o := execOp_congr o (fun cs b he => hs ⟨cs, b, he⟩) h
    have hc : closedArgs tm o = closedArgs tm2 o := by
      unfold closedArgs
      apply Bool.eq_iff_iff.2
      simp only [List.all_eq_true]
      constructor
      · intro k x hx; rw [← h x (by simpa using hx)]; exact k x hx
      · intro k x hx; rw [h x (by simpa using hx)]; exact k x hx
    unfold stepOp
    rw [he, hc]
    obtain ⟨dst, op, T, pos, after, guard⟩ := o
    have hmap : ∀ (x : Option Operand), (∀ y, x = some y → aeval tm y = aeval tm2 y) → x.map (aeval tm) = x.map (aeval tm2) := by
      intro x hx
      cases x with
      | none => rfl
      | some y => simp [hx y rfl]
    have harr : ∀ (xs : Array Operand), (∀ y ∈ xs, aeval tm y = aeval tm2 y) → xs.map (aeval tm) = xs.map (aeval tm2) := fun xs hx => Array.map_congr_left hx
    cases op with
    | binOp op t x y yt => simp only [h x (by simp [Op.operands]), h y (by simp [Op.operands])]
    | lookup t m k ok => simp only [h m (by simp [Op.operands]), h k (by simp [Op.operands])]
    | mapUpdate t m k v => simp only [h m (by simp [Op.operands]), h k (by simp [Op.operands]), h v (by simp [Op.operands])]
    | slice t x l hi mx =>
      simp only [h x (by simp [Op.operands]), hmap l (fun y hy => h y (by simp [Op.operands, hy])), hmap hi (fun y hy => h y (by simp [Op.operands, hy])), hmap mx (fun y hy => h y (by simp [Op.operands, hy]))]
    | call c =>
      obtain ⟨callee, as, ts⟩ := c
      have ha := harr as (fun y hy => h y (by simp [Op.operands, Call.operands, hy]))
      cases callee with
      | builtin b => simp only [ha]
      | value f => simp only [ha, h f (by simp [Op.operands, Call.operands])]
      | invoke => rfl
    | makeFunc fn a b => cases fn <;> rfl
    | makeMap t r => cases r <;> rfl
    | convert a b x => simp only [h x (by simp [Op.operands])]
    | range t x => simp only [h x (by simp [Op.operands])]
    | next it s => cases s <;> simp only [h it (by simp [Op.operands])]
    | entry it => simp only [h it (by simp [Op.operands])]
    | _ => rfl

end Go.Abs

/- The abstract machine: when two values, two blocks are the same. -/
namespace Go.Abs
open Go Go.RowKit

def beqAddr : Option Addr → Option Addr → Bool
 | none, none => true
 | some ⟨b, o, none⟩, some ⟨b', o', none⟩ => Nat.beq b b' && Nat.beq o o'
 | _, _ => false

theorem beqAddr_eq {a b : Option Addr} (h : beqAddr a b = true) : a = b := by
 unfold beqAddr at h
 split at h
 ·rfl
 ·simp only [Bool.and_eq_true, Nat.beq_eq] at h
  rw [h.1, h.2]
 ·cases h

def beqInt : Int → Int → Bool
 | .ofNat a, .ofNat b => Nat.beq a b
 | .negSucc a, .negSucc b => Nat.beq a b
 | _, _ => false

theorem beqInt_eq {a b : Int} (h : beqInt a b = true) : a = b := by
 unfold beqInt at h
 split at h
 ·rw [Nat.eq_of_beq_eq_true h]
 ·rw [Nat.eq_of_beq_eq_true h]
 ·cases h

def beqL {α : Type} (f : α → α → Bool) : List α → List α → Bool
 | [], [] => true
 | a :: as, b :: bs => f a b && beqL f as bs
 | _, _ => false

theorem beqL_eq {α : Type} {f : α → α → Bool} (hf : ∀ a b, f a b = true → a = b) : ∀ {as bs : List α}, beqL f as bs = true → as = bs
 | [], [], _ => rfl
 | a :: as, b :: bs, h => by
  simp only [beqL, Bool.and_eq_true] at h
  rw [hf a b h.1, beqL_eq hf h.2]
 | [], _ :: _, h => by cases h
 | _ :: _, [], h => by cases h

def beqV : Nat → Value → Value → Bool
 | _, .bool a, .bool b => a == b
 | _, .int k n, .int k' n' => decide (k = k') && beqInt n n'
 | _, .pointer a, .pointer b => beqAddr a b
 | _, .slice a l c, .slice a' l' c' => beqAddr a a' && Nat.beq l l' && Nat.beq c c'
 | _, .map (some a), .map (some b) => Nat.beq a b
 | _, .map none, .map none => true
 | _, .nilFunc, .nilFunc => true
 | _, .nilIface, .nilIface => true
 | n + 1, .agg a, .agg b => beqL (beqV n) a.toList b.toList
 | n + 1, .tuple a, .tuple b => beqL (beqV n) a.toList b.toList
 | n + 1, .func (.func f) a c, .func (.func f') a' c' => Nat.beq f f' && beqL (beqV n) a.toList a'.toList && beqL (beqV n) c.toList c'.toList
 | _, _, _ => false

theorem beqV_eq : ∀ (n : Nat) (a b : Value), beqV n a b = true → a = b := by
 intro n
 induction n with
 | zero =>
  intro a b h
  unfold beqV at h
  split at h <;> first | rfl | cases h | skip
  ·rw [beq_iff_eq.mp h]
  ·simp only [Bool.and_eq_true, decide_eq_true_eq] at h
   rw [h.1, beqInt_eq h.2]
  ·rw [beqAddr_eq h]
  ·simp only [Bool.and_eq_true, Nat.beq_eq] at h
   rw [beqAddr_eq h.1.1, h.1.2, h.2]
  ·rw [Nat.eq_of_beq_eq_true h]
  ·rename_i e
   cases e
  ·rename_i e
   cases e
  ·rename_i e
   cases e
 | succ n ih =>
  intro a b h
  have arr : ∀ (x y : Array Value), beqL (beqV n) x.toList y.toList = true → x = y := fun x y hxy => Array.toList_inj.1 (beqL_eq ih hxy)
  unfold beqV at h
  split at h <;> first | rfl | cases h | skip
  ·rw [beq_iff_eq.mp h]
  ·simp only [Bool.and_eq_true, decide_eq_true_eq] at h
   rw [h.1, beqInt_eq h.2]
  ·rw [beqAddr_eq h]
  ·simp only [Bool.and_eq_true, Nat.beq_eq] at h
   rw [beqAddr_eq h.1.1, h.1.2, h.2]
  ·rw [Nat.eq_of_beq_eq_true h]
  ·rename_i a b e
   cases e
   rw [arr a b h]
  ·rename_i a b e
   cases e
   rw [arr a b h]
  ·rename_i e
   cases e
   simp only [Bool.and_eq_true, Nat.beq_eq] at h
   rw [h.1.1, arr _ _ h.1.2, arr _ _ h.2]

def beqO : AObj → AObj → Bool
 | .dead, .dead => true
 | .deferred, .deferred => true
 | .cells c e b, .cells c' e' b' => Nat.beq e e' && b == b' && beqL (beqV 5) c c'
 | .map es k, .map es' k' => Nat.beq k k' && beqL (fun x y => beqV 5 x.key y.key && beqV 5 x.val y.val && Nat.beq x.born y.born) es es'
 | _, _ => false

theorem beqO_eq (a b : AObj) (h : beqO a b = true) : a = b := by
 unfold beqO at h
 split at h
 ·rfl
 ·rfl
 ·simp only [Bool.and_eq_true, Nat.beq_eq, beq_iff_eq] at h
  rw [h.1.1, h.1.2, beqL_eq (beqV_eq 5) h.2]
 ·simp only [Bool.and_eq_true, Nat.beq_eq] at h
  rw [h.1, beqL_eq (fun x y hxy => ?_) h.2]
  simp only [Bool.and_eq_true, Nat.beq_eq] at hxy
  cases x; cases y
  simp only at hxy
  rw [beqV_eq 5 _ _ hxy.1.1, beqV_eq 5 _ _ hxy.1.2, hxy.2]
 ·cases h

end Go.Abs
