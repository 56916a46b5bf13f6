/- The abstract machine, part QB. -/
import Derived.Test.YtpknllbglppjcaaWA
import Derived.Deep.QuietTactic
import Derived.BigQuiet
/- A region that draws its order, whose operations read old memory and whose callees make new memory alone: one walk in the order of the text. -/
namespace Go.RowKit
open Go

/-- A world that has grown out of W: what was there is as it was. -/
def Grow (W : World) : Type := { x : World // Below W.heap.size W x }

def Grow.w {W : World} (x : Grow W) : World := x.1
theorem Grow.b {W : World} (x : Grow W) : Below W.heap.size W x.w := x.2

instance (W : World) : Nonempty (Grow W) := ⟨⟨W, Below.refl _ _⟩⟩

variable {P : Program}

theorem wp_region_grow {id : Nat} {Q : Exit → Act → World → Prop} {a : Act} {W : World} {l : List Oper} (hm : P.follows .mixedOrders = true) (hB : Region.lexB .any l.toArray = true)
    (h : wpQuiet P l.toArray (fun w' => ∃ x : Grow W, w' = x.w) (fun a' => ∀ w', (∃ x : Grow W, w' = x.w) → Q .normal a' w') l a) : (Code.region id l.toArray true).wp P Q a W :=
  wp_region_quiet (C := fun w' => ∃ x : Grow W, w' = x.w) hm hB ⟨⟨{ W with drawn := W.drawn + 1 }, ⟨rfl, rfl, rfl, Nat.le_refl _, fun _ _ => rfl⟩⟩, rfl⟩ (by simpa using h)

theorem calls_grow {f : FuncId} {args : Array Value} {W : World} {x : Grow W} {v : Value} (h : Calls P f args x.w fun e w' => e = .returned v ∧ Below x.w.heap.size x.w w') :
    Calls P f args x.w fun e w'' => e = .returned v ∧ ∃ y : Grow W, w'' = y.w :=
  h.mono fun _ w'' ⟨he, hb⟩ => ⟨he, ⟨w'', x.b.trans (hb.mono x.b.size)⟩, rfl⟩

theorem grow_cell {W : World} {b o : Nat} {v : Value} (h : W.cell? ⟨b, o, none⟩ = some v) : ∀ x : Grow W, x.w.cell? ⟨b, o, none⟩ = some v := fun x => (x.b.cell (World.block_lt_of_cell? W _ h)).trans h

end Go.RowKit

/- Two points compared. -/
namespace Go.Proofs.Ytpknllbglppjcaa
open Go Go.RowKit Go.Proofs

end Go.Proofs.Ytpknllbglppjcaa
