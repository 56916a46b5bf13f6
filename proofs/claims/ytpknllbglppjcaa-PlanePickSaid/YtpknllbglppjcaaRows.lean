/-
  No cell of these rows narrows 'for every input' (looked for: loops, veiled, ifaces, maps, wideKeys, modest, calm, conditions, laid).
  DERIVED. THE GIVEN ROWS OF THIS SEAT. 14 by the template 'for every input the law returns true; each argument reads behind the call as it read before'; 0 by the template 'total and deterministic' (their statements: YtpknllbglppjcaaTotals.lean).
  GIVEN WITH THE SEED: the statements are not yours to turn. If you find one false, say at which input.
  Laid BY PROGRAM, IN A SANDBOX (cutbox-rows.mjs): the forced cells as the released guide's own fill.sh prints them over the translation d03bdc41e74d72a6… (all of the seat's roots in one cut). By AI agents, Wed Nov 11 2026. No macro, syntax, notation, axiom, sorry.
-/
import Derived.Test.YtpknllbglppjcaaChecked
import GoSem.Claim
import GoSem.ClaimJoined
import GoSem.ClaimMapViews
import Derived.JoinedTies
import Derived.KernelRfl
namespace Go.Proofs.Ytpknllbglppjcaa
/- THE CELL 'sum', in the pinned program and in every row, IS THE sha256 OF THE DUMP (.gsa) THAT YtpknllbglppjcaaProg.lean LOADS. Nothing in Lean hashes anything: it is a label: what it is worth is what the hold of that sum in a sandbox is worth. -/
noncomputable def Try.pinned : Pinned := { name := "ytpknllbglppjcaa", sum := "d03bdc41e74d72a625e57cb24bfbf8772d9603fdad71bebaa2743d7bf06709fd", checked := Try.checked }
namespace Rows
def none {H : Type} : Left H := { results := [], args := [] }

/-- 'leadlightlaw01.PlanePoints': WHATEVER THE INPUT: true; the input reads as it did. -/
def planePointsSpec : ChangeSpec := { name := "planePoints", fn := fun _ => fun
  | [d1, d2, d3, d4] => { results := [.lit (.bool true)], args := [d1, d2, d3, d4] }
  | _ => none }
def planePointsRow : OpenClaim := { program := "ytpknllbglppjcaa", sum := "d03bdc41e74d72a625e57cb24bfbf8772d9603fdad71bebaa2743d7bf06709fd", func := "leadlight/leadlightlaw01.PlanePoints", spec := "planePoints", unfollowed := true, recurses := true, plainKeys := false, apart := false }
def PlanePointsSaid : Prop := planePointsRow.holds Try.pinned (OpenSpec.ofChange planePointsSpec)

/-- ITS FALSE NEIGHBOUR: 'it returns false'. Refute it at one input. -/
def planePointsWrong : ChangeSpec := { name := "planePoints", fn := fun _ => fun
  | [d1, d2, d3, d4] => { results := [.lit (.bool false)], args := [d1, d2, d3, d4] }
  | _ => none }
def PlanePointsWrongFalsely : Prop := planePointsRow.holds Try.pinned (OpenSpec.ofChange planePointsWrong)

/-- 'leadlightlaw01.PlaneOutlines': WHATEVER THE INPUT: true; the input reads as it did. -/
def planeOutlinesSpec : ChangeSpec := { name := "planeOutlines", fn := fun _ => fun
  | [d] => { results := [.lit (.bool true)], args := [d] }
  | _ => none }
def planeOutlinesRow : OpenClaim := { program := "ytpknllbglppjcaa", sum := "d03bdc41e74d72a625e57cb24bfbf8772d9603fdad71bebaa2743d7bf06709fd", func := "leadlight/leadlightlaw01.PlaneOutlines", spec := "planeOutlines", unfollowed := true, recurses := true, plainKeys := false, apart := false }
def PlaneOutlinesSaid : Prop := planeOutlinesRow.holds Try.pinned (OpenSpec.ofChange planeOutlinesSpec)

/-- ITS FALSE NEIGHBOUR: 'it returns false'. Refute it at one input. -/
def planeOutlinesWrong : ChangeSpec := { name := "planeOutlines", fn := fun _ => fun
  | [d] => { results := [.lit (.bool false)], args := [d] }
  | _ => none }
def PlaneOutlinesWrongFalsely : Prop := planeOutlinesRow.holds Try.pinned (OpenSpec.ofChange planeOutlinesWrong)

/-- 'leadlightlaw01.PlanePlaces': WHATEVER THE INPUT: true; the input reads as it did. -/
def planePlacesSpec : ChangeSpec := { name := "planePlaces", fn := fun _ => fun
  | [d1, d2] => { results := [.lit (.bool true)], args := [d1, d2] }
  | _ => none }
def planePlacesRow : OpenClaim := { program := "ytpknllbglppjcaa", sum := "d03bdc41e74d72a625e57cb24bfbf8772d9603fdad71bebaa2743d7bf06709fd", func := "leadlight/leadlightlaw01.PlanePlaces", spec := "planePlaces", unfollowed := true, recurses := true, plainKeys := false, apart := false }
def PlanePlacesSaid : Prop := planePlacesRow.holds Try.pinned (OpenSpec.ofChange planePlacesSpec)

/-- ITS FALSE NEIGHBOUR: 'it returns false'. Refute it at one input. -/
def planePlacesWrong : ChangeSpec := { name := "planePlaces", fn := fun _ => fun
  | [d1, d2] => { results := [.lit (.bool false)], args := [d1, d2] }
  | _ => none }
def PlanePlacesWrongFalsely : Prop := planePlacesRow.holds Try.pinned (OpenSpec.ofChange planePlacesWrong)

/-- 'leadlightlaw01.PlaneMoves': WHATEVER THE INPUT: true; the input reads as it did. -/
def planeMovesSpec : ChangeSpec := { name := "planeMoves", fn := fun _ => fun
  | [d1, d2, d3] => { results := [.lit (.bool true)], args := [d1, d2, d3] }
  | _ => none }
def planeMovesRow : OpenClaim := { program := "ytpknllbglppjcaa", sum := "d03bdc41e74d72a625e57cb24bfbf8772d9603fdad71bebaa2743d7bf06709fd", func := "leadlight/leadlightlaw01.PlaneMoves", spec := "planeMoves", unfollowed := true, recurses := true, plainKeys := false, apart := false }
def PlaneMovesSaid : Prop := planeMovesRow.holds Try.pinned (OpenSpec.ofChange planeMovesSpec)

/-- ITS FALSE NEIGHBOUR: 'it returns false'. Refute it at one input. -/
def planeMovesWrong : ChangeSpec := { name := "planeMoves", fn := fun _ => fun
  | [d1, d2, d3] => { results := [.lit (.bool false)], args := [d1, d2, d3] }
  | _ => none }
def PlaneMovesWrongFalsely : Prop := planeMovesRow.holds Try.pinned (OpenSpec.ofChange planeMovesWrong)

/-- 'leadlightlaw01.PlaneSettings': WHATEVER THE INPUT: true; the input reads as it did. -/
def planeSettingsSpec : ChangeSpec := { name := "planeSettings", fn := fun _ => fun
  | [d1, d2, d3, d4, d5, d6] => { results := [.lit (.bool true)], args := [d1, d2, d3, d4, d5, d6] }
  | _ => none }
def planeSettingsRow : OpenClaim := { program := "ytpknllbglppjcaa", sum := "d03bdc41e74d72a625e57cb24bfbf8772d9603fdad71bebaa2743d7bf06709fd", func := "leadlight/leadlightlaw01.PlaneSettings", spec := "planeSettings", unfollowed := true, recurses := true, plainKeys := false, apart := false }
def PlaneSettingsSaid : Prop := planeSettingsRow.holds Try.pinned (OpenSpec.ofChange planeSettingsSpec)

/-- ITS FALSE NEIGHBOUR: 'it returns false'. Refute it at one input. -/
def planeSettingsWrong : ChangeSpec := { name := "planeSettings", fn := fun _ => fun
  | [d1, d2, d3, d4, d5, d6] => { results := [.lit (.bool false)], args := [d1, d2, d3, d4, d5, d6] }
  | _ => none }
def PlaneSettingsWrongFalsely : Prop := planeSettingsRow.holds Try.pinned (OpenSpec.ofChange planeSettingsWrong)

/-- 'leadlightlaw01.PlaneExits': WHATEVER THE INPUT: true; the input reads as it did. -/
def planeExitsSpec : ChangeSpec := { name := "planeExits", fn := fun _ => fun
  | [d] => { results := [.lit (.bool true)], args := [d] }
  | _ => none }
def planeExitsRow : OpenClaim := { program := "ytpknllbglppjcaa", sum := "d03bdc41e74d72a625e57cb24bfbf8772d9603fdad71bebaa2743d7bf06709fd", func := "leadlight/leadlightlaw01.PlaneExits", spec := "planeExits", unfollowed := true, recurses := true, plainKeys := false, apart := false }
def PlaneExitsSaid : Prop := planeExitsRow.holds Try.pinned (OpenSpec.ofChange planeExitsSpec)

/-- ITS FALSE NEIGHBOUR: 'it returns false'. Refute it at one input. -/
def planeExitsWrong : ChangeSpec := { name := "planeExits", fn := fun _ => fun
  | [d] => { results := [.lit (.bool false)], args := [d] }
  | _ => none }
def PlaneExitsWrongFalsely : Prop := planeExitsRow.holds Try.pinned (OpenSpec.ofChange planeExitsWrong)

/-- 'leadlightlaw01.PlaneMeets': WHATEVER THE INPUT: true; the input reads as it did. -/
def planeMeetsSpec : ChangeSpec := { name := "planeMeets", fn := fun _ => fun
  | [d1, d2, d3, d4] => { results := [.lit (.bool true)], args := [d1, d2, d3, d4] }
  | _ => none }
def planeMeetsRow : OpenClaim := { program := "ytpknllbglppjcaa", sum := "d03bdc41e74d72a625e57cb24bfbf8772d9603fdad71bebaa2743d7bf06709fd", func := "leadlight/leadlightlaw01.PlaneMeets", spec := "planeMeets", unfollowed := true, recurses := true, plainKeys := false, apart := false }
def PlaneMeetsSaid : Prop := planeMeetsRow.holds Try.pinned (OpenSpec.ofChange planeMeetsSpec)

/-- ITS FALSE NEIGHBOUR: 'it returns false'. Refute it at one input. -/
def planeMeetsWrong : ChangeSpec := { name := "planeMeets", fn := fun _ => fun
  | [d1, d2, d3, d4] => { results := [.lit (.bool false)], args := [d1, d2, d3, d4] }
  | _ => none }
def PlaneMeetsWrongFalsely : Prop := planeMeetsRow.holds Try.pinned (OpenSpec.ofChange planeMeetsWrong)

/-- 'leadlightlaw01.PlaneNormal': WHATEVER THE INPUT: true; the input reads as it did. -/
def planeNormalSpec : ChangeSpec := { name := "planeNormal", fn := fun _ => fun
  | [d1, d2, d3] => { results := [.lit (.bool true)], args := [d1, d2, d3] }
  | _ => none }
def planeNormalRow : OpenClaim := { program := "ytpknllbglppjcaa", sum := "d03bdc41e74d72a625e57cb24bfbf8772d9603fdad71bebaa2743d7bf06709fd", func := "leadlight/leadlightlaw01.PlaneNormal", spec := "planeNormal", unfollowed := true, recurses := true, plainKeys := false, apart := false }
def PlaneNormalSaid : Prop := planeNormalRow.holds Try.pinned (OpenSpec.ofChange planeNormalSpec)

/-- ITS FALSE NEIGHBOUR: 'it returns false'. Refute it at one input. -/
def planeNormalWrong : ChangeSpec := { name := "planeNormal", fn := fun _ => fun
  | [d1, d2, d3] => { results := [.lit (.bool false)], args := [d1, d2, d3] }
  | _ => none }
def PlaneNormalWrongFalsely : Prop := planeNormalRow.holds Try.pinned (OpenSpec.ofChange planeNormalWrong)

/-- 'leadlightlaw01.PlaneAreas': WHATEVER THE INPUT: true; the input reads as it did. -/
def planeAreasSpec : ChangeSpec := { name := "planeAreas", fn := fun _ => fun
  | [d1, d2, d3] => { results := [.lit (.bool true)], args := [d1, d2, d3] }
  | _ => none }
def planeAreasRow : OpenClaim := { program := "ytpknllbglppjcaa", sum := "d03bdc41e74d72a625e57cb24bfbf8772d9603fdad71bebaa2743d7bf06709fd", func := "leadlight/leadlightlaw01.PlaneAreas", spec := "planeAreas", unfollowed := true, recurses := true, plainKeys := false, apart := false }
def PlaneAreasSaid : Prop := planeAreasRow.holds Try.pinned (OpenSpec.ofChange planeAreasSpec)

/-- ITS FALSE NEIGHBOUR: 'it returns false'. Refute it at one input. -/
def planeAreasWrong : ChangeSpec := { name := "planeAreas", fn := fun _ => fun
  | [d1, d2, d3] => { results := [.lit (.bool false)], args := [d1, d2, d3] }
  | _ => none }
def PlaneAreasWrongFalsely : Prop := planeAreasRow.holds Try.pinned (OpenSpec.ofChange planeAreasWrong)

/-- 'leadlightlaw01.PlanePick': WHATEVER THE INPUT: true; the input reads as it did. -/
def planePickSpec : ChangeSpec := { name := "planePick", fn := fun _ => fun
  | [d] => { results := [.lit (.bool true)], args := [d] }
  | _ => none }
def planePickRow : OpenClaim := { program := "ytpknllbglppjcaa", sum := "d03bdc41e74d72a625e57cb24bfbf8772d9603fdad71bebaa2743d7bf06709fd", func := "leadlight/leadlightlaw01.PlanePick", spec := "planePick", unfollowed := true, recurses := true, plainKeys := false, apart := false }
def PlanePickSaid : Prop := planePickRow.holds Try.pinned (OpenSpec.ofChange planePickSpec)

/-- ITS FALSE NEIGHBOUR: 'it returns false'. Refute it at one input. -/
def planePickWrong : ChangeSpec := { name := "planePick", fn := fun _ => fun
  | [d] => { results := [.lit (.bool false)], args := [d] }
  | _ => none }
def PlanePickWrongFalsely : Prop := planePickRow.holds Try.pinned (OpenSpec.ofChange planePickWrong)

/-- 'leadlightlaw01.PlaneRigid': WHATEVER THE INPUT: true; the input reads as it did. -/
def planeRigidSpec : ChangeSpec := { name := "planeRigid", fn := fun _ => fun
  | [d1, d2, d3] => { results := [.lit (.bool true)], args := [d1, d2, d3] }
  | _ => none }
def planeRigidRow : OpenClaim := { program := "ytpknllbglppjcaa", sum := "d03bdc41e74d72a625e57cb24bfbf8772d9603fdad71bebaa2743d7bf06709fd", func := "leadlight/leadlightlaw01.PlaneRigid", spec := "planeRigid", unfollowed := true, recurses := true, plainKeys := false, apart := false }
def PlaneRigidSaid : Prop := planeRigidRow.holds Try.pinned (OpenSpec.ofChange planeRigidSpec)

/-- ITS FALSE NEIGHBOUR: 'it returns false'. Refute it at one input. -/
def planeRigidWrong : ChangeSpec := { name := "planeRigid", fn := fun _ => fun
  | [d1, d2, d3] => { results := [.lit (.bool false)], args := [d1, d2, d3] }
  | _ => none }
def PlaneRigidWrongFalsely : Prop := planeRigidRow.holds Try.pinned (OpenSpec.ofChange planeRigidWrong)

/-- 'leadlightlaw01.PlaneGroup': WHATEVER THE INPUT: true; the input reads as it did. -/
def planeGroupSpec : ChangeSpec := { name := "planeGroup", fn := fun _ => fun
  | [d1, d2, d3, d4, d5] => { results := [.lit (.bool true)], args := [d1, d2, d3, d4, d5] }
  | _ => none }
def planeGroupRow : OpenClaim := { program := "ytpknllbglppjcaa", sum := "d03bdc41e74d72a625e57cb24bfbf8772d9603fdad71bebaa2743d7bf06709fd", func := "leadlight/leadlightlaw01.PlaneGroup", spec := "planeGroup", unfollowed := true, recurses := true, plainKeys := false, apart := false }
def PlaneGroupSaid : Prop := planeGroupRow.holds Try.pinned (OpenSpec.ofChange planeGroupSpec)

/-- ITS FALSE NEIGHBOUR: 'it returns false'. Refute it at one input. -/
def planeGroupWrong : ChangeSpec := { name := "planeGroup", fn := fun _ => fun
  | [d1, d2, d3, d4, d5] => { results := [.lit (.bool false)], args := [d1, d2, d3, d4, d5] }
  | _ => none }
def PlaneGroupWrongFalsely : Prop := planeGroupRow.holds Try.pinned (OpenSpec.ofChange planeGroupWrong)

/-- 'leadlightlaw01.PlaneCongruent': WHATEVER THE INPUT: true; the input reads as it did. -/
def planeCongruentSpec : ChangeSpec := { name := "planeCongruent", fn := fun _ => fun
  | [d1, d2, d3] => { results := [.lit (.bool true)], args := [d1, d2, d3] }
  | _ => none }
def planeCongruentRow : OpenClaim := { program := "ytpknllbglppjcaa", sum := "d03bdc41e74d72a625e57cb24bfbf8772d9603fdad71bebaa2743d7bf06709fd", func := "leadlight/leadlightlaw01.PlaneCongruent", spec := "planeCongruent", unfollowed := true, recurses := true, plainKeys := false, apart := false }
def PlaneCongruentSaid : Prop := planeCongruentRow.holds Try.pinned (OpenSpec.ofChange planeCongruentSpec)

/-- ITS FALSE NEIGHBOUR: 'it returns false'. Refute it at one input. -/
def planeCongruentWrong : ChangeSpec := { name := "planeCongruent", fn := fun _ => fun
  | [d1, d2, d3] => { results := [.lit (.bool false)], args := [d1, d2, d3] }
  | _ => none }
def PlaneCongruentWrongFalsely : Prop := planeCongruentRow.holds Try.pinned (OpenSpec.ofChange planeCongruentWrong)

/-- 'leadlightlaw01.PlaneDirections': WHATEVER THE INPUT: true; the input reads as it did. -/
def planeDirectionsSpec : ChangeSpec := { name := "planeDirections", fn := fun _ => fun
  | [d1, d2, d3] => { results := [.lit (.bool true)], args := [d1, d2, d3] }
  | _ => none }
def planeDirectionsRow : OpenClaim := { program := "ytpknllbglppjcaa", sum := "d03bdc41e74d72a625e57cb24bfbf8772d9603fdad71bebaa2743d7bf06709fd", func := "leadlight/leadlightlaw01.PlaneDirections", spec := "planeDirections", unfollowed := true, recurses := true, plainKeys := false, apart := false }
def PlaneDirectionsSaid : Prop := planeDirectionsRow.holds Try.pinned (OpenSpec.ofChange planeDirectionsSpec)

/-- ITS FALSE NEIGHBOUR: 'it returns false'. Refute it at one input. -/
def planeDirectionsWrong : ChangeSpec := { name := "planeDirections", fn := fun _ => fun
  | [d1, d2, d3] => { results := [.lit (.bool false)], args := [d1, d2, d3] }
  | _ => none }
def PlaneDirectionsWrongFalsely : Prop := planeDirectionsRow.holds Try.pinned (OpenSpec.ofChange planeDirectionsWrong)

/- THE SECOND FORM. 'bulk': how many values and letters a reading holds, each counted each time it is reached (what is shared counts as often as it is met; a slice's spare places count too). A statement '..UptoSaid' is the law's where the arguments, and the package variables that the reading takes, are together of bulk at most 1048576: NARROWER than '..Said'. Prove '..Said' where nothing that the law and all that it calls make is longer than what came in: it says more and counts as full. Else prove '..UptoSaid'. A law counts once. -/
mutual
def uptoBulk {H : Type} : DataW H → Nat
  | .lit (.string bytes) => bytes.length + 1
  | .lit _ => 1
  | .nil => 1
  | .ptr d => uptoBulk d + 1
  | .slice elems spare => uptoBulkAll elems + uptoBulkAll spare + 1
  | .agg parts => uptoBulkAll parts + 1
  | .iface _ d => uptoBulk d + 1
  | .map entries => uptoBulkEntries entries + 1
  | .held _ => 1
def uptoBulkAll {H : Type} : List (DataW H) → Nat
  | [] => 0
  | d :: r => uptoBulk d + uptoBulkAll r
def uptoBulkEntries {H : Type} : List (Lit × DataW H) → Nat
  | [] => 0
  | x :: r => uptoBulkEntry x + uptoBulkEntries r
def uptoBulkEntry {H : Type} : Lit × DataW H → Nat
  | (.string bytes, d) => bytes.length + uptoBulk d + 1
  | (_, d) => uptoBulk d + 1
 end
def uptoSmall : (H : Type) → List (DataW H) → Bool := fun _ ds => decide (uptoBulkAll ds ≤ 1048576)
def OpenSpec.upto (s : _root_.Go.ChangeSpec) : _root_.Go.OpenSpec := { _root_.Go.OpenSpec.ofChange s with cond := some uptoSmall }

/-- 'leadlightlaw01.PlanePoints', WHERE WHAT IT READS IS OF BULK AT MOST 1048576: true; the input reads as it did. -/
def planePointsUptoRow : OpenClaim := { program := "ytpknllbglppjcaa", sum := "d03bdc41e74d72a625e57cb24bfbf8772d9603fdad71bebaa2743d7bf06709fd", func := "leadlight/leadlightlaw01.PlanePoints", spec := "planePoints", unfollowed := true, recurses := true, plainKeys := false, apart := false, narrowed := true }
def PlanePointsUptoSaid : Prop := planePointsUptoRow.holds Try.pinned (OpenSpec.upto planePointsSpec)

/-- 'leadlightlaw01.PlaneOutlines', WHERE WHAT IT READS IS OF BULK AT MOST 1048576: true; the input reads as it did. -/
def planeOutlinesUptoRow : OpenClaim := { program := "ytpknllbglppjcaa", sum := "d03bdc41e74d72a625e57cb24bfbf8772d9603fdad71bebaa2743d7bf06709fd", func := "leadlight/leadlightlaw01.PlaneOutlines", spec := "planeOutlines", unfollowed := true, recurses := true, plainKeys := false, apart := false, narrowed := true }
def PlaneOutlinesUptoSaid : Prop := planeOutlinesUptoRow.holds Try.pinned (OpenSpec.upto planeOutlinesSpec)

/-- 'leadlightlaw01.PlanePlaces', WHERE WHAT IT READS IS OF BULK AT MOST 1048576: true; the input reads as it did. -/
def planePlacesUptoRow : OpenClaim := { program := "ytpknllbglppjcaa", sum := "d03bdc41e74d72a625e57cb24bfbf8772d9603fdad71bebaa2743d7bf06709fd", func := "leadlight/leadlightlaw01.PlanePlaces", spec := "planePlaces", unfollowed := true, recurses := true, plainKeys := false, apart := false, narrowed := true }
def PlanePlacesUptoSaid : Prop := planePlacesUptoRow.holds Try.pinned (OpenSpec.upto planePlacesSpec)

/-- 'leadlightlaw01.PlaneMoves', WHERE WHAT IT READS IS OF BULK AT MOST 1048576: true; the input reads as it did. -/
def planeMovesUptoRow : OpenClaim := { program := "ytpknllbglppjcaa", sum := "d03bdc41e74d72a625e57cb24bfbf8772d9603fdad71bebaa2743d7bf06709fd", func := "leadlight/leadlightlaw01.PlaneMoves", spec := "planeMoves", unfollowed := true, recurses := true, plainKeys := false, apart := false, narrowed := true }
def PlaneMovesUptoSaid : Prop := planeMovesUptoRow.holds Try.pinned (OpenSpec.upto planeMovesSpec)

/-- 'leadlightlaw01.PlaneSettings', WHERE WHAT IT READS IS OF BULK AT MOST 1048576: true; the input reads as it did. -/
def planeSettingsUptoRow : OpenClaim := { program := "ytpknllbglppjcaa", sum := "d03bdc41e74d72a625e57cb24bfbf8772d9603fdad71bebaa2743d7bf06709fd", func := "leadlight/leadlightlaw01.PlaneSettings", spec := "planeSettings", unfollowed := true, recurses := true, plainKeys := false, apart := false, narrowed := true }
def PlaneSettingsUptoSaid : Prop := planeSettingsUptoRow.holds Try.pinned (OpenSpec.upto planeSettingsSpec)

/-- 'leadlightlaw01.PlaneExits', WHERE WHAT IT READS IS OF BULK AT MOST 1048576: true; the input reads as it did. -/
def planeExitsUptoRow : OpenClaim := { program := "ytpknllbglppjcaa", sum := "d03bdc41e74d72a625e57cb24bfbf8772d9603fdad71bebaa2743d7bf06709fd", func := "leadlight/leadlightlaw01.PlaneExits", spec := "planeExits", unfollowed := true, recurses := true, plainKeys := false, apart := false, narrowed := true }
def PlaneExitsUptoSaid : Prop := planeExitsUptoRow.holds Try.pinned (OpenSpec.upto planeExitsSpec)

/-- 'leadlightlaw01.PlaneMeets', WHERE WHAT IT READS IS OF BULK AT MOST 1048576: true; the input reads as it did. -/
def planeMeetsUptoRow : OpenClaim := { program := "ytpknllbglppjcaa", sum := "d03bdc41e74d72a625e57cb24bfbf8772d9603fdad71bebaa2743d7bf06709fd", func := "leadlight/leadlightlaw01.PlaneMeets", spec := "planeMeets", unfollowed := true, recurses := true, plainKeys := false, apart := false, narrowed := true }
def PlaneMeetsUptoSaid : Prop := planeMeetsUptoRow.holds Try.pinned (OpenSpec.upto planeMeetsSpec)

/-- 'leadlightlaw01.PlaneNormal', WHERE WHAT IT READS IS OF BULK AT MOST 1048576: true; the input reads as it did. -/
def planeNormalUptoRow : OpenClaim := { program := "ytpknllbglppjcaa", sum := "d03bdc41e74d72a625e57cb24bfbf8772d9603fdad71bebaa2743d7bf06709fd", func := "leadlight/leadlightlaw01.PlaneNormal", spec := "planeNormal", unfollowed := true, recurses := true, plainKeys := false, apart := false, narrowed := true }
def PlaneNormalUptoSaid : Prop := planeNormalUptoRow.holds Try.pinned (OpenSpec.upto planeNormalSpec)

/-- 'leadlightlaw01.PlaneAreas', WHERE WHAT IT READS IS OF BULK AT MOST 1048576: true; the input reads as it did. -/
def planeAreasUptoRow : OpenClaim := { program := "ytpknllbglppjcaa", sum := "d03bdc41e74d72a625e57cb24bfbf8772d9603fdad71bebaa2743d7bf06709fd", func := "leadlight/leadlightlaw01.PlaneAreas", spec := "planeAreas", unfollowed := true, recurses := true, plainKeys := false, apart := false, narrowed := true }
def PlaneAreasUptoSaid : Prop := planeAreasUptoRow.holds Try.pinned (OpenSpec.upto planeAreasSpec)

/-- 'leadlightlaw01.PlanePick', WHERE WHAT IT READS IS OF BULK AT MOST 1048576: true; the input reads as it did. -/
def planePickUptoRow : OpenClaim := { program := "ytpknllbglppjcaa", sum := "d03bdc41e74d72a625e57cb24bfbf8772d9603fdad71bebaa2743d7bf06709fd", func := "leadlight/leadlightlaw01.PlanePick", spec := "planePick", unfollowed := true, recurses := true, plainKeys := false, apart := false, narrowed := true }
def PlanePickUptoSaid : Prop := planePickUptoRow.holds Try.pinned (OpenSpec.upto planePickSpec)

/-- 'leadlightlaw01.PlaneRigid', WHERE WHAT IT READS IS OF BULK AT MOST 1048576: true; the input reads as it did. -/
def planeRigidUptoRow : OpenClaim := { program := "ytpknllbglppjcaa", sum := "d03bdc41e74d72a625e57cb24bfbf8772d9603fdad71bebaa2743d7bf06709fd", func := "leadlight/leadlightlaw01.PlaneRigid", spec := "planeRigid", unfollowed := true, recurses := true, plainKeys := false, apart := false, narrowed := true }
def PlaneRigidUptoSaid : Prop := planeRigidUptoRow.holds Try.pinned (OpenSpec.upto planeRigidSpec)

/-- 'leadlightlaw01.PlaneGroup', WHERE WHAT IT READS IS OF BULK AT MOST 1048576: true; the input reads as it did. -/
def planeGroupUptoRow : OpenClaim := { program := "ytpknllbglppjcaa", sum := "d03bdc41e74d72a625e57cb24bfbf8772d9603fdad71bebaa2743d7bf06709fd", func := "leadlight/leadlightlaw01.PlaneGroup", spec := "planeGroup", unfollowed := true, recurses := true, plainKeys := false, apart := false, narrowed := true }
def PlaneGroupUptoSaid : Prop := planeGroupUptoRow.holds Try.pinned (OpenSpec.upto planeGroupSpec)

/-- 'leadlightlaw01.PlaneCongruent', WHERE WHAT IT READS IS OF BULK AT MOST 1048576: true; the input reads as it did. -/
def planeCongruentUptoRow : OpenClaim := { program := "ytpknllbglppjcaa", sum := "d03bdc41e74d72a625e57cb24bfbf8772d9603fdad71bebaa2743d7bf06709fd", func := "leadlight/leadlightlaw01.PlaneCongruent", spec := "planeCongruent", unfollowed := true, recurses := true, plainKeys := false, apart := false, narrowed := true }
def PlaneCongruentUptoSaid : Prop := planeCongruentUptoRow.holds Try.pinned (OpenSpec.upto planeCongruentSpec)

/-- 'leadlightlaw01.PlaneDirections', WHERE WHAT IT READS IS OF BULK AT MOST 1048576: true; the input reads as it did. -/
def planeDirectionsUptoRow : OpenClaim := { program := "ytpknllbglppjcaa", sum := "d03bdc41e74d72a625e57cb24bfbf8772d9603fdad71bebaa2743d7bf06709fd", func := "leadlight/leadlightlaw01.PlaneDirections", spec := "planeDirections", unfollowed := true, recurses := true, plainKeys := false, apart := false, narrowed := true }
def PlaneDirectionsUptoSaid : Prop := planeDirectionsUptoRow.holds Try.pinned (OpenSpec.upto planeDirectionsSpec)

end Rows
end Go.Proofs.Ytpknllbglppjcaa
