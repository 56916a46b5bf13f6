/-
  No cell of these rows narrows 'for every input' (looked for: loops, veiled, ifaces, maps, wideKeys, modest, calm, conditions, laid).
  DERIVED. THE GIVEN ROWS OF THIS SEAT. 7 by the template 'for every input the law returns true; each argument reads behind the call as it read before'; 0 by the template 'total and deterministic' (their statements: YtiommdfelnkibaaGreatTotals.lean).
  GIVEN WITH THE SEED: the statements are not yours to turn. If you find one false, say at which input.
  Laid BY PROGRAM, IN A SANDBOX (cutbox-rows.mjs): the forced cells as the released guide's own fill.sh prints them over the translation cdb15024f06bfbb7… (all of the seat's roots in one cut). By AI agents, Wed Nov 11 2026. No macro, syntax, notation, axiom, sorry.
-/
import Derived.Test.YtiommdfelnkibaaGreatChecked
import GoSem.Claim
import GoSem.ClaimJoined
import GoSem.ClaimMapViews
import Derived.JoinedTies
import Derived.KernelRfl
namespace Go.Proofs.YtiommdfelnkibaaGreat
/- THE CELL 'sum', in the pinned program and in every row, IS THE sha256 OF THE DUMP (.gsa) THAT YtiommdfelnkibaaGreatProg.lean LOADS. Nothing in Lean hashes anything: it is a label: what it is worth is what the hold of that sum in a sandbox is worth. -/
noncomputable def Tryz.pinned : Pinned := { name := "ytiommdfelnkibaagreat", sum := "cdb15024f06bfbb79cb5c91ddff9111e73a14a272d3db6297e0e89c3e1b8cf49", checked := Tryz.checked }
namespace Rows
def none {H : Type} : Left H := { results := [], args := [] }

/-- 'leadlightlaw03.GlassFits': WHATEVER THE INPUT: true; the input reads as it did. -/
def glassFitsSpec : ChangeSpec := { name := "glassFits", fn := fun _ => fun
  | [d1, d2, d3] => { results := [.lit (.bool true)], args := [d1, d2, d3] }
  | _ => none }
def glassFitsRow : OpenClaim := { program := "ytiommdfelnkibaagreat", sum := "cdb15024f06bfbb79cb5c91ddff9111e73a14a272d3db6297e0e89c3e1b8cf49", func := "leadlight/leadlightlaw03.GlassFits", spec := "glassFits", unfollowed := true, recurses := true, plainKeys := false, apart := false }
def GlassFitsSaid : Prop := glassFitsRow.holds Tryz.pinned (OpenSpec.ofChange glassFitsSpec)

/-- ITS FALSE NEIGHBOUR: 'it returns false'. Refute it at one input. -/
def glassFitsWrong : ChangeSpec := { name := "glassFits", fn := fun _ => fun
  | [d1, d2, d3] => { results := [.lit (.bool false)], args := [d1, d2, d3] }
  | _ => none }
def GlassFitsWrongFalsely : Prop := glassFitsRow.holds Tryz.pinned (OpenSpec.ofChange glassFitsWrong)

/-- 'leadlightlaw03.GlassResets': WHATEVER THE INPUT: true; the input reads as it did. -/
def glassResetsSpec : ChangeSpec := { name := "glassResets", fn := fun _ => fun
  | [d1, d2] => { results := [.lit (.bool true)], args := [d1, d2] }
  | _ => none }
def glassResetsRow : OpenClaim := { program := "ytiommdfelnkibaagreat", sum := "cdb15024f06bfbb79cb5c91ddff9111e73a14a272d3db6297e0e89c3e1b8cf49", func := "leadlight/leadlightlaw03.GlassResets", spec := "glassResets", unfollowed := true, recurses := true, plainKeys := false, apart := false }
def GlassResetsSaid : Prop := glassResetsRow.holds Tryz.pinned (OpenSpec.ofChange glassResetsSpec)

/-- ITS FALSE NEIGHBOUR: 'it returns false'. Refute it at one input. -/
def glassResetsWrong : ChangeSpec := { name := "glassResets", fn := fun _ => fun
  | [d1, d2] => { results := [.lit (.bool false)], args := [d1, d2] }
  | _ => none }
def GlassResetsWrongFalsely : Prop := glassResetsRow.holds Tryz.pinned (OpenSpec.ofChange glassResetsWrong)

/-- 'leadlightlaw03.GlassMerges': WHATEVER THE INPUT: true; the input reads as it did. -/
def glassMergesSpec : ChangeSpec := { name := "glassMerges", fn := fun _ => fun
  | [d1, d2, d3] => { results := [.lit (.bool true)], args := [d1, d2, d3] }
  | _ => none }
def glassMergesRow : OpenClaim := { program := "ytiommdfelnkibaagreat", sum := "cdb15024f06bfbb79cb5c91ddff9111e73a14a272d3db6297e0e89c3e1b8cf49", func := "leadlight/leadlightlaw03.GlassMerges", spec := "glassMerges", unfollowed := true, recurses := true, plainKeys := false, apart := false }
def GlassMergesSaid : Prop := glassMergesRow.holds Tryz.pinned (OpenSpec.ofChange glassMergesSpec)

/-- ITS FALSE NEIGHBOUR: 'it returns false'. Refute it at one input. -/
def glassMergesWrong : ChangeSpec := { name := "glassMerges", fn := fun _ => fun
  | [d1, d2, d3] => { results := [.lit (.bool false)], args := [d1, d2, d3] }
  | _ => none }
def GlassMergesWrongFalsely : Prop := glassMergesRow.holds Tryz.pinned (OpenSpec.ofChange glassMergesWrong)

/-- 'leadlightlaw03.GlassExact': WHATEVER THE INPUT: true; the input reads as it did. -/
def glassExactSpec : ChangeSpec := { name := "glassExact", fn := fun _ => fun
  | [d1, d2, d3, d4] => { results := [.lit (.bool true)], args := [d1, d2, d3, d4] }
  | _ => none }
def glassExactRow : OpenClaim := { program := "ytiommdfelnkibaagreat", sum := "cdb15024f06bfbb79cb5c91ddff9111e73a14a272d3db6297e0e89c3e1b8cf49", func := "leadlight/leadlightlaw03.GlassExact", spec := "glassExact", unfollowed := true, recurses := true, plainKeys := false, apart := false }
def GlassExactSaid : Prop := glassExactRow.holds Tryz.pinned (OpenSpec.ofChange glassExactSpec)

/-- ITS FALSE NEIGHBOUR: 'it returns false'. Refute it at one input. -/
def glassExactWrong : ChangeSpec := { name := "glassExact", fn := fun _ => fun
  | [d1, d2, d3, d4] => { results := [.lit (.bool false)], args := [d1, d2, d3, d4] }
  | _ => none }
def GlassExactWrongFalsely : Prop := glassExactRow.holds Tryz.pinned (OpenSpec.ofChange glassExactWrong)

/-- 'leadlightlaw03.GlassComposes': WHATEVER THE INPUT: true; the input reads as it did. -/
def glassComposesSpec : ChangeSpec := { name := "glassComposes", fn := fun _ => fun
  | [d1, d2, d3, d4] => { results := [.lit (.bool true)], args := [d1, d2, d3, d4] }
  | _ => none }
def glassComposesRow : OpenClaim := { program := "ytiommdfelnkibaagreat", sum := "cdb15024f06bfbb79cb5c91ddff9111e73a14a272d3db6297e0e89c3e1b8cf49", func := "leadlight/leadlightlaw03.GlassComposes", spec := "glassComposes", unfollowed := true, recurses := true, plainKeys := false, apart := false }
def GlassComposesSaid : Prop := glassComposesRow.holds Tryz.pinned (OpenSpec.ofChange glassComposesSpec)

/-- ITS FALSE NEIGHBOUR: 'it returns false'. Refute it at one input. -/
def glassComposesWrong : ChangeSpec := { name := "glassComposes", fn := fun _ => fun
  | [d1, d2, d3, d4] => { results := [.lit (.bool false)], args := [d1, d2, d3, d4] }
  | _ => none }
def GlassComposesWrongFalsely : Prop := glassComposesRow.holds Tryz.pinned (OpenSpec.ofChange glassComposesWrong)

/-- 'leadlightlaw03.GlassMoves': WHATEVER THE INPUT: true; the input reads as it did. -/
def glassMovesSpec : ChangeSpec := { name := "glassMoves", fn := fun _ => fun
  | [d1, d2, d3, d4] => { results := [.lit (.bool true)], args := [d1, d2, d3, d4] }
  | _ => none }
def glassMovesRow : OpenClaim := { program := "ytiommdfelnkibaagreat", sum := "cdb15024f06bfbb79cb5c91ddff9111e73a14a272d3db6297e0e89c3e1b8cf49", func := "leadlight/leadlightlaw03.GlassMoves", spec := "glassMoves", unfollowed := true, recurses := true, plainKeys := false, apart := false }
def GlassMovesSaid : Prop := glassMovesRow.holds Tryz.pinned (OpenSpec.ofChange glassMovesSpec)

/-- ITS FALSE NEIGHBOUR: 'it returns false'. Refute it at one input. -/
def glassMovesWrong : ChangeSpec := { name := "glassMoves", fn := fun _ => fun
  | [d1, d2, d3, d4] => { results := [.lit (.bool false)], args := [d1, d2, d3, d4] }
  | _ => none }
def GlassMovesWrongFalsely : Prop := glassMovesRow.holds Tryz.pinned (OpenSpec.ofChange glassMovesWrong)

/-- 'leadlightlaw03.GlassOne': WHATEVER THE INPUT: true; the input reads as it did. -/
def glassOneSpec : ChangeSpec := { name := "glassOne", fn := fun _ => fun
  | [d1, d2, d3] => { results := [.lit (.bool true)], args := [d1, d2, d3] }
  | _ => none }
def glassOneRow : OpenClaim := { program := "ytiommdfelnkibaagreat", sum := "cdb15024f06bfbb79cb5c91ddff9111e73a14a272d3db6297e0e89c3e1b8cf49", func := "leadlight/leadlightlaw03.GlassOne", spec := "glassOne", unfollowed := true, recurses := true, plainKeys := false, apart := false }
def GlassOneSaid : Prop := glassOneRow.holds Tryz.pinned (OpenSpec.ofChange glassOneSpec)

/-- ITS FALSE NEIGHBOUR: 'it returns false'. Refute it at one input. -/
def glassOneWrong : ChangeSpec := { name := "glassOne", fn := fun _ => fun
  | [d1, d2, d3] => { results := [.lit (.bool false)], args := [d1, d2, d3] }
  | _ => none }
def GlassOneWrongFalsely : Prop := glassOneRow.holds Tryz.pinned (OpenSpec.ofChange glassOneWrong)

/- THE SECOND FORM. 'bulk': how many values and letters a reading holds, each counted each time it is reached (what is shared counts as often as it is met; a slice's spare places count too). A statement '..UptoSaid' is the law's where the arguments, and the package variables that the reading takes, are together of bulk at most 1048576: NARROWER than '..Said'. Prove '..Said' where nothing that the law and all that it calls make is longer than what came in: it says more and counts as full. Else prove '..UptoSaid'. A law counts once. -/
mutual
def uptoBulk {H : Type} : DataW H → Nat
  | .lit (.string bytes) => bytes.length + 1
  | .lit _ => 1
  | .nil => 1
  | .ptr d => uptoBulk d + 1
  | .slice elems spare => uptoBulkAll elems + uptoBulkAll spare + 1
  | .agg parts => uptoBulkAll parts + 1
  | .iface _ d => uptoBulk d + 1
  | .map entries => uptoBulkEntries entries + 1
  | .held _ => 1
def uptoBulkAll {H : Type} : List (DataW H) → Nat
  | [] => 0
  | d :: r => uptoBulk d + uptoBulkAll r
def uptoBulkEntries {H : Type} : List (Lit × DataW H) → Nat
  | [] => 0
  | x :: r => uptoBulkEntry x + uptoBulkEntries r
def uptoBulkEntry {H : Type} : Lit × DataW H → Nat
  | (.string bytes, d) => bytes.length + uptoBulk d + 1
  | (_, d) => uptoBulk d + 1
 end
def uptoSmall : (H : Type) → List (DataW H) → Bool := fun _ ds => decide (uptoBulkAll ds ≤ 1048576)
def OpenSpec.upto (s : _root_.Go.ChangeSpec) : _root_.Go.OpenSpec := { _root_.Go.OpenSpec.ofChange s with cond := some uptoSmall }

/-- 'leadlightlaw03.GlassFits', WHERE WHAT IT READS IS OF BULK AT MOST 1048576: true; the input reads as it did. -/
def glassFitsUptoRow : OpenClaim := { program := "ytiommdfelnkibaagreat", sum := "cdb15024f06bfbb79cb5c91ddff9111e73a14a272d3db6297e0e89c3e1b8cf49", func := "leadlight/leadlightlaw03.GlassFits", spec := "glassFits", unfollowed := true, recurses := true, plainKeys := false, apart := false, narrowed := true }
def GlassFitsUptoSaid : Prop := glassFitsUptoRow.holds Tryz.pinned (OpenSpec.upto glassFitsSpec)

/-- 'leadlightlaw03.GlassResets', WHERE WHAT IT READS IS OF BULK AT MOST 1048576: true; the input reads as it did. -/
def glassResetsUptoRow : OpenClaim := { program := "ytiommdfelnkibaagreat", sum := "cdb15024f06bfbb79cb5c91ddff9111e73a14a272d3db6297e0e89c3e1b8cf49", func := "leadlight/leadlightlaw03.GlassResets", spec := "glassResets", unfollowed := true, recurses := true, plainKeys := false, apart := false, narrowed := true }
def GlassResetsUptoSaid : Prop := glassResetsUptoRow.holds Tryz.pinned (OpenSpec.upto glassResetsSpec)

/-- 'leadlightlaw03.GlassMerges', WHERE WHAT IT READS IS OF BULK AT MOST 1048576: true; the input reads as it did. -/
def glassMergesUptoRow : OpenClaim := { program := "ytiommdfelnkibaagreat", sum := "cdb15024f06bfbb79cb5c91ddff9111e73a14a272d3db6297e0e89c3e1b8cf49", func := "leadlight/leadlightlaw03.GlassMerges", spec := "glassMerges", unfollowed := true, recurses := true, plainKeys := false, apart := false, narrowed := true }
def GlassMergesUptoSaid : Prop := glassMergesUptoRow.holds Tryz.pinned (OpenSpec.upto glassMergesSpec)

/-- 'leadlightlaw03.GlassExact', WHERE WHAT IT READS IS OF BULK AT MOST 1048576: true; the input reads as it did. -/
def glassExactUptoRow : OpenClaim := { program := "ytiommdfelnkibaagreat", sum := "cdb15024f06bfbb79cb5c91ddff9111e73a14a272d3db6297e0e89c3e1b8cf49", func := "leadlight/leadlightlaw03.GlassExact", spec := "glassExact", unfollowed := true, recurses := true, plainKeys := false, apart := false, narrowed := true }
def GlassExactUptoSaid : Prop := glassExactUptoRow.holds Tryz.pinned (OpenSpec.upto glassExactSpec)

/-- 'leadlightlaw03.GlassComposes', WHERE WHAT IT READS IS OF BULK AT MOST 1048576: true; the input reads as it did. -/
def glassComposesUptoRow : OpenClaim := { program := "ytiommdfelnkibaagreat", sum := "cdb15024f06bfbb79cb5c91ddff9111e73a14a272d3db6297e0e89c3e1b8cf49", func := "leadlight/leadlightlaw03.GlassComposes", spec := "glassComposes", unfollowed := true, recurses := true, plainKeys := false, apart := false, narrowed := true }
def GlassComposesUptoSaid : Prop := glassComposesUptoRow.holds Tryz.pinned (OpenSpec.upto glassComposesSpec)

/-- 'leadlightlaw03.GlassMoves', WHERE WHAT IT READS IS OF BULK AT MOST 1048576: true; the input reads as it did. -/
def glassMovesUptoRow : OpenClaim := { program := "ytiommdfelnkibaagreat", sum := "cdb15024f06bfbb79cb5c91ddff9111e73a14a272d3db6297e0e89c3e1b8cf49", func := "leadlight/leadlightlaw03.GlassMoves", spec := "glassMoves", unfollowed := true, recurses := true, plainKeys := false, apart := false, narrowed := true }
def GlassMovesUptoSaid : Prop := glassMovesUptoRow.holds Tryz.pinned (OpenSpec.upto glassMovesSpec)

/-- 'leadlightlaw03.GlassOne', WHERE WHAT IT READS IS OF BULK AT MOST 1048576: true; the input reads as it did. -/
def glassOneUptoRow : OpenClaim := { program := "ytiommdfelnkibaagreat", sum := "cdb15024f06bfbb79cb5c91ddff9111e73a14a272d3db6297e0e89c3e1b8cf49", func := "leadlight/leadlightlaw03.GlassOne", spec := "glassOne", unfollowed := true, recurses := true, plainKeys := false, apart := false, narrowed := true }
def GlassOneUptoSaid : Prop := glassOneUptoRow.holds Tryz.pinned (OpenSpec.upto glassOneSpec)

end Rows
end Go.Proofs.YtiommdfelnkibaaGreat
