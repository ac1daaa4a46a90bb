/-
  No cell of these rows narrows 'for every input' (looked for: loops, veiled, ifaces, maps, wideKeys, modest, calm, conditions, laid).
  DERIVED. THE GIVEN ROWS OF THIS SEAT. 3 by the template 'for every input the law returns true; each argument reads behind the call as it read before'; 0 by the template 'total and deterministic' (their statements: YtcfhhabjiofehaaTotals.lean).
  GIVEN WITH THE SEED: the statements are not yours to turn. If you find one false, say at which input.
  Laid BY PROGRAM, IN A SANDBOX (cutbox-rows.mjs): the forced cells as the released guide's own fill.sh prints them over the translation 4533f2fd8a0a4f63… (all of the seat's roots in one cut). By AI agents, Wed Nov 11 2026. No macro, syntax, notation, axiom, sorry.
-/
import Derived.Test.YtcfhhabjiofehaaChecked
import GoSem.Claim
import GoSem.ClaimJoined
import GoSem.ClaimMapViews
import Derived.JoinedTies
import Derived.KernelRfl
namespace Go.Proofs.Ytcfhhabjiofehaa
/- THE CELL 'sum', in the pinned program and in every row, IS THE sha256 OF THE DUMP (.gsa) THAT YtcfhhabjiofehaaProg.lean LOADS. Nothing in Lean hashes anything: it is a label: what it is worth is what the hold of that sum in a sandbox is worth. -/
noncomputable def Try.pinned : Pinned := { name := "ytcfhhabjiofehaa", sum := "4533f2fd8a0a4f63e22aef2a5858112eece9f2a8de9b2b99f2e5ce0098a3e207", checked := Try.checked }
namespace Rows
def none {H : Type} : Left H := { results := [], args := [] }

/-- 'vademecumlaw12.SpineTells': WHATEVER THE INPUT: true; the input reads as it did. -/
def spineTellsSpec : ChangeSpec := { name := "spineTells", fn := fun _ => fun
  | [d1, d2, d3, d4, d5] => { results := [.lit (.bool true)], args := [d1, d2, d3, d4, d5] }
  | _ => none }
def spineTellsRow : OpenClaim := { program := "ytcfhhabjiofehaa", sum := "4533f2fd8a0a4f63e22aef2a5858112eece9f2a8de9b2b99f2e5ce0098a3e207", func := "vademecum/vademecumlaw12.SpineTells", spec := "spineTells", unfollowed := true, recurses := true, apart := false }
def SpineTellsSaid : Prop := spineTellsRow.holds Try.pinned (OpenSpec.ofChange spineTellsSpec)

/-- ITS FALSE NEIGHBOUR: 'it returns false'. Refute it at one input. -/
def spineTellsWrong : ChangeSpec := { name := "spineTells", fn := fun _ => fun
  | [d1, d2, d3, d4, d5] => { results := [.lit (.bool false)], args := [d1, d2, d3, d4, d5] }
  | _ => none }
def SpineTellsWrongFalsely : Prop := spineTellsRow.holds Try.pinned (OpenSpec.ofChange spineTellsWrong)

/-- 'vademecumlaw12.SpineBack': WHATEVER THE INPUT: true; the input reads as it did. -/
def spineBackSpec : ChangeSpec := { name := "spineBack", fn := fun _ => fun
  | [d1, d2] => { results := [.lit (.bool true)], args := [d1, d2] }
  | _ => none }
def spineBackRow : OpenClaim := { program := "ytcfhhabjiofehaa", sum := "4533f2fd8a0a4f63e22aef2a5858112eece9f2a8de9b2b99f2e5ce0098a3e207", func := "vademecum/vademecumlaw12.SpineBack", spec := "spineBack", unfollowed := true, recurses := true, apart := false }
def SpineBackSaid : Prop := spineBackRow.holds Try.pinned (OpenSpec.ofChange spineBackSpec)

/-- ITS FALSE NEIGHBOUR: 'it returns false'. Refute it at one input. -/
def spineBackWrong : ChangeSpec := { name := "spineBack", fn := fun _ => fun
  | [d1, d2] => { results := [.lit (.bool false)], args := [d1, d2] }
  | _ => none }
def SpineBackWrongFalsely : Prop := spineBackRow.holds Try.pinned (OpenSpec.ofChange spineBackWrong)

/-- 'vademecumlaw12.SpineCounts': WHATEVER THE INPUT: true; the input reads as it did. -/
def spineCountsSpec : ChangeSpec := { name := "spineCounts", fn := fun _ => fun
  | [d1, d2, d3] => { results := [.lit (.bool true)], args := [d1, d2, d3] }
  | _ => none }
def spineCountsRow : OpenClaim := { program := "ytcfhhabjiofehaa", sum := "4533f2fd8a0a4f63e22aef2a5858112eece9f2a8de9b2b99f2e5ce0098a3e207", func := "vademecum/vademecumlaw12.SpineCounts", spec := "spineCounts", unfollowed := true, recurses := true, apart := false }
def SpineCountsSaid : Prop := spineCountsRow.holds Try.pinned (OpenSpec.ofChange spineCountsSpec)

/-- ITS FALSE NEIGHBOUR: 'it returns false'. Refute it at one input. -/
def spineCountsWrong : ChangeSpec := { name := "spineCounts", fn := fun _ => fun
  | [d1, d2, d3] => { results := [.lit (.bool false)], args := [d1, d2, d3] }
  | _ => none }
def SpineCountsWrongFalsely : Prop := spineCountsRow.holds Try.pinned (OpenSpec.ofChange spineCountsWrong)

/- THE SECOND FORM. 'bulk': how many values and letters a reading holds, each counted each time it is reached (what is shared counts as often as it is met; a slice's spare places count too). A statement '..UptoSaid' is the law's where the arguments, and the package variables that the reading takes, are together of bulk at most 1048576: NARROWER than '..Said'. Prove '..Said' where nothing that the law and all that it calls make is longer than what came in: it says more and counts as full. Else prove '..UptoSaid'. A law counts once. -/
mutual
def uptoBulk {H : Type} : DataW H → Nat
  | .lit (.string bytes) => bytes.length + 1
  | .lit _ => 1
  | .nil => 1
  | .ptr d => uptoBulk d + 1
  | .slice elems spare => uptoBulkAll elems + uptoBulkAll spare + 1
  | .agg parts => uptoBulkAll parts + 1
  | .iface _ d => uptoBulk d + 1
  | .map entries => uptoBulkEntries entries + 1
  | .held _ => 1
def uptoBulkAll {H : Type} : List (DataW H) → Nat
  | [] => 0
  | d :: r => uptoBulk d + uptoBulkAll r
def uptoBulkEntries {H : Type} : List (Lit × DataW H) → Nat
  | [] => 0
  | x :: r => uptoBulkEntry x + uptoBulkEntries r
def uptoBulkEntry {H : Type} : Lit × DataW H → Nat
  | (.string bytes, d) => bytes.length + uptoBulk d + 1
  | (_, d) => uptoBulk d + 1
 end
def uptoSmall : (H : Type) → List (DataW H) → Bool := fun _ ds => decide (uptoBulkAll ds ≤ 1048576)
def OpenSpec.upto (s : _root_.Go.ChangeSpec) : _root_.Go.OpenSpec := { _root_.Go.OpenSpec.ofChange s with cond := some uptoSmall }

/-- 'vademecumlaw12.SpineTells', WHERE WHAT IT READS IS OF BULK AT MOST 1048576: true; the input reads as it did. -/
def spineTellsUptoRow : OpenClaim := { program := "ytcfhhabjiofehaa", sum := "4533f2fd8a0a4f63e22aef2a5858112eece9f2a8de9b2b99f2e5ce0098a3e207", func := "vademecum/vademecumlaw12.SpineTells", spec := "spineTells", unfollowed := true, recurses := true, apart := false, narrowed := true }
def SpineTellsUptoSaid : Prop := spineTellsUptoRow.holds Try.pinned (OpenSpec.upto spineTellsSpec)

/-- 'vademecumlaw12.SpineBack', WHERE WHAT IT READS IS OF BULK AT MOST 1048576: true; the input reads as it did. -/
def spineBackUptoRow : OpenClaim := { program := "ytcfhhabjiofehaa", sum := "4533f2fd8a0a4f63e22aef2a5858112eece9f2a8de9b2b99f2e5ce0098a3e207", func := "vademecum/vademecumlaw12.SpineBack", spec := "spineBack", unfollowed := true, recurses := true, apart := false, narrowed := true }
def SpineBackUptoSaid : Prop := spineBackUptoRow.holds Try.pinned (OpenSpec.upto spineBackSpec)

/-- 'vademecumlaw12.SpineCounts', WHERE WHAT IT READS IS OF BULK AT MOST 1048576: true; the input reads as it did. -/
def spineCountsUptoRow : OpenClaim := { program := "ytcfhhabjiofehaa", sum := "4533f2fd8a0a4f63e22aef2a5858112eece9f2a8de9b2b99f2e5ce0098a3e207", func := "vademecum/vademecumlaw12.SpineCounts", spec := "spineCounts", unfollowed := true, recurses := true, apart := false, narrowed := true }
def SpineCountsUptoSaid : Prop := spineCountsUptoRow.holds Try.pinned (OpenSpec.upto spineCountsSpec)

end Rows
end Go.Proofs.Ytcfhhabjiofehaa
