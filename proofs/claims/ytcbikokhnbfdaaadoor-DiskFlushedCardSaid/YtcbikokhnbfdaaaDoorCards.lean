/-
  DERIVED. GIVEN WITH THE SEED: THE CARDS: each row of YtcbikokhnbfdaaaDoorRows.lean that lists a variable, with what it lists TIED to the program's text (the seventh form; the later family's looks); each row that meets fmt, with fmt's text TOLD by the authors' own Lean function (tested against real Go, not proved from fmt's source: count such statements apart). THE CARD IS WHAT COUNTS. Prove the row's statement (the work); the ties are given (YtcbikokhnbfdaaaDoorTie.lean); close each card by the builder's one call (the guide's Derived/Test/ToyasCard.lean, 'card_holds'). Laid BY PROGRAM, IN A SANDBOX (cutbox-door.mjs). By AI agents, Wed Nov 11 2026. No macro, syntax, notation, axiom, sorry.
-/
import Derived.Test.YtcbikokhnbfdaaaDoorRows
import GoSem.ClaimSeven
namespace Go.Proofs.YtcbikokhnbfdaaaDoor
namespace Rows

/-- THE TIED CARD OF 'vademecumlaw1.DiskPlays'. -/
def diskPlaysCard : Claim7 := { stood := { row := diskPlaysRow, standIns := [], harness := (true, "a722eb9e4138e330835c54090d14804cac2f3d954d81c94d387ff8da4c79ff54"), looks := true }, kinds := [], alts := [], laidByText := true, laidKinds := [.data, .data, .data, .handle], laidTests := true, laidLooks := .later }
def DiskPlaysCardSaid : Prop := Claim7.holds Tryd.pinned (.plain (OpenSpec.ofChange diskPlaysSpec)) diskPlaysCard

/-- THE TIED CARD OF 'vademecumlaw1.DiskFlushed'. -/
def diskFlushedCard : Claim7 := { stood := { row := diskFlushedRow, standIns := [], harness := (true, "a722eb9e4138e330835c54090d14804cac2f3d954d81c94d387ff8da4c79ff54"), looks := true }, kinds := [], alts := [], laidByText := true, laidKinds := [.data, .data, .data], laidTests := true, laidLooks := .later }
def DiskFlushedCardSaid : Prop := Claim7.holds Tryd.pinned (.plain (OpenSpec.ofChange diskFlushedSpec)) diskFlushedCard

/-- THE TIED CARD OF 'vademecumlaw1.DiskCuts'. -/
def diskCutsCard : Claim7 := { stood := { row := diskCutsRow, standIns := [], harness := (true, "a722eb9e4138e330835c54090d14804cac2f3d954d81c94d387ff8da4c79ff54"), looks := true }, kinds := [], alts := [], laidByText := true, laidKinds := [.data, .data, .data], laidTests := true, laidLooks := .later }
def DiskCutsCardSaid : Prop := Claim7.holds Tryd.pinned (.plain (OpenSpec.ofChange diskCutsSpec)) diskCutsCard

/-- THE TIED CARD OF 'vademecumlaw1.DiskLimits'. -/
def diskLimitsCard : Claim7 := { stood := { row := diskLimitsRow, standIns := [], harness := (true, "a722eb9e4138e330835c54090d14804cac2f3d954d81c94d387ff8da4c79ff54"), looks := true }, kinds := [], alts := [], laidByText := true, laidKinds := [.data, .data, .data], laidTests := true, laidLooks := .later }
def DiskLimitsCardSaid : Prop := Claim7.holds Tryd.pinned (.plain (OpenSpec.ofChange diskLimitsSpec)) diskLimitsCard

/-- THE SECOND FORM's CARD OF 'vademecumlaw1.DiskPlays'. -/
def diskPlaysUptoCard : Claim7 := { stood := { row := diskPlaysUptoRow, standIns := [], harness := (true, "a722eb9e4138e330835c54090d14804cac2f3d954d81c94d387ff8da4c79ff54"), looks := true }, kinds := [], alts := [], laidByText := true, laidKinds := [.data, .data, .data, .handle], laidTests := true, laidLooks := .later }
def DiskPlaysUptoCardSaid : Prop := Claim7.holds Tryd.pinned (.plain (OpenSpec.upto diskPlaysSpec)) diskPlaysUptoCard

/-- THE SECOND FORM's CARD OF 'vademecumlaw1.DiskFlushed'. -/
def diskFlushedUptoCard : Claim7 := { stood := { row := diskFlushedUptoRow, standIns := [], harness := (true, "a722eb9e4138e330835c54090d14804cac2f3d954d81c94d387ff8da4c79ff54"), looks := true }, kinds := [], alts := [], laidByText := true, laidKinds := [.data, .data, .data], laidTests := true, laidLooks := .later }
def DiskFlushedUptoCardSaid : Prop := Claim7.holds Tryd.pinned (.plain (OpenSpec.upto diskFlushedSpec)) diskFlushedUptoCard

/-- THE SECOND FORM's CARD OF 'vademecumlaw1.DiskCuts'. -/
def diskCutsUptoCard : Claim7 := { stood := { row := diskCutsUptoRow, standIns := [], harness := (true, "a722eb9e4138e330835c54090d14804cac2f3d954d81c94d387ff8da4c79ff54"), looks := true }, kinds := [], alts := [], laidByText := true, laidKinds := [.data, .data, .data], laidTests := true, laidLooks := .later }
def DiskCutsUptoCardSaid : Prop := Claim7.holds Tryd.pinned (.plain (OpenSpec.upto diskCutsSpec)) diskCutsUptoCard

/-- THE SECOND FORM's CARD OF 'vademecumlaw1.DiskLimits'. -/
def diskLimitsUptoCard : Claim7 := { stood := { row := diskLimitsUptoRow, standIns := [], harness := (true, "a722eb9e4138e330835c54090d14804cac2f3d954d81c94d387ff8da4c79ff54"), looks := true }, kinds := [], alts := [], laidByText := true, laidKinds := [.data, .data, .data], laidTests := true, laidLooks := .later }
def DiskLimitsUptoCardSaid : Prop := Claim7.holds Tryd.pinned (.plain (OpenSpec.upto diskLimitsSpec)) diskLimitsUptoCard
end Rows
end Go.Proofs.YtcbikokhnbfdaaaDoor
