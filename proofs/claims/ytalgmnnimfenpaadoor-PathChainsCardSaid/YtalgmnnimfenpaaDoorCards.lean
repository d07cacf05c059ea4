/-
  DERIVED. GIVEN WITH THE SEED: THE CARDS: each row of YtalgmnnimfenpaaDoorRows.lean that lists a variable, with what it lists TIED to the program's text (the seventh form; the later family's looks); each row that meets fmt, with fmt's text TOLD by the authors' own Lean function (tested against real Go, not proved from fmt's source: count such statements apart). THE CARD IS WHAT COUNTS. Prove the row's statement (the work); the ties are given (YtalgmnnimfenpaaDoorTie.lean); close each card by the builder's one call (the guide's Derived/Test/ToyasCard.lean, 'card_holds'). Laid BY PROGRAM, IN A SANDBOX (cutbox-door.mjs). By AI agents, Wed Nov 11 2026. No macro, syntax, notation, axiom, sorry.
-/
import Derived.Test.YtalgmnnimfenpaaDoorRows
import GoSem.ClaimSeven
namespace Go.Proofs.YtalgmnnimfenpaaDoor
namespace Rows

/-- THE TIED CARD OF 'ductuslaw07.PathTells'. -/
def pathTellsCard : Claim7 := { stood := { row := pathTellsRow, standIns := [], harness := (true, "7c7f295e52338a89473ee097273eb4e306bdfb7640de481584cc6434db3edf7b"), looks := false }, kinds := [], alts := [], laidByText := true, laidKinds := [.data], laidTests := true, laidLooks := .later }
def PathTellsCardSaid : Prop := Claim7.holds Tryd.pinned (.plain (OpenSpec.ofChange pathTellsSpec)) pathTellsCard

/-- THE TIED CARD OF 'ductuslaw07.PathJoins'. -/
def pathJoinsCard : Claim7 := { stood := { row := pathJoinsRow, standIns := [], harness := (true, "7c7f295e52338a89473ee097273eb4e306bdfb7640de481584cc6434db3edf7b"), looks := false }, kinds := [], alts := [], laidByText := true, laidKinds := [.data], laidTests := true, laidLooks := .later }
def PathJoinsCardSaid : Prop := Claim7.holds Tryd.pinned (.plain (OpenSpec.ofChange pathJoinsSpec)) pathJoinsCard

/-- THE TIED CARD OF 'ductuslaw07.PathBack'. -/
def pathBackCard : Claim7 := { stood := { row := pathBackRow, standIns := [], harness := (true, "7c7f295e52338a89473ee097273eb4e306bdfb7640de481584cc6434db3edf7b"), looks := false }, kinds := [], alts := [], laidByText := true, laidKinds := [.data], laidTests := true, laidLooks := .later }
def PathBackCardSaid : Prop := Claim7.holds Tryd.pinned (.plain (OpenSpec.ofChange pathBackSpec)) pathBackCard

/-- THE TIED CARD OF 'ductuslaw07.PathChains'. -/
def pathChainsCard : Claim7 := { stood := { row := pathChainsRow, standIns := [], harness := (true, "7c7f295e52338a89473ee097273eb4e306bdfb7640de481584cc6434db3edf7b"), looks := false }, kinds := [], alts := [], laidByText := true, laidKinds := [.data], laidTests := true, laidLooks := .later }
def PathChainsCardSaid : Prop := Claim7.holds Tryd.pinned (.plain (OpenSpec.ofChange pathChainsSpec)) pathChainsCard

/-- THE TIED CARD OF 'ductuslaw07.PathShifts'. -/
def pathShiftsCard : Claim7 := { stood := { row := pathShiftsRow, standIns := [], harness := (true, "7c7f295e52338a89473ee097273eb4e306bdfb7640de481584cc6434db3edf7b"), looks := false }, kinds := [], alts := [], laidByText := true, laidKinds := [.data], laidTests := true, laidLooks := .later }
def PathShiftsCardSaid : Prop := Claim7.holds Tryd.pinned (.plain (OpenSpec.ofChange pathShiftsSpec)) pathShiftsCard

/-- THE TIED CARD OF 'ductuslaw07.PathErrors'. -/
def pathErrorsCard : Claim7 := { stood := { row := pathErrorsRow, standIns := [], harness := (true, "7c7f295e52338a89473ee097273eb4e306bdfb7640de481584cc6434db3edf7b"), looks := false }, kinds := [], alts := [], laidByText := true, laidKinds := [.data], laidTests := true, laidLooks := .later }
def PathErrorsCardSaid : Prop := Claim7.holds Tryd.pinned (.plain (OpenSpec.ofChange pathErrorsSpec)) pathErrorsCard

/-- THE SECOND FORM's CARD OF 'ductuslaw07.PathTells'. -/
def pathTellsUptoCard : Claim7 := { stood := { row := pathTellsUptoRow, standIns := [], harness := (true, "7c7f295e52338a89473ee097273eb4e306bdfb7640de481584cc6434db3edf7b"), looks := false }, kinds := [], alts := [], laidByText := true, laidKinds := [.data], laidTests := true, laidLooks := .later }
def PathTellsUptoCardSaid : Prop := Claim7.holds Tryd.pinned (.plain (OpenSpec.upto pathTellsSpec)) pathTellsUptoCard

/-- THE SECOND FORM's CARD OF 'ductuslaw07.PathJoins'. -/
def pathJoinsUptoCard : Claim7 := { stood := { row := pathJoinsUptoRow, standIns := [], harness := (true, "7c7f295e52338a89473ee097273eb4e306bdfb7640de481584cc6434db3edf7b"), looks := false }, kinds := [], alts := [], laidByText := true, laidKinds := [.data], laidTests := true, laidLooks := .later }
def PathJoinsUptoCardSaid : Prop := Claim7.holds Tryd.pinned (.plain (OpenSpec.upto pathJoinsSpec)) pathJoinsUptoCard

/-- THE SECOND FORM's CARD OF 'ductuslaw07.PathBack'. -/
def pathBackUptoCard : Claim7 := { stood := { row := pathBackUptoRow, standIns := [], harness := (true, "7c7f295e52338a89473ee097273eb4e306bdfb7640de481584cc6434db3edf7b"), looks := false }, kinds := [], alts := [], laidByText := true, laidKinds := [.data], laidTests := true, laidLooks := .later }
def PathBackUptoCardSaid : Prop := Claim7.holds Tryd.pinned (.plain (OpenSpec.upto pathBackSpec)) pathBackUptoCard

/-- THE SECOND FORM's CARD OF 'ductuslaw07.PathChains'. -/
def pathChainsUptoCard : Claim7 := { stood := { row := pathChainsUptoRow, standIns := [], harness := (true, "7c7f295e52338a89473ee097273eb4e306bdfb7640de481584cc6434db3edf7b"), looks := false }, kinds := [], alts := [], laidByText := true, laidKinds := [.data], laidTests := true, laidLooks := .later }
def PathChainsUptoCardSaid : Prop := Claim7.holds Tryd.pinned (.plain (OpenSpec.upto pathChainsSpec)) pathChainsUptoCard

/-- THE SECOND FORM's CARD OF 'ductuslaw07.PathShifts'. -/
def pathShiftsUptoCard : Claim7 := { stood := { row := pathShiftsUptoRow, standIns := [], harness := (true, "7c7f295e52338a89473ee097273eb4e306bdfb7640de481584cc6434db3edf7b"), looks := false }, kinds := [], alts := [], laidByText := true, laidKinds := [.data], laidTests := true, laidLooks := .later }
def PathShiftsUptoCardSaid : Prop := Claim7.holds Tryd.pinned (.plain (OpenSpec.upto pathShiftsSpec)) pathShiftsUptoCard

/-- THE SECOND FORM's CARD OF 'ductuslaw07.PathErrors'. -/
def pathErrorsUptoCard : Claim7 := { stood := { row := pathErrorsUptoRow, standIns := [], harness := (true, "7c7f295e52338a89473ee097273eb4e306bdfb7640de481584cc6434db3edf7b"), looks := false }, kinds := [], alts := [], laidByText := true, laidKinds := [.data], laidTests := true, laidLooks := .later }
def PathErrorsUptoCardSaid : Prop := Claim7.holds Tryd.pinned (.plain (OpenSpec.upto pathErrorsSpec)) pathErrorsUptoCard
end Rows
end Go.Proofs.YtalgmnnimfenpaaDoor
