/-
  NARROWER THAN 'FOR EVERY INPUT', by the rows' own cells (each row's printed sentence says how): PathTells: laid · PathJoins: laid · PathBack: laid · PathChains: laid · PathShifts: laid · PathErrors: laid.
  DERIVED. THE GIVEN ROWS OF THIS SEAT. 6 by the template 'for every input the law returns true; each argument reads behind the call as it read before'; 0 by the template 'total and deterministic' (their statements: YtalgmnnimfenpaaDoorTotals.lean).
  GIVEN WITH THE SEED: the statements are not yours to turn. If you find one false, say at which input.
  Laid BY PROGRAM, IN A SANDBOX (cutbox-rows.mjs): the forced cells as the released guide's own fill.sh prints them over the translation 2693243eb98c7a2f… (all of the seat's roots in one cut). By AI agents, Wed Nov 11 2026. No macro, syntax, notation, axiom, sorry.
-/
import Derived.Test.YtalgmnnimfenpaaDoorChecked
import GoSem.Claim
import GoSem.ClaimJoined
import GoSem.ClaimMapViews
import Derived.JoinedTies
import Derived.KernelRfl
namespace Go.Proofs.YtalgmnnimfenpaaDoor
/- THE CELL 'sum', in the pinned program and in every row, IS THE sha256 OF THE DUMP (.gsa) THAT YtalgmnnimfenpaaDoorProg.lean LOADS. Nothing in Lean hashes anything: it is a label: what it is worth is what the hold of that sum in a sandbox is worth. -/
noncomputable def Tryd.pinned : Pinned := { name := "ytalgmnnimfenpaadoor", sum := "2693243eb98c7a2f4d715344de620eda6df3265d24e3ffcad17dfb3c73cfed6f", checked := Tryd.checked }
namespace Rows
def none {H : Type} : Left H := { results := [], args := [] }

/- WHAT THE LISTED PACKAGE-LEVEL VARIABLES READ AS WHEN THE CALL BEGINS. Each datum BY PROGRAM (the guide's laid-datum.mjs) off the statement by which the dump's own 'gosem.cut.vars' lays the variable. In a bare row this is a premise. The card (YtalgmnnimfenpaaDoorCards.lean) ties it to the program's text. -/
def laid_ductus_path_takes {H : Type} : DataW H := .agg [.lit (.int .i64 (-1)), .lit (.int .i64 1), .lit (.int .i64 1), .lit (.int .i64 2), .lit (.int .i64 3), .lit (.int .i64 0)]

/-- 'ductuslaw07.PathTells': WHATEVER THE INPUT: true; the input reads as it did. -/
def pathTellsSpec : ChangeSpec := { name := "pathTells", fn := fun _ => fun
  | [d1, d2] => { results := [.lit (.bool true)], args := [d1, d2] }
  | _ => none }
def pathTellsRow : OpenClaim := { program := "ytalgmnnimfenpaadoor", sum := "2693243eb98c7a2f4d715344de620eda6df3265d24e3ffcad17dfb3c73cfed6f", func := "ductus/ductuslaw07.PathTells", spec := "pathTells", unfollowed := true, recurses := true, named := ["ductus/path.takes"], apart := false, laid := [("ductus/path.takes", laid_ductus_path_takes)] }
def PathTellsSaid : Prop := pathTellsRow.holds Tryd.pinned (OpenSpec.ofChange pathTellsSpec)

/-- ITS FALSE NEIGHBOUR: 'it returns false'. Refute it at one input. -/
def pathTellsWrong : ChangeSpec := { name := "pathTells", fn := fun _ => fun
  | [d1, d2] => { results := [.lit (.bool false)], args := [d1, d2] }
  | _ => none }
def PathTellsWrongFalsely : Prop := pathTellsRow.holds Tryd.pinned (OpenSpec.ofChange pathTellsWrong)

/-- 'ductuslaw07.PathJoins': WHATEVER THE INPUT: true; the input reads as it did. -/
def pathJoinsSpec : ChangeSpec := { name := "pathJoins", fn := fun _ => fun
  | [d1, d2, d3] => { results := [.lit (.bool true)], args := [d1, d2, d3] }
  | _ => none }
def pathJoinsRow : OpenClaim := { program := "ytalgmnnimfenpaadoor", sum := "2693243eb98c7a2f4d715344de620eda6df3265d24e3ffcad17dfb3c73cfed6f", func := "ductus/ductuslaw07.PathJoins", spec := "pathJoins", unfollowed := true, recurses := true, named := ["ductus/path.takes"], apart := false, laid := [("ductus/path.takes", laid_ductus_path_takes)] }
def PathJoinsSaid : Prop := pathJoinsRow.holds Tryd.pinned (OpenSpec.ofChange pathJoinsSpec)

/-- ITS FALSE NEIGHBOUR: 'it returns false'. Refute it at one input. -/
def pathJoinsWrong : ChangeSpec := { name := "pathJoins", fn := fun _ => fun
  | [d1, d2, d3] => { results := [.lit (.bool false)], args := [d1, d2, d3] }
  | _ => none }
def PathJoinsWrongFalsely : Prop := pathJoinsRow.holds Tryd.pinned (OpenSpec.ofChange pathJoinsWrong)

/-- 'ductuslaw07.PathBack': WHATEVER THE INPUT: true; the input reads as it did. -/
def pathBackSpec : ChangeSpec := { name := "pathBack", fn := fun _ => fun
  | [d] => { results := [.lit (.bool true)], args := [d] }
  | _ => none }
def pathBackRow : OpenClaim := { program := "ytalgmnnimfenpaadoor", sum := "2693243eb98c7a2f4d715344de620eda6df3265d24e3ffcad17dfb3c73cfed6f", func := "ductus/ductuslaw07.PathBack", spec := "pathBack", unfollowed := true, recurses := true, named := ["ductus/path.takes"], apart := false, laid := [("ductus/path.takes", laid_ductus_path_takes)] }
def PathBackSaid : Prop := pathBackRow.holds Tryd.pinned (OpenSpec.ofChange pathBackSpec)

/-- ITS FALSE NEIGHBOUR: 'it returns false'. Refute it at one input. -/
def pathBackWrong : ChangeSpec := { name := "pathBack", fn := fun _ => fun
  | [d] => { results := [.lit (.bool false)], args := [d] }
  | _ => none }
def PathBackWrongFalsely : Prop := pathBackRow.holds Tryd.pinned (OpenSpec.ofChange pathBackWrong)

/-- 'ductuslaw07.PathChains': WHATEVER THE INPUT: true; the input reads as it did. -/
def pathChainsSpec : ChangeSpec := { name := "pathChains", fn := fun _ => fun
  | [d] => { results := [.lit (.bool true)], args := [d] }
  | _ => none }
def pathChainsRow : OpenClaim := { program := "ytalgmnnimfenpaadoor", sum := "2693243eb98c7a2f4d715344de620eda6df3265d24e3ffcad17dfb3c73cfed6f", func := "ductus/ductuslaw07.PathChains", spec := "pathChains", unfollowed := true, recurses := true, named := ["ductus/path.takes"], apart := false, laid := [("ductus/path.takes", laid_ductus_path_takes)] }
def PathChainsSaid : Prop := pathChainsRow.holds Tryd.pinned (OpenSpec.ofChange pathChainsSpec)

/-- ITS FALSE NEIGHBOUR: 'it returns false'. Refute it at one input. -/
def pathChainsWrong : ChangeSpec := { name := "pathChains", fn := fun _ => fun
  | [d] => { results := [.lit (.bool false)], args := [d] }
  | _ => none }
def PathChainsWrongFalsely : Prop := pathChainsRow.holds Tryd.pinned (OpenSpec.ofChange pathChainsWrong)

/-- 'ductuslaw07.PathShifts': WHATEVER THE INPUT: true; the input reads as it did. -/
def pathShiftsSpec : ChangeSpec := { name := "pathShifts", fn := fun _ => fun
  | [d1, d2] => { results := [.lit (.bool true)], args := [d1, d2] }
  | _ => none }
def pathShiftsRow : OpenClaim := { program := "ytalgmnnimfenpaadoor", sum := "2693243eb98c7a2f4d715344de620eda6df3265d24e3ffcad17dfb3c73cfed6f", func := "ductus/ductuslaw07.PathShifts", spec := "pathShifts", unfollowed := true, recurses := true, named := ["ductus/path.takes"], apart := false, laid := [("ductus/path.takes", laid_ductus_path_takes)] }
def PathShiftsSaid : Prop := pathShiftsRow.holds Tryd.pinned (OpenSpec.ofChange pathShiftsSpec)

/-- ITS FALSE NEIGHBOUR: 'it returns false'. Refute it at one input. -/
def pathShiftsWrong : ChangeSpec := { name := "pathShifts", fn := fun _ => fun
  | [d1, d2] => { results := [.lit (.bool false)], args := [d1, d2] }
  | _ => none }
def PathShiftsWrongFalsely : Prop := pathShiftsRow.holds Tryd.pinned (OpenSpec.ofChange pathShiftsWrong)

/-- 'ductuslaw07.PathErrors': WHATEVER THE INPUT: true; the input reads as it did. -/
def pathErrorsSpec : ChangeSpec := { name := "pathErrors", fn := fun _ => fun
  | [d1, d2] => { results := [.lit (.bool true)], args := [d1, d2] }
  | _ => none }
def pathErrorsRow : OpenClaim := { program := "ytalgmnnimfenpaadoor", sum := "2693243eb98c7a2f4d715344de620eda6df3265d24e3ffcad17dfb3c73cfed6f", func := "ductus/ductuslaw07.PathErrors", spec := "pathErrors", unfollowed := true, recurses := true, named := ["ductus/path.takes"], apart := false, laid := [("ductus/path.takes", laid_ductus_path_takes)] }
def PathErrorsSaid : Prop := pathErrorsRow.holds Tryd.pinned (OpenSpec.ofChange pathErrorsSpec)

/-- ITS FALSE NEIGHBOUR: 'it returns false'. Refute it at one input. -/
def pathErrorsWrong : ChangeSpec := { name := "pathErrors", fn := fun _ => fun
  | [d1, d2] => { results := [.lit (.bool false)], args := [d1, d2] }
  | _ => none }
def PathErrorsWrongFalsely : Prop := pathErrorsRow.holds Tryd.pinned (OpenSpec.ofChange pathErrorsWrong)

/- THE SECOND FORM. 'bulk': how many values and letters a reading holds, each counted each time it is reached (what is shared counts as often as it is met; a slice's spare places count too). A statement '..UptoSaid' is the law's where the arguments, and the package variables that the reading takes, are together of bulk at most 1048576: NARROWER than '..Said'. Prove '..Said' where nothing that the law and all that it calls make is longer than what came in: it says more and counts as full. Else prove '..UptoSaid'. A law counts once. -/
mutual
def uptoBulk {H : Type} : DataW H → Nat
  | .lit (.string bytes) => bytes.length + 1
  | .lit _ => 1
  | .nil => 1
  | .ptr d => uptoBulk d + 1
  | .slice elems spare => uptoBulkAll elems + uptoBulkAll spare + 1
  | .agg parts => uptoBulkAll parts + 1
  | .iface _ d => uptoBulk d + 1
  | .map entries => uptoBulkEntries entries + 1
  | .held _ => 1
def uptoBulkAll {H : Type} : List (DataW H) → Nat
  | [] => 0
  | d :: r => uptoBulk d + uptoBulkAll r
def uptoBulkEntries {H : Type} : List (Lit × DataW H) → Nat
  | [] => 0
  | x :: r => uptoBulkEntry x + uptoBulkEntries r
def uptoBulkEntry {H : Type} : Lit × DataW H → Nat
  | (.string bytes, d) => bytes.length + uptoBulk d + 1
  | (_, d) => uptoBulk d + 1
 end
def uptoSmall : (H : Type) → List (DataW H) → Bool := fun _ ds => decide (uptoBulkAll ds ≤ 1048576)
def OpenSpec.upto (s : _root_.Go.ChangeSpec) : _root_.Go.OpenSpec := { _root_.Go.OpenSpec.ofChange s with cond := some uptoSmall }

/-- 'ductuslaw07.PathTells', WHERE WHAT IT READS IS OF BULK AT MOST 1048576: true; the input reads as it did. -/
def pathTellsUptoRow : OpenClaim := { program := "ytalgmnnimfenpaadoor", sum := "2693243eb98c7a2f4d715344de620eda6df3265d24e3ffcad17dfb3c73cfed6f", func := "ductus/ductuslaw07.PathTells", spec := "pathTells", unfollowed := true, recurses := true, named := ["ductus/path.takes"], apart := false, laid := [("ductus/path.takes", laid_ductus_path_takes)], narrowed := true }
def PathTellsUptoSaid : Prop := pathTellsUptoRow.holds Tryd.pinned (OpenSpec.upto pathTellsSpec)

/-- 'ductuslaw07.PathJoins', WHERE WHAT IT READS IS OF BULK AT MOST 1048576: true; the input reads as it did. -/
def pathJoinsUptoRow : OpenClaim := { program := "ytalgmnnimfenpaadoor", sum := "2693243eb98c7a2f4d715344de620eda6df3265d24e3ffcad17dfb3c73cfed6f", func := "ductus/ductuslaw07.PathJoins", spec := "pathJoins", unfollowed := true, recurses := true, named := ["ductus/path.takes"], apart := false, laid := [("ductus/path.takes", laid_ductus_path_takes)], narrowed := true }
def PathJoinsUptoSaid : Prop := pathJoinsUptoRow.holds Tryd.pinned (OpenSpec.upto pathJoinsSpec)

/-- 'ductuslaw07.PathBack', WHERE WHAT IT READS IS OF BULK AT MOST 1048576: true; the input reads as it did. -/
def pathBackUptoRow : OpenClaim := { program := "ytalgmnnimfenpaadoor", sum := "2693243eb98c7a2f4d715344de620eda6df3265d24e3ffcad17dfb3c73cfed6f", func := "ductus/ductuslaw07.PathBack", spec := "pathBack", unfollowed := true, recurses := true, named := ["ductus/path.takes"], apart := false, laid := [("ductus/path.takes", laid_ductus_path_takes)], narrowed := true }
def PathBackUptoSaid : Prop := pathBackUptoRow.holds Tryd.pinned (OpenSpec.upto pathBackSpec)

/-- 'ductuslaw07.PathChains', WHERE WHAT IT READS IS OF BULK AT MOST 1048576: true; the input reads as it did. -/
def pathChainsUptoRow : OpenClaim := { program := "ytalgmnnimfenpaadoor", sum := "2693243eb98c7a2f4d715344de620eda6df3265d24e3ffcad17dfb3c73cfed6f", func := "ductus/ductuslaw07.PathChains", spec := "pathChains", unfollowed := true, recurses := true, named := ["ductus/path.takes"], apart := false, laid := [("ductus/path.takes", laid_ductus_path_takes)], narrowed := true }
def PathChainsUptoSaid : Prop := pathChainsUptoRow.holds Tryd.pinned (OpenSpec.upto pathChainsSpec)

/-- 'ductuslaw07.PathShifts', WHERE WHAT IT READS IS OF BULK AT MOST 1048576: true; the input reads as it did. -/
def pathShiftsUptoRow : OpenClaim := { program := "ytalgmnnimfenpaadoor", sum := "2693243eb98c7a2f4d715344de620eda6df3265d24e3ffcad17dfb3c73cfed6f", func := "ductus/ductuslaw07.PathShifts", spec := "pathShifts", unfollowed := true, recurses := true, named := ["ductus/path.takes"], apart := false, laid := [("ductus/path.takes", laid_ductus_path_takes)], narrowed := true }
def PathShiftsUptoSaid : Prop := pathShiftsUptoRow.holds Tryd.pinned (OpenSpec.upto pathShiftsSpec)

/-- 'ductuslaw07.PathErrors', WHERE WHAT IT READS IS OF BULK AT MOST 1048576: true; the input reads as it did. -/
def pathErrorsUptoRow : OpenClaim := { program := "ytalgmnnimfenpaadoor", sum := "2693243eb98c7a2f4d715344de620eda6df3265d24e3ffcad17dfb3c73cfed6f", func := "ductus/ductuslaw07.PathErrors", spec := "pathErrors", unfollowed := true, recurses := true, named := ["ductus/path.takes"], apart := false, laid := [("ductus/path.takes", laid_ductus_path_takes)], narrowed := true }
def PathErrorsUptoSaid : Prop := pathErrorsUptoRow.holds Tryd.pinned (OpenSpec.upto pathErrorsSpec)

end Rows
end Go.Proofs.YtalgmnnimfenpaaDoor
