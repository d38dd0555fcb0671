/-
  NARROWER THAN 'FOR EVERY INPUT', by the rows' own cells (each row's printed sentence says how): Escapes: laid · Undone: laid.
  DERIVED. THE GIVEN ROWS OF THIS SEAT. 2 by the template 'for every input the law returns true; each argument reads behind the call as it read before'; 0 by the template 'total and deterministic' (their statements: YtalfkihppimedaaDoorTotals.lean).
  GIVEN WITH THE SEED: the statements are not yours to turn. If you find one false, say at which input.
  Laid BY PROGRAM, IN A SANDBOX (cutbox-rows.mjs): the forced cells as the released guide's own fill.sh prints them over the translation 5606050cf45d0b9b… (all of the seat's roots in one cut). By AI agents, Wed Nov 11 2026. No macro, syntax, notation, axiom, sorry.
-/
import Derived.Test.YtalfkihppimedaaDoorChecked
import GoSem.Claim
import GoSem.ClaimJoined
import GoSem.ClaimMapViews
import Derived.JoinedTies
import Derived.KernelRfl
namespace Go.Proofs.YtalfkihppimedaaDoor
/- THE CELL 'sum', in the pinned program and in every row, IS THE sha256 OF THE DUMP (.gsa) THAT YtalfkihppimedaaDoorProg.lean LOADS. Nothing in Lean hashes anything: it is a label: what it is worth is what the hold of that sum in a sandbox is worth. -/
noncomputable def Tryd.pinned : Pinned := { name := "ytalfkihppimedaadoor", sum := "5606050cf45d0b9b85ce57190164d7c8f4b8589654aea1660272804b2736740b", checked := Tryd.checked }
namespace Rows
def none {H : Type} : Left H := { results := [], args := [] }

/- WHAT THE LISTED PACKAGE-LEVEL VARIABLES READ AS WHEN THE CALL BEGINS. Each datum BY PROGRAM (the guide's laid-datum.mjs) off the statement by which the dump's own 'gosem.cut.vars' lays the variable. In a bare row this is a premise. The card (YtalfkihppimedaaDoorCards.lean) ties it to the program's text. -/
def laid_stencil_escape_openSchemes {H : Type} : DataW H := .agg [.lit (.string [104, 116, 116, 112]), .lit (.string [104, 116, 116, 112, 115]), .lit (.string [109, 97, 105, 108, 116, 111])]
def laid_stencil_escape_swaps {H : Type} : DataW H := .agg [.agg [.lit (.int .i64 1), .lit (.string [38]), .lit (.string [38, 97, 109, 112, 59])], .agg [.lit (.int .i64 1), .lit (.string [60]), .lit (.string [38, 108, 116, 59])], .agg [.lit (.int .i64 1), .lit (.string [62]), .lit (.string [38, 103, 116, 59])], .agg [.lit (.int .i64 1), .lit (.string [34]), .lit (.string [38, 113, 117, 111, 116, 59])], .agg [.lit (.int .i64 1), .lit (.string [39]), .lit (.string [38, 35, 51, 57, 59])], .agg [.lit (.int .i64 4), .lit (.string [226, 128, 168]), .lit (.string [92, 117, 50, 48, 50, 56])], .agg [.lit (.int .i64 4), .lit (.string [226, 128, 169]), .lit (.string [92, 117, 50, 48, 50, 57])]]
def laid_stencil_escape_escapers {H : Type} : DataW H := .agg [.agg [.lit (.bool false), .lit (.string []), .lit (.string []), .lit (.string []), .lit (.string []), .lit (.bool false), .lit (.string [])], .agg [.lit (.bool false), .lit (.string []), .lit (.string []), .lit (.string []), .lit (.string []), .lit (.bool false), .lit (.string [])], .agg [.lit (.bool false), .lit (.string []), .lit (.string []), .lit (.string []), .lit (.string []), .lit (.bool false), .lit (.string [])], .agg [.lit (.bool false), .lit (.string []), .lit (.string [45, 46, 95, 126, 47, 63, 35, 91, 93, 64, 33, 36, 40, 41, 42, 43, 44, 59, 61]), .lit (.string [37]), .lit (.string [48, 49, 50, 51, 52, 53, 54, 55, 56, 57, 65, 66, 67, 68, 69, 70]), .lit (.bool false), .lit (.string [])], .agg [.lit (.bool true), .lit (.string [34, 39, 38, 47, 60, 62, 92, 96]), .lit (.string []), .lit (.string [92, 120]), .lit (.string [48, 49, 50, 51, 52, 53, 54, 55, 56, 57, 97, 98, 99, 100, 101, 102]), .lit (.bool false), .lit (.string [])], .agg [.lit (.bool true), .lit (.string [34, 39, 38, 47, 60, 62, 92]), .lit (.string []), .lit (.string [92]), .lit (.string [48, 49, 50, 51, 52, 53, 54, 55, 56, 57, 97, 98, 99, 100, 101, 102]), .lit (.bool true), .lit (.string [32])]]

/-- 'stencillaw.Escapes': WHATEVER THE INPUT: true; the input reads as it did. -/
def escapesSpec : ChangeSpec := { name := "escapes", fn := fun _ => fun
  | [d1, d2] => { results := [.lit (.bool true)], args := [d1, d2] }
  | _ => none }
def escapesRow : OpenClaim := { program := "ytalfkihppimedaadoor", sum := "5606050cf45d0b9b85ce57190164d7c8f4b8589654aea1660272804b2736740b", func := "stencil/stencillaw.Escapes", spec := "escapes", inPlace := ["internal/abi.NoEscape", "internal/bytealg.MakeNoZero", "internal/bytealg.IndexByteString"], named := ["stencil/escape.swaps", "stencil/escape.escapers", "stencil/escape.openSchemes"], apart := false, laid := [("stencil/escape.openSchemes", laid_stencil_escape_openSchemes), ("stencil/escape.swaps", laid_stencil_escape_swaps), ("stencil/escape.escapers", laid_stencil_escape_escapers)] }
def EscapesSaid : Prop := escapesRow.holds Tryd.pinned (OpenSpec.ofChange escapesSpec)

/-- ITS FALSE NEIGHBOUR: 'it returns false'. Refute it at one input. -/
def escapesWrong : ChangeSpec := { name := "escapes", fn := fun _ => fun
  | [d1, d2] => { results := [.lit (.bool false)], args := [d1, d2] }
  | _ => none }
def EscapesWrongFalsely : Prop := escapesRow.holds Tryd.pinned (OpenSpec.ofChange escapesWrong)

/-- 'stencilkeep.Undone': WHATEVER THE INPUT: true; the input reads as it did. -/
def undoneSpec : ChangeSpec := { name := "undone", fn := fun _ => fun
  | [d1, d2] => { results := [.lit (.bool true)], args := [d1, d2] }
  | _ => none }
def undoneRow : OpenClaim := { program := "ytalfkihppimedaadoor", sum := "5606050cf45d0b9b85ce57190164d7c8f4b8589654aea1660272804b2736740b", func := "stencil/stencilkeep.Undone", spec := "undone", inPlace := ["internal/abi.NoEscape", "internal/bytealg.MakeNoZero", "internal/bytealg.IndexByteString"], named := ["stencil/escape.swaps", "stencil/escape.escapers", "stencil/escape.openSchemes"], apart := false, laid := [("stencil/escape.openSchemes", laid_stencil_escape_openSchemes), ("stencil/escape.swaps", laid_stencil_escape_swaps), ("stencil/escape.escapers", laid_stencil_escape_escapers)] }
def UndoneSaid : Prop := undoneRow.holds Tryd.pinned (OpenSpec.ofChange undoneSpec)

/-- ITS FALSE NEIGHBOUR: 'it returns false'. Refute it at one input. -/
def undoneWrong : ChangeSpec := { name := "undone", fn := fun _ => fun
  | [d1, d2] => { results := [.lit (.bool false)], args := [d1, d2] }
  | _ => none }
def UndoneWrongFalsely : Prop := undoneRow.holds Tryd.pinned (OpenSpec.ofChange undoneWrong)

/- THE SECOND FORM. 'bulk': how many values and letters a reading holds, each counted each time it is reached (what is shared counts as often as it is met; a slice's spare places count too). A statement '..UptoSaid' is the law's where the arguments, and the package variables that the reading takes, are together of bulk at most 1048576: NARROWER than '..Said'. Prove '..Said' where nothing that the law and all that it calls make is longer than what came in: it says more and counts as full. Else prove '..UptoSaid'. A law counts once. -/
mutual
def uptoBulk {H : Type} : DataW H → Nat
  | .lit (.string bytes) => bytes.length + 1
  | .lit _ => 1
  | .nil => 1
  | .ptr d => uptoBulk d + 1
  | .slice elems spare => uptoBulkAll elems + uptoBulkAll spare + 1
  | .agg parts => uptoBulkAll parts + 1
  | .iface _ d => uptoBulk d + 1
  | .map entries => uptoBulkEntries entries + 1
  | .held _ => 1
def uptoBulkAll {H : Type} : List (DataW H) → Nat
  | [] => 0
  | d :: r => uptoBulk d + uptoBulkAll r
def uptoBulkEntries {H : Type} : List (Lit × DataW H) → Nat
  | [] => 0
  | x :: r => uptoBulkEntry x + uptoBulkEntries r
def uptoBulkEntry {H : Type} : Lit × DataW H → Nat
  | (.string bytes, d) => bytes.length + uptoBulk d + 1
  | (_, d) => uptoBulk d + 1
 end
def uptoSmall : (H : Type) → List (DataW H) → Bool := fun _ ds => decide (uptoBulkAll ds ≤ 1048576)
def OpenSpec.upto (s : _root_.Go.ChangeSpec) : _root_.Go.OpenSpec := { _root_.Go.OpenSpec.ofChange s with cond := some uptoSmall }

/-- 'stencillaw.Escapes', WHERE WHAT IT READS IS OF BULK AT MOST 1048576: true; the input reads as it did. -/
def escapesUptoRow : OpenClaim := { program := "ytalfkihppimedaadoor", sum := "5606050cf45d0b9b85ce57190164d7c8f4b8589654aea1660272804b2736740b", func := "stencil/stencillaw.Escapes", spec := "escapes", inPlace := ["internal/abi.NoEscape", "internal/bytealg.MakeNoZero", "internal/bytealg.IndexByteString"], named := ["stencil/escape.swaps", "stencil/escape.escapers", "stencil/escape.openSchemes"], apart := false, laid := [("stencil/escape.openSchemes", laid_stencil_escape_openSchemes), ("stencil/escape.swaps", laid_stencil_escape_swaps), ("stencil/escape.escapers", laid_stencil_escape_escapers)], narrowed := true }
def EscapesUptoSaid : Prop := escapesUptoRow.holds Tryd.pinned (OpenSpec.upto escapesSpec)

/-- 'stencilkeep.Undone', WHERE WHAT IT READS IS OF BULK AT MOST 1048576: true; the input reads as it did. -/
def undoneUptoRow : OpenClaim := { program := "ytalfkihppimedaadoor", sum := "5606050cf45d0b9b85ce57190164d7c8f4b8589654aea1660272804b2736740b", func := "stencil/stencilkeep.Undone", spec := "undone", inPlace := ["internal/abi.NoEscape", "internal/bytealg.MakeNoZero", "internal/bytealg.IndexByteString"], named := ["stencil/escape.swaps", "stencil/escape.escapers", "stencil/escape.openSchemes"], apart := false, laid := [("stencil/escape.openSchemes", laid_stencil_escape_openSchemes), ("stencil/escape.swaps", laid_stencil_escape_swaps), ("stencil/escape.escapers", laid_stencil_escape_escapers)], narrowed := true }
def UndoneUptoSaid : Prop := undoneUptoRow.holds Tryd.pinned (OpenSpec.upto undoneSpec)

end Rows
end Go.Proofs.YtalfkihppimedaaDoor
