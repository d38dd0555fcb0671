/-
  NARROWER THAN 'FOR EVERY INPUT', by the rows' own cells (each row's printed sentence says how): Escapes: laid · Undone: laid · Pages: laid · Joined: laid.
  DERIVED. THE GIVEN ROWS OF THIS SEAT. 4 by the template 'for every input the law returns true; each argument reads behind the call as it read before'; 0 by the template 'total and deterministic' (their statements: YtfkhljmiehdgmaaDoorTotals.lean).
  GIVEN WITH THE SEED: the statements are not yours to turn. If you find one false, say at which input.
  Laid BY PROGRAM, IN A SANDBOX (cutbox-rows.mjs): the forced cells as the released guide's own fill.sh prints them over the translation 6c49193f629bb9ce… (all of the seat's roots in one cut). By AI agents, Wed Nov 11 2026. No macro, syntax, notation, axiom, sorry.
-/
import Derived.Test.YtfkhljmiehdgmaaDoorChecked
import GoSem.Claim
import GoSem.ClaimJoined
import GoSem.ClaimMapViews
import Derived.JoinedTies
import Derived.KernelRfl
namespace Go.Proofs.YtfkhljmiehdgmaaDoor
/- THE CELL 'sum', in the pinned program and in every row, IS THE sha256 OF THE DUMP (.gsa) THAT YtfkhljmiehdgmaaDoorProg.lean LOADS. Nothing in Lean hashes anything: it is a label: what it is worth is what the hold of that sum in a sandbox is worth. -/
noncomputable def Tryd.pinned : Pinned := { name := "ytfkhljmiehdgmaadoor", sum := "6c49193f629bb9ced073f523097b0fa9b7dd564420a96d0fdcfed7f62a52208e", checked := Tryd.checked }
namespace Rows
def none {H : Type} : Left H := { results := [], args := [] }

/- WHAT THE LISTED PACKAGE-LEVEL VARIABLES READ AS WHEN THE CALL BEGINS. Each datum BY PROGRAM (the guide's laid-datum.mjs) off the statement by which the dump's own 'gosem.cut.vars' lays the variable. In a bare row this is a premise. The card (YtfkhljmiehdgmaaDoorCards.lean) ties it to the program's text. -/
def laid_stencil_escape_openSchemes {H : Type} : DataW H := .agg [.lit (.string [104, 116, 116, 112]), .lit (.string [104, 116, 116, 112, 115]), .lit (.string [109, 97, 105, 108, 116, 111])]
def laid_stencil_escape_swaps {H : Type} : DataW H := .agg [.agg [.lit (.int .i64 1), .lit (.string [38]), .lit (.string [38, 97, 109, 112, 59])], .agg [.lit (.int .i64 1), .lit (.string [60]), .lit (.string [38, 108, 116, 59])], .agg [.lit (.int .i64 1), .lit (.string [62]), .lit (.string [38, 103, 116, 59])], .agg [.lit (.int .i64 1), .lit (.string [34]), .lit (.string [38, 113, 117, 111, 116, 59])], .agg [.lit (.int .i64 1), .lit (.string [39]), .lit (.string [38, 35, 51, 57, 59])], .agg [.lit (.int .i64 4), .lit (.string [226, 128, 168]), .lit (.string [92, 117, 50, 48, 50, 56])], .agg [.lit (.int .i64 4), .lit (.string [226, 128, 169]), .lit (.string [92, 117, 50, 48, 50, 57])]]
def laid_stencil_escape_escapers {H : Type} : DataW H := .agg [.agg [.lit (.bool false), .lit (.string []), .lit (.string []), .lit (.string []), .lit (.string []), .lit (.bool false), .lit (.string [])], .agg [.lit (.bool false), .lit (.string []), .lit (.string []), .lit (.string []), .lit (.string []), .lit (.bool false), .lit (.string [])], .agg [.lit (.bool false), .lit (.string []), .lit (.string []), .lit (.string []), .lit (.string []), .lit (.bool false), .lit (.string [])], .agg [.lit (.bool false), .lit (.string []), .lit (.string [45, 46, 95, 126, 47, 63, 35, 91, 93, 64, 33, 36, 40, 41, 42, 43, 44, 59, 61]), .lit (.string [37]), .lit (.string [48, 49, 50, 51, 52, 53, 54, 55, 56, 57, 65, 66, 67, 68, 69, 70]), .lit (.bool false), .lit (.string [])], .agg [.lit (.bool true), .lit (.string [34, 39, 38, 47, 60, 62, 92, 96]), .lit (.string []), .lit (.string [92, 120]), .lit (.string [48, 49, 50, 51, 52, 53, 54, 55, 56, 57, 97, 98, 99, 100, 101, 102]), .lit (.bool false), .lit (.string [])], .agg [.lit (.bool true), .lit (.string [34, 39, 38, 47, 60, 62, 92]), .lit (.string []), .lit (.string [92]), .lit (.string [48, 49, 50, 51, 52, 53, 54, 55, 56, 57, 97, 98, 99, 100, 101, 102]), .lit (.bool true), .lit (.string [32])]]
def laid_stencil_markup_markupSteps {H : Type} : DataW H := .agg [.agg [.lit (.int .u8 1), .lit (.string [60]), .lit (.int .u8 2)], .agg [.lit (.int .u8 2), .lit (.string [97]), .lit (.int .u8 3)], .agg [.lit (.int .u8 2), .lit (.string [47]), .lit (.int .u8 11)], .agg [.lit (.int .u8 2), .lit (.string [33]), .lit (.int .u8 13)], .agg [.lit (.int .u8 3), .lit (.string [9, 10, 12, 13, 32, 47]), .lit (.int .u8 4)], .agg [.lit (.int .u8 3), .lit (.string [62]), .lit (.int .u8 34)], .agg [.lit (.int .u8 4), .lit (.string [9, 10, 12, 13, 32, 47]), .lit (.int .u8 4)], .agg [.lit (.int .u8 4), .lit (.string [62]), .lit (.int .u8 34)], .agg [.lit (.int .u8 5), .lit (.string [9, 10, 12, 13, 32]), .lit (.int .u8 6)], .agg [.lit (.int .u8 5), .lit (.string [61]), .lit (.int .u8 7)], .agg [.lit (.int .u8 5), .lit (.string [47]), .lit (.int .u8 4)], .agg [.lit (.int .u8 5), .lit (.string [62]), .lit (.int .u8 34)], .agg [.lit (.int .u8 6), .lit (.string [9, 10, 12, 13, 32]), .lit (.int .u8 6)], .agg [.lit (.int .u8 6), .lit (.string [61]), .lit (.int .u8 7)], .agg [.lit (.int .u8 6), .lit (.string [47]), .lit (.int .u8 4)], .agg [.lit (.int .u8 6), .lit (.string [62]), .lit (.int .u8 34)], .agg [.lit (.int .u8 7), .lit (.string [9, 10, 12, 13, 32]), .lit (.int .u8 7)], .agg [.lit (.int .u8 7), .lit (.string [34]), .lit (.int .u8 8)], .agg [.lit (.int .u8 7), .lit (.string [39]), .lit (.int .u8 9)], .agg [.lit (.int .u8 7), .lit (.string [62]), .lit (.int .u8 34)], .agg [.lit (.int .u8 8), .lit (.string [34]), .lit (.int .u8 4)], .agg [.lit (.int .u8 9), .lit (.string [39]), .lit (.int .u8 4)], .agg [.lit (.int .u8 10), .lit (.string [9, 10, 12, 13, 32]), .lit (.int .u8 4)], .agg [.lit (.int .u8 10), .lit (.string [62]), .lit (.int .u8 34)], .agg [.lit (.int .u8 11), .lit (.string [97]), .lit (.int .u8 12)], .agg [.lit (.int .u8 11), .lit (.string [62]), .lit (.int .u8 1)], .agg [.lit (.int .u8 12), .lit (.string [62]), .lit (.int .u8 1)], .agg [.lit (.int .u8 13), .lit (.string [45]), .lit (.int .u8 14)], .agg [.lit (.int .u8 13), .lit (.string [62]), .lit (.int .u8 1)], .agg [.lit (.int .u8 14), .lit (.string [45]), .lit (.int .u8 15)], .agg [.lit (.int .u8 14), .lit (.string [62]), .lit (.int .u8 1)], .agg [.lit (.int .u8 15), .lit (.string [45]), .lit (.int .u8 16)], .agg [.lit (.int .u8 16), .lit (.string [45]), .lit (.int .u8 17)], .agg [.lit (.int .u8 17), .lit (.string [62]), .lit (.int .u8 1)], .agg [.lit (.int .u8 17), .lit (.string [45]), .lit (.int .u8 17)], .agg [.lit (.int .u8 18), .lit (.string [62]), .lit (.int .u8 1)]]
def laid_stencil_markup_contentSteps {H : Type} : DataW H := .agg [.agg [.lit (.int .u8 20), .lit (.string [34]), .lit (.int .u8 21)], .agg [.lit (.int .u8 20), .lit (.string [39]), .lit (.int .u8 22)], .agg [.lit (.int .u8 20), .lit (.string [96]), .lit (.int .u8 23)], .agg [.lit (.int .u8 20), .lit (.string [47]), .lit (.int .u8 24)], .agg [.lit (.int .u8 21), .lit (.string [34, 10]), .lit (.int .u8 20)], .agg [.lit (.int .u8 22), .lit (.string [39, 10]), .lit (.int .u8 20)], .agg [.lit (.int .u8 23), .lit (.string [96]), .lit (.int .u8 20)], .agg [.lit (.int .u8 24), .lit (.string [47]), .lit (.int .u8 25)], .agg [.lit (.int .u8 24), .lit (.string [42]), .lit (.int .u8 26)], .agg [.lit (.int .u8 25), .lit (.string [10]), .lit (.int .u8 20)], .agg [.lit (.int .u8 26), .lit (.string [42]), .lit (.int .u8 27)], .agg [.lit (.int .u8 27), .lit (.string [47]), .lit (.int .u8 20)], .agg [.lit (.int .u8 27), .lit (.string [42]), .lit (.int .u8 27)], .agg [.lit (.int .u8 28), .lit (.string [34]), .lit (.int .u8 29)], .agg [.lit (.int .u8 28), .lit (.string [39]), .lit (.int .u8 30)], .agg [.lit (.int .u8 28), .lit (.string [47]), .lit (.int .u8 31)], .agg [.lit (.int .u8 29), .lit (.string [34, 10]), .lit (.int .u8 28)], .agg [.lit (.int .u8 30), .lit (.string [39, 10]), .lit (.int .u8 28)], .agg [.lit (.int .u8 31), .lit (.string [42]), .lit (.int .u8 32)], .agg [.lit (.int .u8 32), .lit (.string [42]), .lit (.int .u8 33)], .agg [.lit (.int .u8 33), .lit (.string [47]), .lit (.int .u8 28)], .agg [.lit (.int .u8 33), .lit (.string [42]), .lit (.int .u8 33)]]
def laid_stencil_markup_readIn {H : Type} : DataW H := .agg [.lit (.int .u8 0), .lit (.int .u8 0), .lit (.int .u8 1), .lit (.int .u8 0), .lit (.int .u8 0), .lit (.int .u8 0), .lit (.int .u8 0), .lit (.int .u8 0), .lit (.int .u8 0), .lit (.int .u8 0), .lit (.int .u8 0), .lit (.int .u8 0), .lit (.int .u8 0), .lit (.int .u8 0), .lit (.int .u8 0), .lit (.int .u8 0), .lit (.int .u8 0), .lit (.int .u8 0), .lit (.int .u8 0), .lit (.int .u8 0), .lit (.int .u8 0), .lit (.int .u8 0), .lit (.int .u8 0), .lit (.int .u8 0), .lit (.int .u8 20), .lit (.int .u8 0), .lit (.int .u8 0), .lit (.int .u8 0), .lit (.int .u8 0), .lit (.int .u8 0), .lit (.int .u8 0), .lit (.int .u8 28), .lit (.int .u8 0), .lit (.int .u8 0)]
def laid_stencil_markup_others {H : Type} : DataW H := .agg [.lit (.int .u8 0), .lit (.int .u8 0), .lit (.int .u8 0), .lit (.int .u8 0), .lit (.int .u8 5), .lit (.int .u8 0), .lit (.int .u8 5), .lit (.int .u8 10), .lit (.int .u8 0), .lit (.int .u8 0), .lit (.int .u8 0), .lit (.int .u8 18), .lit (.int .u8 0), .lit (.int .u8 18), .lit (.int .u8 18), .lit (.int .u8 0), .lit (.int .u8 15), .lit (.int .u8 15), .lit (.int .u8 0), .lit (.int .u8 0), .lit (.int .u8 0), .lit (.int .u8 0), .lit (.int .u8 0), .lit (.int .u8 0), .lit (.int .u8 0), .lit (.int .u8 0), .lit (.int .u8 0), .lit (.int .u8 26), .lit (.int .u8 0), .lit (.int .u8 0), .lit (.int .u8 0), .lit (.int .u8 0), .lit (.int .u8 0), .lit (.int .u8 32)]
def laid_stencil_markup_escapes {H : Type} : DataW H := .agg [.lit (.bool false), .lit (.bool false), .lit (.bool false), .lit (.bool false), .lit (.bool false), .lit (.bool false), .lit (.bool false), .lit (.bool false), .lit (.bool false), .lit (.bool false), .lit (.bool false), .lit (.bool false), .lit (.bool false), .lit (.bool false), .lit (.bool false), .lit (.bool false), .lit (.bool false), .lit (.bool false), .lit (.bool false), .lit (.bool false), .lit (.bool false), .lit (.bool true), .lit (.bool true), .lit (.bool true), .lit (.bool false), .lit (.bool false), .lit (.bool false), .lit (.bool false), .lit (.bool false), .lit (.bool true), .lit (.bool true), .lit (.bool false), .lit (.bool false), .lit (.bool false)]
def laid_stencil_markup_longEscapes {H : Type} : DataW H := .agg [.agg [.lit (.int .u8 21), .lit (.int .u8 23), .lit (.string [120]), .lit (.int .i64 2)], .agg [.lit (.int .u8 21), .lit (.int .u8 23), .lit (.string [117]), .lit (.int .i64 4)], .agg [.lit (.int .u8 29), .lit (.int .u8 30), .lit (.string [48, 49, 50, 51, 52, 53, 54, 55, 56, 57, 97, 98, 99, 100, 101, 102, 65, 66, 67, 68, 69, 70]), .lit (.int .i64 5)]]
def laid_stencil_markup_elements {H : Type} : DataW H := .agg [.agg [.lit (.string [116, 105, 116, 108, 101]), .lit (.int .u8 19)], .agg [.lit (.string [116, 101, 120, 116, 97, 114, 101, 97]), .lit (.int .u8 19)], .agg [.lit (.string [115, 99, 114, 105, 112, 116]), .lit (.int .u8 20)], .agg [.lit (.string [115, 116, 121, 108, 101]), .lit (.int .u8 28)]]
def laid_stencil_markup_attributes {H : Type} : DataW H := .agg [.agg [.lit (.string [104, 114, 101, 102]), .lit (.bool false), .lit (.int .i64 1)], .agg [.lit (.string [115, 114, 99]), .lit (.bool false), .lit (.int .i64 1)], .agg [.lit (.string [97, 99, 116, 105, 111, 110]), .lit (.bool false), .lit (.int .i64 1)], .agg [.lit (.string [115, 116, 121, 108, 101]), .lit (.bool false), .lit (.int .i64 2)], .agg [.lit (.string [111, 110]), .lit (.bool true), .lit (.int .i64 2)]]

/-- 'stencillaw.Escapes': WHATEVER THE INPUT: true; the input reads as it did. -/
def escapesSpec : ChangeSpec := { name := "escapes", fn := fun _ => fun
  | [d1, d2] => { results := [.lit (.bool true)], args := [d1, d2] }
  | _ => none }
def escapesRow : OpenClaim := { program := "ytfkhljmiehdgmaadoor", sum := "6c49193f629bb9ced073f523097b0fa9b7dd564420a96d0fdcfed7f62a52208e", func := "stencil/stencillaw.Escapes", spec := "escapes", inPlace := ["internal/abi.NoEscape", "internal/bytealg.MakeNoZero", "internal/bytealg.IndexByteString"], named := ["stencil/escape.swaps", "stencil/escape.escapers", "stencil/escape.openSchemes"], apart := false, laid := [("stencil/escape.openSchemes", laid_stencil_escape_openSchemes), ("stencil/escape.swaps", laid_stencil_escape_swaps), ("stencil/escape.escapers", laid_stencil_escape_escapers)] }
def EscapesSaid : Prop := escapesRow.holds Tryd.pinned (OpenSpec.ofChange escapesSpec)

/-- ITS FALSE NEIGHBOUR: 'it returns false'. Refute it at one input. -/
def escapesWrong : ChangeSpec := { name := "escapes", fn := fun _ => fun
  | [d1, d2] => { results := [.lit (.bool false)], args := [d1, d2] }
  | _ => none }
def EscapesWrongFalsely : Prop := escapesRow.holds Tryd.pinned (OpenSpec.ofChange escapesWrong)

/-- 'stencilkeep.Undone': WHATEVER THE INPUT: true; the input reads as it did. -/
def undoneSpec : ChangeSpec := { name := "undone", fn := fun _ => fun
  | [d1, d2] => { results := [.lit (.bool true)], args := [d1, d2] }
  | _ => none }
def undoneRow : OpenClaim := { program := "ytfkhljmiehdgmaadoor", sum := "6c49193f629bb9ced073f523097b0fa9b7dd564420a96d0fdcfed7f62a52208e", func := "stencil/stencilkeep.Undone", spec := "undone", inPlace := ["internal/abi.NoEscape", "internal/bytealg.MakeNoZero", "internal/bytealg.IndexByteString"], named := ["stencil/escape.swaps", "stencil/escape.escapers", "stencil/escape.openSchemes"], apart := false, laid := [("stencil/escape.openSchemes", laid_stencil_escape_openSchemes), ("stencil/escape.swaps", laid_stencil_escape_swaps), ("stencil/escape.escapers", laid_stencil_escape_escapers)] }
def UndoneSaid : Prop := undoneRow.holds Tryd.pinned (OpenSpec.ofChange undoneSpec)

/-- ITS FALSE NEIGHBOUR: 'it returns false'. Refute it at one input. -/
def undoneWrong : ChangeSpec := { name := "undone", fn := fun _ => fun
  | [d1, d2] => { results := [.lit (.bool false)], args := [d1, d2] }
  | _ => none }
def UndoneWrongFalsely : Prop := undoneRow.holds Tryd.pinned (OpenSpec.ofChange undoneWrong)

/-- 'stencillaw.Pages': WHATEVER THE INPUT: true; the input reads as it did. -/
def pagesSpec : ChangeSpec := { name := "pages", fn := fun _ => fun
  | [d] => { results := [.lit (.bool true)], args := [d] }
  | _ => none }
def pagesRow : OpenClaim := { program := "ytfkhljmiehdgmaadoor", sum := "6c49193f629bb9ced073f523097b0fa9b7dd564420a96d0fdcfed7f62a52208e", func := "stencil/stencillaw.Pages", spec := "pages", inPlace := ["internal/bytealg.IndexByteString"], recurses := true, named := ["stencil/markup.escapes", "stencil/markup.readIn", "stencil/markup.others", "stencil/markup.longEscapes", "stencil/markup.markupSteps", "stencil/markup.contentSteps", "stencil/markup.elements", "stencil/markup.attributes"], apart := false, laid := [("stencil/markup.markupSteps", laid_stencil_markup_markupSteps), ("stencil/markup.contentSteps", laid_stencil_markup_contentSteps), ("stencil/markup.readIn", laid_stencil_markup_readIn), ("stencil/markup.others", laid_stencil_markup_others), ("stencil/markup.escapes", laid_stencil_markup_escapes), ("stencil/markup.longEscapes", laid_stencil_markup_longEscapes), ("stencil/markup.elements", laid_stencil_markup_elements), ("stencil/markup.attributes", laid_stencil_markup_attributes)] }
def PagesSaid : Prop := pagesRow.holds Tryd.pinned (OpenSpec.ofChange pagesSpec)

/-- ITS FALSE NEIGHBOUR: 'it returns false'. Refute it at one input. -/
def pagesWrong : ChangeSpec := { name := "pages", fn := fun _ => fun
  | [d] => { results := [.lit (.bool false)], args := [d] }
  | _ => none }
def PagesWrongFalsely : Prop := pagesRow.holds Tryd.pinned (OpenSpec.ofChange pagesWrong)

/-- 'stencilkeep.Joined': WHATEVER THE INPUT: true; the input reads as it did. -/
def joinedSpec : ChangeSpec := { name := "joined", fn := fun _ => fun
  | [d1, d2] => { results := [.lit (.bool true)], args := [d1, d2] }
  | _ => none }
def joinedRow : OpenClaim := { program := "ytfkhljmiehdgmaadoor", sum := "6c49193f629bb9ced073f523097b0fa9b7dd564420a96d0fdcfed7f62a52208e", func := "stencil/stencilkeep.Joined", spec := "joined", inPlace := ["internal/bytealg.IndexByteString"], named := ["stencil/markup.escapes", "stencil/markup.readIn", "stencil/markup.others", "stencil/markup.longEscapes", "stencil/markup.markupSteps", "stencil/markup.contentSteps", "stencil/markup.elements", "stencil/markup.attributes"], apart := false, laid := [("stencil/markup.markupSteps", laid_stencil_markup_markupSteps), ("stencil/markup.contentSteps", laid_stencil_markup_contentSteps), ("stencil/markup.readIn", laid_stencil_markup_readIn), ("stencil/markup.others", laid_stencil_markup_others), ("stencil/markup.escapes", laid_stencil_markup_escapes), ("stencil/markup.longEscapes", laid_stencil_markup_longEscapes), ("stencil/markup.elements", laid_stencil_markup_elements), ("stencil/markup.attributes", laid_stencil_markup_attributes)] }
def JoinedSaid : Prop := joinedRow.holds Tryd.pinned (OpenSpec.ofChange joinedSpec)

/-- ITS FALSE NEIGHBOUR: 'it returns false'. Refute it at one input. -/
def joinedWrong : ChangeSpec := { name := "joined", fn := fun _ => fun
  | [d1, d2] => { results := [.lit (.bool false)], args := [d1, d2] }
  | _ => none }
def JoinedWrongFalsely : Prop := joinedRow.holds Tryd.pinned (OpenSpec.ofChange joinedWrong)

/- THE SECOND FORM. 'bulk': how many values and letters a reading holds, each counted each time it is reached (what is shared counts as often as it is met; a slice's spare places count too). A statement '..UptoSaid' is the law's where the arguments, and the package variables that the reading takes, are together of bulk at most 1048576: NARROWER than '..Said'. Prove '..Said' where nothing that the law and all that it calls make is longer than what came in: it says more and counts as full. Else prove '..UptoSaid'. A law counts once. -/
mutual
def uptoBulk {H : Type} : DataW H → Nat
  | .lit (.string bytes) => bytes.length + 1
  | .lit _ => 1
  | .nil => 1
  | .ptr d => uptoBulk d + 1
  | .slice elems spare => uptoBulkAll elems + uptoBulkAll spare + 1
  | .agg parts => uptoBulkAll parts + 1
  | .iface _ d => uptoBulk d + 1
  | .map entries => uptoBulkEntries entries + 1
  | .held _ => 1
def uptoBulkAll {H : Type} : List (DataW H) → Nat
  | [] => 0
  | d :: r => uptoBulk d + uptoBulkAll r
def uptoBulkEntries {H : Type} : List (Lit × DataW H) → Nat
  | [] => 0
  | x :: r => uptoBulkEntry x + uptoBulkEntries r
def uptoBulkEntry {H : Type} : Lit × DataW H → Nat
  | (.string bytes, d) => bytes.length + uptoBulk d + 1
  | (_, d) => uptoBulk d + 1
 end
def uptoSmall : (H : Type) → List (DataW H) → Bool := fun _ ds => decide (uptoBulkAll ds ≤ 1048576)
def OpenSpec.upto (s : _root_.Go.ChangeSpec) : _root_.Go.OpenSpec := { _root_.Go.OpenSpec.ofChange s with cond := some uptoSmall }

/-- 'stencillaw.Escapes', WHERE WHAT IT READS IS OF BULK AT MOST 1048576: true; the input reads as it did. -/
def escapesUptoRow : OpenClaim := { program := "ytfkhljmiehdgmaadoor", sum := "6c49193f629bb9ced073f523097b0fa9b7dd564420a96d0fdcfed7f62a52208e", func := "stencil/stencillaw.Escapes", spec := "escapes", inPlace := ["internal/abi.NoEscape", "internal/bytealg.MakeNoZero", "internal/bytealg.IndexByteString"], named := ["stencil/escape.swaps", "stencil/escape.escapers", "stencil/escape.openSchemes"], apart := false, laid := [("stencil/escape.openSchemes", laid_stencil_escape_openSchemes), ("stencil/escape.swaps", laid_stencil_escape_swaps), ("stencil/escape.escapers", laid_stencil_escape_escapers)], narrowed := true }
def EscapesUptoSaid : Prop := escapesUptoRow.holds Tryd.pinned (OpenSpec.upto escapesSpec)

/-- 'stencilkeep.Undone', WHERE WHAT IT READS IS OF BULK AT MOST 1048576: true; the input reads as it did. -/
def undoneUptoRow : OpenClaim := { program := "ytfkhljmiehdgmaadoor", sum := "6c49193f629bb9ced073f523097b0fa9b7dd564420a96d0fdcfed7f62a52208e", func := "stencil/stencilkeep.Undone", spec := "undone", inPlace := ["internal/abi.NoEscape", "internal/bytealg.MakeNoZero", "internal/bytealg.IndexByteString"], named := ["stencil/escape.swaps", "stencil/escape.escapers", "stencil/escape.openSchemes"], apart := false, laid := [("stencil/escape.openSchemes", laid_stencil_escape_openSchemes), ("stencil/escape.swaps", laid_stencil_escape_swaps), ("stencil/escape.escapers", laid_stencil_escape_escapers)], narrowed := true }
def UndoneUptoSaid : Prop := undoneUptoRow.holds Tryd.pinned (OpenSpec.upto undoneSpec)

/-- 'stencillaw.Pages', WHERE WHAT IT READS IS OF BULK AT MOST 1048576: true; the input reads as it did. -/
def pagesUptoRow : OpenClaim := { program := "ytfkhljmiehdgmaadoor", sum := "6c49193f629bb9ced073f523097b0fa9b7dd564420a96d0fdcfed7f62a52208e", func := "stencil/stencillaw.Pages", spec := "pages", inPlace := ["internal/bytealg.IndexByteString"], recurses := true, named := ["stencil/markup.escapes", "stencil/markup.readIn", "stencil/markup.others", "stencil/markup.longEscapes", "stencil/markup.markupSteps", "stencil/markup.contentSteps", "stencil/markup.elements", "stencil/markup.attributes"], apart := false, laid := [("stencil/markup.markupSteps", laid_stencil_markup_markupSteps), ("stencil/markup.contentSteps", laid_stencil_markup_contentSteps), ("stencil/markup.readIn", laid_stencil_markup_readIn), ("stencil/markup.others", laid_stencil_markup_others), ("stencil/markup.escapes", laid_stencil_markup_escapes), ("stencil/markup.longEscapes", laid_stencil_markup_longEscapes), ("stencil/markup.elements", laid_stencil_markup_elements), ("stencil/markup.attributes", laid_stencil_markup_attributes)], narrowed := true }
def PagesUptoSaid : Prop := pagesUptoRow.holds Tryd.pinned (OpenSpec.upto pagesSpec)

/-- 'stencilkeep.Joined', WHERE WHAT IT READS IS OF BULK AT MOST 1048576: true; the input reads as it did. -/
def joinedUptoRow : OpenClaim := { program := "ytfkhljmiehdgmaadoor", sum := "6c49193f629bb9ced073f523097b0fa9b7dd564420a96d0fdcfed7f62a52208e", func := "stencil/stencilkeep.Joined", spec := "joined", inPlace := ["internal/bytealg.IndexByteString"], named := ["stencil/markup.escapes", "stencil/markup.readIn", "stencil/markup.others", "stencil/markup.longEscapes", "stencil/markup.markupSteps", "stencil/markup.contentSteps", "stencil/markup.elements", "stencil/markup.attributes"], apart := false, laid := [("stencil/markup.markupSteps", laid_stencil_markup_markupSteps), ("stencil/markup.contentSteps", laid_stencil_markup_contentSteps), ("stencil/markup.readIn", laid_stencil_markup_readIn), ("stencil/markup.others", laid_stencil_markup_others), ("stencil/markup.escapes", laid_stencil_markup_escapes), ("stencil/markup.longEscapes", laid_stencil_markup_longEscapes), ("stencil/markup.elements", laid_stencil_markup_elements), ("stencil/markup.attributes", laid_stencil_markup_attributes)], narrowed := true }
def JoinedUptoSaid : Prop := joinedUptoRow.holds Tryd.pinned (OpenSpec.upto joinedSpec)

end Rows
end Go.Proofs.YtfkhljmiehdgmaaDoor
