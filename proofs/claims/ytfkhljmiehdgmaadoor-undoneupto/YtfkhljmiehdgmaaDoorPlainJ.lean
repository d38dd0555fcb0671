/-
  Plain: the table of swaps. No program is named here.
-/
import Derived.Test.YtfkhljmiehdgmaaDoorPlainI
namespace Go.Proofs.YtfkhljmiehdgmaaDoor.Pl

def swapTab : List (Int × List UInt8 × List UInt8) := [
  (1, [38], [38, 97, 109, 112, 59]), (1, [60], [38, 108, 116, 59]), (1, [62], [38, 103, 116, 59]), (1, [34], [38, 113, 117, 111, 116, 59]), (1, [39], [38, 35, 51, 57, 59]),
  (4, [226, 128, 168], [92, 117, 50, 48, 50, 56]), (4, [226, 128, 169], [92, 117, 50, 48, 50, 57])]
def fits (kd : Int) (l : List UInt8) (x : Int × List UInt8 × List UInt8) : Bool := x.1 == kd && x.2.1.isPrefixOf l
/-- what is swapped at the head of a text, and for what -/
def swapOf (kd : Int) (l : List UInt8) : List UInt8 × List UInt8 := ((swapTab.find? (fits kd l)).map (·.2)).getD ([], [])

theorem find_snoc (kd : Int) (l : List UInt8) (k : Nat) (x : Int × List UInt8 × List UInt8) (hx : swapTab[k]? = some x) (hn : (swapTab.take k).find? (fits kd l) = none) (hf : fits kd l x = false) : (swapTab.take (k + 1)).find? (fits kd l) = none := by
  have hk : k < swapTab.length := (List.getElem?_eq_some_iff.1 hx).1
  rw [List.take_succ_eq_append_getElem hk, List.find?_append, hn]
  have : swapTab[k] = x := by
    rw [List.getElem?_eq_getElem hk] at hx; exact Option.some.inj hx
  rw [this]; simp [List.find?, hf]
theorem find_here (kd : Int) (l : List UInt8) (k : Nat) (x : Int × List UInt8 × List UInt8) (hx : swapTab[k]? = some x) (hn : (swapTab.take k).find? (fits kd l) = none) (hf : fits kd l x = true) : swapOf kd l = x.2 := by
  have hk : k < swapTab.length := (List.getElem?_eq_some_iff.1 hx).1
  have e : swapTab[k] = x := by
    rw [List.getElem?_eq_getElem hk] at hx; exact Option.some.inj hx
  have h : swapTab = swapTab.take k ++ x :: swapTab.drop (k + 1) := by
    rw [← e, ← List.drop_eq_getElem_cons hk, List.take_append_drop]
  unfold swapOf
  rw [h, List.find?_append, hn]
  simp [List.find?, hf]
theorem find_over (kd : Int) (l : List UInt8) (hn : (swapTab.take 7).find? (fits kd l) = none) : swapOf kd l = ([], []) := by
  unfold swapOf
  rw [show swapTab = swapTab.take 7 from rfl, hn]; rfl

end Go.Proofs.YtfkhljmiehdgmaaDoor.Pl
