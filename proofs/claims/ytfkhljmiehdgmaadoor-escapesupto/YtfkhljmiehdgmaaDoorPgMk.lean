/-
  Plain functions: the program's states whole: what counts besides the mode (references, escapes, percents, how far a link is). No program is named here.
-/
import Derived.Test.YtfkhljmiehdgmaaDoorPgC
namespace Go.Proofs.YtfkhljmiehdgmaaDoor.Pl

def hexB : List UInt8 := [48, 49, 50, 51, 52, 53, 54, 55, 56, 57, 97, 98, 99, 100, 101, 102, 65, 66, 67, 68, 69, 70]
def longTab : List (Nat × Nat × List UInt8 × Int) := [(21, 23, [120], 2), (21, 23, [117], 4), (29, 30, hexB, 5)]
/-- what is marked besides -/
structure Mk where
  ref : Bool
  hex : Int
  pct : Int
  far : Int
def Mk.none : Mk := ⟨false, 0, 0, 0⟩
/-- a state of the program -/
structure Sx where
  st : St
  ma : Mk
def fewer (left : Int) (b : UInt8) : Int := if 0 < left ∧ among b hexB = true then left - 1 else 0
def inRef (b : UInt8) : Bool := isLetter b || (isDigit b || b == 35)
def writtenAs (m : Nat) : Int := if m = 1 ∨ m = 19 ∨ m = 8 ∨ m = 9 then 1 else if m = 21 ∨ m = 22 then 4 else if m = 29 ∨ m = 30 then 5 else 0
def inLink (kind : Int) (m : Nat) : Bool := kind == 1 && (m == 8 || m == 9)
def deciders : List UInt8 := [47, 63, 35, 58]
def makesScheme (kind : Int) (m : Nat) (far : Int) (b : UInt8) : Bool := b == 58 && (inLink kind m && far == 2)
def fartherMk (kind : Int) (m : Nat) (far : Int) (b : UInt8) : Int := if makesScheme kind m far b = true then 2 else if among b deciders = true then 3 else if far = 0 then 1 else far
/-- behind a byte by which one stays in the mode -/
def stayedMk (kind : Int) (m : Nat) (k : Mk) (b : UInt8) : Mk :=
  ⟨if writtenAs m = 1 then b == 38 || (k.ref && inRef b) else false, fewer k.hex b, if inLink kind m = true then (if b = 37 then 2 else fewer k.pct b) else 0, if inLink kind m = true then fartherMk kind m k.far b else 0⟩
def longHit (m : Nat) (b : UInt8) (r : Nat × Nat × List UInt8 × Int) : Bool := decide (r.1 ≤ m) && (decide (m ≤ r.2.1) && among b r.2.2.1)
/-- behind a backslash that counts, or just behind one -/
def escapedMk (m : Nat) (esc : Bool) (b : UInt8) : Mk := if esc = false then Mk.none else match longTab.find? (longHit m b) with
  | some r => ⟨false, r.2.2.2, 0, 0⟩
  | Option.none => Mk.none
def ledMk (s : St) (k : Mk) (t : Nat) (b : UInt8) : Mk := if t = s.mode ∧ t ≠ 34 then stayedMk s.kind s.mode k b else Mk.none
def Sx.led (x : Sx) (t : Nat) (b : UInt8) : Sx := ⟨x.st.led t b, ledMk x.st x.ma t b⟩
/-- by the tables, or an escape -/
def quietMk (s : St) (k : Mk) (b : UInt8) : Mk := if (escapesTab.getD s.mode false && (s.esc || b == 92)) = true then escapedMk s.mode s.esc b else ledMk ⟨readAt s.mode b, s.name, s.elem, s.kind, s.read, s.esc⟩ k (leads s.mode b) b
def behindMk (s : St) (k : Mk) (b : UInt8) : Mk := if 19 ≤ s.mode ∧ s.ends b = true then Mk.none else quietMk s k b
def Sx.behind (x : Sx) (b : UInt8) : Sx := ⟨x.st.behind b, behindMk x.st x.ma b⟩
def Sx.start : Sx := ⟨St.start, Mk.none⟩
def sxFrom (x : Sx) (l : List UInt8) : Sx := l.foldl Sx.behind x
theorem sxFrom_st (l : List UInt8) : ∀ x : Sx, (sxFrom x l).st = stFrom x.st l := by
  induction l with
  | nil => intro x; rfl
  | cons b l ih => intro x; exact ih (x.behind b)
theorem sxFrom_snoc (x : Sx) (l : List UInt8) (b : UInt8) : sxFrom x (l ++ [b]) = (sxFrom x l).behind b := by simp [sxFrom]

end Go.Proofs.YtfkhljmiehdgmaaDoor.Pl
