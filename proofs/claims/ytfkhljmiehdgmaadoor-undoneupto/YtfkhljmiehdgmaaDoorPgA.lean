/-
  Plain functions: where in a page one is: the program's states and the document's spots. No program is named here.
-/
import Derived.Test.YtfkhljmiehdgmaaDoorPlainA
namespace Go.Proofs.YtfkhljmiehdgmaaDoor.Pl

/- the program's tables -/
abbrev Step := Nat × List UInt8 × Nat
def markupTab : List Step := [
  (1, [60], 2), (2, [97], 3), (2, [47], 11), (2, [33], 13), (3, [9, 10, 12, 13, 32, 47], 4), (3, [62], 34), (4, [9, 10, 12, 13, 32, 47], 4), (4, [62], 34),
  (5, [9, 10, 12, 13, 32], 6), (5, [61], 7), (5, [47], 4), (5, [62], 34), (6, [9, 10, 12, 13, 32], 6), (6, [61], 7), (6, [47], 4), (6, [62], 34),
  (7, [9, 10, 12, 13, 32], 7), (7, [34], 8), (7, [39], 9), (7, [62], 34), (8, [34], 4), (9, [39], 4), (10, [9, 10, 12, 13, 32], 4), (10, [62], 34),
  (11, [97], 12), (11, [62], 1), (12, [62], 1), (13, [45], 14), (13, [62], 1), (14, [45], 15), (14, [62], 1), (15, [45], 16), (16, [45], 17), (17, [62], 1), (17, [45], 17), (18, [62], 1)]
def contentTab : List Step := [
  (20, [34], 21), (20, [39], 22), (20, [96], 23), (20, [47], 24), (21, [34, 10], 20), (22, [39, 10], 20), (23, [96], 20), (24, [47], 25), (24, [42], 26), (25, [10], 20), (26, [42], 27),
  (27, [47], 20), (27, [42], 27), (28, [34], 29), (28, [39], 30), (28, [47], 31), (29, [34, 10], 28), (30, [39, 10], 28), (31, [42], 32), (32, [42], 33), (33, [47], 28), (33, [42], 33)]
def readInTab : List Nat := [0, 0, 1, 0, 0, 0, 0, 0, 0, 0, 0, 0, 0, 0, 0, 0, 0, 0, 0, 0, 0, 0, 0, 0, 20, 0, 0, 0, 0, 0, 0, 28, 0, 0]
def othersTab : List Nat := [0, 0, 0, 0, 5, 0, 5, 10, 0, 0, 0, 18, 0, 18, 18, 0, 15, 15, 0, 0, 0, 0, 0, 0, 0, 0, 0, 26, 0, 0, 0, 0, 0, 32]
def escapesTab : List Bool := [false, false, false, false, false, false, false, false, false, false, false, false, false, false, false, false, false, false, false, false, false, true, true, true, false, false, false, false, false, true, true, false, false, false]
def titleN : List UInt8 := [116, 105, 116, 108, 101]
def areaN : List UInt8 := [116, 101, 120, 116, 97, 114, 101, 97]
def scriptN : List UInt8 := [115, 99, 114, 105, 112, 116]
def styleN : List UInt8 := [115, 116, 121, 108, 101]
def elementTab : List (List UInt8 × Nat) := [(titleN, 19), (areaN, 19), (scriptN, 20), (styleN, 28)]
def attrTab : List (List UInt8 × Bool × Int) := [([104, 114, 101, 102], false, 1), ([115, 114, 99], false, 1), ([97, 99, 116, 105, 111, 110], false, 1), (styleN, false, 2), ([111, 110], true, 2)]

/- the program's functions -/
structure St where
  mode : Nat
  name : List UInt8
  elem : List UInt8
  kind : Int
  read : Nat
  esc : Bool
def hit (m : Nat) (b : UInt8) (r : Step) : Bool := decide (r.1 = m) && among b r.2.1
def lookup (l : List Step) (m : Nat) (b : UInt8) : Nat := match l.find? (hit m b) with
  | some r => r.2.2
  | none => 0
def asLetter (b : UInt8) : UInt8 := if isLetter b then 97 else b
def stepOn (m : Nat) (b : UInt8) : Nat := if m < 19 then lookup markupTab m (asLetter b) else lookup contentTab m (asLetter b)
def or3 (a b c : Nat) : Nat := if a ≠ 0 then a else if b ≠ 0 then b else c
def longer (n : List UInt8) (b : UInt8) : List UInt8 := if n.length = 9 then n else n ++ [small b]
def elementOf (n : List UInt8) : List UInt8 := if n = titleN ∨ n = areaN ∨ n = scriptN ∨ n = styleN then n else []
def fitsAttr (n : List UInt8) (r : List UInt8 × Bool × Int) : Bool := r.1 == n || (r.2.1 && r.1.isPrefixOf n)
def kindOf (n : List UInt8) : Int := match attrTab.find? (fitsAttr n) with
  | some r => r.2.2
  | none => 0
def contentOf (n : List UInt8) : Nat := if n = titleN then 19 else if n = areaN then 19 else if n = scriptN then 20 else if n = styleN then 28 else 1
def within (n : List UInt8) : St := if contentOf n = 1 then ⟨1, [], [], 0, 0, false⟩ else ⟨contentOf n, [], n, 0, 0, false⟩
def St.named (s : St) : St := ⟨s.mode, [], if s.mode = 3 then elementOf s.name else s.elem, if s.mode = 5 then kindOf s.name else s.kind, s.read, s.esc⟩
def St.led1 (s : St) (to : Nat) (b : UInt8) : St :=
  if to = 3 then { s with mode := to, name := longer s.name b }
  else if to = 5 then { s with mode := to, name := longer s.name b, kind := 0 }
  else if to = 4 ∨ to = 10 then { s with mode := to, kind := 0 }
  else if to = 34 then within s.elem
  else { s with mode := to }
def St.led (s : St) (to : Nat) (b : UInt8) : St := if to = s.mode then s.led1 to b else s.named.led1 to b
def St.ending (s : St) : List UInt8 := 60 :: 47 :: s.elem
def endBytes : List UInt8 := [9, 10, 12, 13, 32, 47, 62]
def St.ends (s : St) (b : UInt8) : Bool := decide (s.read = s.ending.length) && among b endBytes
def behindEnd (b : UInt8) : Nat := if b = 62 then 1 else 12
def St.readEnd (s : St) (b : UInt8) : Nat := if s.ending[s.read]? = some (small b) then s.read + 1 else if b = 60 then 1 else 0
def around (m : Nat) : Nat := readInTab.getD m 0
def St.table2 (s : St) (b : UInt8) : St := s.led (or3 (stepOn s.mode b) (othersTab.getD s.mode 0) s.mode) b
def St.table (s : St) (b : UInt8) : St := if stepOn s.mode b = 0 ∧ around s.mode ≠ 0 then ({ s with mode := around s.mode } : St).table2 b else s.table2 b
def St.quiet (s : St) (b : UInt8) : St := if escapesTab.getD s.mode false && (s.esc || b == 92) then { s with esc := !s.esc } else s.table b
def St.behind (s : St) (b : UInt8) : St :=
  if 19 ≤ s.mode then (if s.ends b then ⟨behindEnd b, [], [], 0, 0, false⟩ else ({ s with read := s.readEnd b } : St).quiet b) else s.quiet b
def St.start : St := ⟨1, [], [], 0, 0, false⟩
def modesFrom : St → List UInt8 → List Nat
  | _, [] => []
  | s, b :: l => (s.behind b).mode :: modesFrom (s.behind b) l
def stFrom (s : St) (l : List UInt8) : St := l.foldl St.behind s

theorem modesFrom_append (s : St) (l m : List UInt8) : modesFrom s (l ++ m) = modesFrom s l ++ modesFrom (stFrom s l) m := by
  induction l generalizing s with
  | nil => rfl
  | cons b l ih => simp only [List.cons_append, modesFrom, stFrom, List.foldl_cons]; rw [ih]; rfl
theorem modesFrom_len (s : St) (l : List UInt8) : (modesFrom s l).length = l.length := by
  induction l generalizing s with
  | nil => rfl
  | cons b l ih => simp [modesFrom, ih]
theorem stFrom_snoc (s : St) (l : List UInt8) (b : UInt8) : stFrom s (l ++ [b]) = (stFrom s l).behind b := by simp [stFrom]
theorem modesFrom_snoc (s : St) (l : List UInt8) (b : UInt8) : modesFrom s (l ++ [b]) = modesFrom s l ++ [((stFrom s l).behind b).mode] := by
  rw [modesFrom_append]; rfl

/- what holds of a state that is come to -/
def nameOk (n : List UInt8) : Prop := n = [] ∨ n = titleN ∨ n = areaN ∨ n = scriptN ∨ n = styleN
structure St.Ok (s : St) : Prop where
  lo : 1 ≤ s.mode
  hi : s.mode ≤ 33
  name : s.name.length ≤ 9
  named : s.mode ≠ 3 → s.mode ≠ 5 → s.name = []
  elem : nameOk s.elem
  bare : s.mode < 4 ∨ (10 < s.mode ∧ s.mode < 19) → s.elem = [] ∧ s.kind = 0
  low : s.mode < 19 → s.read = 0
  calm : escapesTab.getD s.mode false = false → s.esc = false
  read : s.read ≤ s.ending.length
  wrap : -3 ≤ s.kind ∧ s.kind ≤ 3
  high : 19 ≤ s.mode → s.elem ≠ [] ∧ s.kind = 0

theorem tab_here {α : Type} {l : List α} (f : α → Bool) (k : Nat) (x : α) (hx : l[k]? = some x) (hn : (l.take k).find? f = none) (h : f x = true) : l.find? f = some x := by
  obtain ⟨hk, rfl⟩ := List.getElem?_eq_some_iff.1 hx
  have e : l = l.take k ++ l[k] :: l.drop (k + 1) := by rw [← List.drop_eq_getElem_cons hk, List.take_append_drop]
  have e2 : l.find? f = (l.take k ++ l[k] :: l.drop (k + 1)).find? f := congrArg (List.find? f) e
  rw [e2, List.find?_append, hn, List.find?_cons_of_pos h]; rfl
theorem tab_next {α : Type} {l : List α} (f : α → Bool) (k : Nat) (x : α) (hx : l[k]? = some x) (hn : (l.take k).find? f = none) (h : f x = false) : (l.take (k + 1)).find? f = none := by
  obtain ⟨hk, rfl⟩ := List.getElem?_eq_some_iff.1 hx
  rw [List.take_succ_eq_append_getElem hk, List.find?_append, hn, List.find?_cons_of_neg (by simp [h])]; rfl
theorem kindOf_here (n : List UInt8) (k : Nat) (x : List UInt8 × Bool × Int) (hx : attrTab[k]? = some x) (hn : (attrTab.take k).find? (fitsAttr n) = none) (h : fitsAttr n x = true) : kindOf n = x.2.2 := by
  unfold kindOf; rw [tab_here _ k x hx hn h]
theorem kindOf_none (n : List UInt8) (hn : (attrTab.take 5).find? (fitsAttr n) = none) : kindOf n = 0 := by
  unfold kindOf; rw [show attrTab = attrTab.take 5 from rfl, hn]


end Go.Proofs.YtfkhljmiehdgmaaDoor.Pl
