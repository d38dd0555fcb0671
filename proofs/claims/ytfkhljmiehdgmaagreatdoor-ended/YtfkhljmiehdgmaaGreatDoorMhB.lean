/-
  Several texts laid together: each opens with its own remark.
-/
import Derived.Test.YtfkhljmiehdgmaaGreatDoorMhA

/-
  Plain functions: where in a page one is: the program's states and the document's spots. No program is named here.
-/
namespace Go.Proofs.YtfkhljmiehdgmaaGreatDoor.Pl

/- the program's tables -/
abbrev Step := Nat × List UInt8 × Nat
def markupTab : List Step := [
  (1, [60], 2), (2, [97], 3), (2, [47], 11), (2, [33], 13), (3, [9, 10, 12, 13, 32, 47], 4), (3, [62], 34), (4, [9, 10, 12, 13, 32, 47], 4), (4, [62], 34),
  (5, [9, 10, 12, 13, 32], 6), (5, [61], 7), (5, [47], 4), (5, [62], 34), (6, [9, 10, 12, 13, 32], 6), (6, [61], 7), (6, [47], 4), (6, [62], 34),
  (7, [9, 10, 12, 13, 32], 7), (7, [34], 8), (7, [39], 9), (7, [62], 34), (8, [34], 4), (9, [39], 4), (10, [9, 10, 12, 13, 32], 4), (10, [62], 34),
  (11, [97], 12), (11, [62], 1), (12, [62], 1), (13, [45], 14), (13, [62], 1), (14, [45], 15), (14, [62], 1), (15, [45], 16), (16, [45], 17), (17, [62], 1), (17, [45], 17), (18, [62], 1)]
def contentTab : List Step := [
  (20, [34], 21), (20, [39], 22), (20, [96], 23), (20, [47], 24), (21, [34, 10], 20), (22, [39, 10], 20), (23, [96], 20), (24, [47], 25), (24, [42], 26), (25, [10], 20), (26, [42], 27),
  (27, [47], 20), (27, [42], 27), (28, [34], 29), (28, [39], 30), (28, [47], 31), (29, [34, 10], 28), (30, [39, 10], 28), (31, [42], 32), (32, [42], 33), (33, [47], 28), (33, [42], 33)]
def readInTab : List Nat := [0, 0, 1, 0, 0, 0, 0, 0, 0, 0, 0, 0, 0, 0, 0, 0, 0, 0, 0, 0, 0, 0, 0, 0, 20, 0, 0, 0, 0, 0, 0, 28, 0, 0]
def othersTab : List Nat := [0, 0, 0, 0, 5, 0, 5, 10, 0, 0, 0, 18, 0, 18, 18, 0, 15, 15, 0, 0, 0, 0, 0, 0, 0, 0, 0, 26, 0, 0, 0, 0, 0, 32]
def escapesTab : List Bool := [false, false, false, false, false, false, false, false, false, false, false, false, false, false, false, false, false, false, false, false, false, true, true, true, false, false, false, false, false, true, true, false, false, false]
def titleN : List UInt8 := [116, 105, 116, 108, 101]
def areaN : List UInt8 := [116, 101, 120, 116, 97, 114, 101, 97]
def scriptN : List UInt8 := [115, 99, 114, 105, 112, 116]
def styleN : List UInt8 := [115, 116, 121, 108, 101]
def elementTab : List (List UInt8 × Nat) := [(titleN, 19), (areaN, 19), (scriptN, 20), (styleN, 28)]
def attrTab : List (List UInt8 × Bool × Int) := [([104, 114, 101, 102], false, 1), ([115, 114, 99], false, 1), ([97, 99, 116, 105, 111, 110], false, 1), (styleN, false, 2), ([111, 110], true, 2)]

/- the program's functions -/
structure St where
  mode : Nat
  name : List UInt8
  elem : List UInt8
  kind : Int
  read : Nat
  esc : Bool
def hit (m : Nat) (b : UInt8) (r : Step) : Bool := decide (r.1 = m) && among b r.2.1
def lookup (l : List Step) (m : Nat) (b : UInt8) : Nat := match l.find? (hit m b) with
  | some r => r.2.2
  | none => 0
def asLetter (b : UInt8) : UInt8 := if isLetter b then 97 else b
def stepOn (m : Nat) (b : UInt8) : Nat := if m < 19 then lookup markupTab m (asLetter b) else lookup contentTab m (asLetter b)
def or3 (a b c : Nat) : Nat := if a ≠ 0 then a else if b ≠ 0 then b else c
def longer (n : List UInt8) (b : UInt8) : List UInt8 := if n.length = 9 then n else n ++ [small b]
def elementOf (n : List UInt8) : List UInt8 := if n = titleN ∨ n = areaN ∨ n = scriptN ∨ n = styleN then n else []
def fitsAttr (n : List UInt8) (r : List UInt8 × Bool × Int) : Bool := r.1 == n || (r.2.1 && r.1.isPrefixOf n)
def kindOf (n : List UInt8) : Int := match attrTab.find? (fitsAttr n) with
  | some r => r.2.2
  | none => 0
def contentOf (n : List UInt8) : Nat := if n = titleN then 19 else if n = areaN then 19 else if n = scriptN then 20 else if n = styleN then 28 else 1
def within (n : List UInt8) : St := if contentOf n = 1 then ⟨1, [], [], 0, 0, false⟩ else ⟨contentOf n, [], n, 0, 0, false⟩
def St.named (s : St) : St := ⟨s.mode, [], if s.mode = 3 then elementOf s.name else s.elem, if s.mode = 5 then kindOf s.name else s.kind, s.read, s.esc⟩
def St.led1 (s : St) (to : Nat) (b : UInt8) : St :=
  if to = 3 then { s with mode := to, name := longer s.name b }
  else if to = 5 then { s with mode := to, name := longer s.name b, kind := 0 }
  else if to = 4 ∨ to = 10 then { s with mode := to, kind := 0 }
  else if to = 34 then within s.elem
  else { s with mode := to }
def St.led (s : St) (to : Nat) (b : UInt8) : St := if to = s.mode then s.led1 to b else s.named.led1 to b
def St.ending (s : St) : List UInt8 := 60 :: 47 :: s.elem
def endBytes : List UInt8 := [9, 10, 12, 13, 32, 47, 62]
def St.ends (s : St) (b : UInt8) : Bool := decide (s.read = s.ending.length) && among b endBytes
def behindEnd (b : UInt8) : Nat := if b = 62 then 1 else 12
def St.readEnd (s : St) (b : UInt8) : Nat := if s.ending[s.read]? = some (small b) then s.read + 1 else if b = 60 then 1 else 0
def around (m : Nat) : Nat := readInTab.getD m 0
def St.table2 (s : St) (b : UInt8) : St := s.led (or3 (stepOn s.mode b) (othersTab.getD s.mode 0) s.mode) b
def St.table (s : St) (b : UInt8) : St := if stepOn s.mode b = 0 ∧ around s.mode ≠ 0 then ({ s with mode := around s.mode } : St).table2 b else s.table2 b
def St.quiet (s : St) (b : UInt8) : St := if escapesTab.getD s.mode false && (s.esc || b == 92) then { s with esc := !s.esc } else s.table b
def St.behind (s : St) (b : UInt8) : St :=
  if 19 ≤ s.mode then (if s.ends b then ⟨behindEnd b, [], [], 0, 0, false⟩ else ({ s with read := s.readEnd b } : St).quiet b) else s.quiet b
def St.start : St := ⟨1, [], [], 0, 0, false⟩
def modesFrom : St → List UInt8 → List Nat
  | _, [] => []
  | s, b :: l => (s.behind b).mode :: modesFrom (s.behind b) l
def stFrom (s : St) (l : List UInt8) : St := l.foldl St.behind s

theorem modesFrom_append (s : St) (l m : List UInt8) : modesFrom s (l ++ m) = modesFrom s l ++ modesFrom (stFrom s l) m := by
  induction l generalizing s with
  | nil => rfl
  | cons b l ih => simp only [List.cons_append, modesFrom, stFrom, List.foldl_cons]; rw [ih]; rfl
theorem modesFrom_len (s : St) (l : List UInt8) : (modesFrom s l).length = l.length := by
  induction l generalizing s with
  | nil => rfl
  | cons b l ih => simp [modesFrom, ih]
theorem stFrom_snoc (s : St) (l : List UInt8) (b : UInt8) : stFrom s (l ++ [b]) = (stFrom s l).behind b := by simp [stFrom]
theorem modesFrom_snoc (s : St) (l : List UInt8) (b : UInt8) : modesFrom s (l ++ [b]) = modesFrom s l ++ [((stFrom s l).behind b).mode] := by
  rw [modesFrom_append]; rfl

/- what holds of a state that is come to -/
def nameOk (n : List UInt8) : Prop := n = [] ∨ n = titleN ∨ n = areaN ∨ n = scriptN ∨ n = styleN
structure St.Ok (s : St) : Prop where
  lo : 1 ≤ s.mode
  hi : s.mode ≤ 33
  name : s.name.length ≤ 9
  named : s.mode ≠ 3 → s.mode ≠ 5 → s.name = []
  elem : nameOk s.elem
  bare : s.mode < 4 ∨ (10 < s.mode ∧ s.mode < 19) → s.elem = [] ∧ s.kind = 0
  low : s.mode < 19 → s.read = 0
  calm : escapesTab.getD s.mode false = false → s.esc = false
  read : s.read ≤ s.ending.length
  wrap : -3 ≤ s.kind ∧ s.kind ≤ 3
  high : 19 ≤ s.mode → s.elem ≠ [] ∧ s.kind = 0

theorem tab_here {α : Type} {l : List α} (f : α → Bool) (k : Nat) (x : α) (hx : l[k]? = some x) (hn : (l.take k).find? f = none) (h : f x = true) : l.find? f = some x := by
  obtain ⟨hk, rfl⟩ := List.getElem?_eq_some_iff.1 hx
  have e : l = l.take k ++ l[k] :: l.drop (k + 1) := by rw [← List.drop_eq_getElem_cons hk, List.take_append_drop]
  have e2 : l.find? f = (l.take k ++ l[k] :: l.drop (k + 1)).find? f := congrArg (List.find? f) e
  rw [e2, List.find?_append, hn, List.find?_cons_of_pos h]; rfl
theorem tab_next {α : Type} {l : List α} (f : α → Bool) (k : Nat) (x : α) (hx : l[k]? = some x) (hn : (l.take k).find? f = none) (h : f x = false) : (l.take (k + 1)).find? f = none := by
  obtain ⟨hk, rfl⟩ := List.getElem?_eq_some_iff.1 hx
  rw [List.take_succ_eq_append_getElem hk, List.find?_append, hn, List.find?_cons_of_neg (by simp [h])]; rfl
theorem kindOf_here (n : List UInt8) (k : Nat) (x : List UInt8 × Bool × Int) (hx : attrTab[k]? = some x) (hn : (attrTab.take k).find? (fitsAttr n) = none) (h : fitsAttr n x = true) : kindOf n = x.2.2 := by
  unfold kindOf; rw [tab_here _ k x hx hn h]
theorem kindOf_none (n : List UInt8) (hn : (attrTab.take 5).find? (fitsAttr n) = none) : kindOf n = 0 := by
  unfold kindOf; rw [show attrTab = attrTab.take 5 from rfl, hn]


end Go.Proofs.YtfkhljmiehdgmaaGreatDoor.Pl

/-
  Plain laws: what a byte does to a state of the program, by cases. No program is named here.
-/
namespace Go.Proofs.YtfkhljmiehdgmaaGreatDoor.Pl

theorem quiet_a (s : St) (b : UInt8) (hq : (escapesTab.getD s.mode false && (s.esc || b == 92)) = false) (hT : ¬ stepOn s.mode b = 0) : s.quiet b = s.led (or3 (stepOn s.mode b) (othersTab.getD s.mode 0) s.mode) b := by
  unfold St.quiet St.table St.table2
  rw [hq, if_neg (by simp), if_neg (fun h => hT h.1)]
theorem quiet_b (s : St) (b : UInt8) (hq : (escapesTab.getD s.mode false && (s.esc || b == 92)) = false) (hT : stepOn s.mode b = 0) (hR : readInTab.getD s.mode 0 = 0) : s.quiet b = s.led (or3 0 (othersTab.getD s.mode 0) s.mode) b := by
  unfold St.quiet St.table St.table2
  rw [hq, if_neg (by simp), if_neg (fun h => h.2 hR), hT]
theorem quiet_c (s : St) (b : UInt8) (R : Nat) (hq : (escapesTab.getD s.mode false && (s.esc || b == 92)) = false) (hT : stepOn s.mode b = 0) (hR : readInTab.getD s.mode 0 = R) (h0 : R ≠ 0) : s.quiet b = (St.mk R s.name s.elem s.kind s.read s.esc).led (or3 (stepOn R b) (othersTab.getD R 0) R) b := by
  unfold St.quiet St.table St.table2
  rw [hq, if_neg (by simp)]
  unfold around
  rw [hR, if_pos ⟨hT, h0⟩]
theorem quiet_e (s : St) (b : UInt8) (hq : (escapesTab.getD s.mode false && (s.esc || b == 92)) = true) : s.quiet b = ⟨s.mode, s.name, s.elem, s.kind, s.read, !s.esc⟩ := by
  unfold St.quiet
  rw [hq, if_pos rfl]

end Go.Proofs.YtfkhljmiehdgmaaGreatDoor.Pl

/-
  Plain laws: what holds of every state that is come to. No program is named here.
-/
namespace Go.Proofs.YtfkhljmiehdgmaaGreatDoor.Pl

/-- the mode in which a byte is read by the tables, and the mode to which it leads there -/
def readAt (m : Nat) (b : UInt8) : Nat := if stepOn m b = 0 ∧ around m ≠ 0 then around m else m
def leads (m : Nat) (b : UInt8) : Nat := or3 (stepOn (readAt m b) b) (othersTab.getD (readAt m b) 0) (readAt m b)
theorem table_eq (s : St) (b : UInt8) : s.table b = (St.mk (readAt s.mode b) s.name s.elem s.kind s.read s.esc).led (leads s.mode b) b := by
  unfold St.table St.table2 leads readAt
  by_cases h : stepOn s.mode b = 0 ∧ around s.mode ≠ 0
  · rw [if_pos h, if_pos h]
  · rw [if_neg h, if_neg h]

/-- what the tables' rows are like, of a mode and a byte -/
def shape (m : Nat) (b : UInt8) : Bool :=
  let r := readAt m b
  let t := leads m b
  decide (1 ≤ r) && decide (r ≤ 33) && decide (1 ≤ t) && decide (t ≤ 34)
  && (if m < 19 then decide (r < 19) && (decide (t < 19) || decide (t = 34)) else decide (19 ≤ r) && decide (19 ≤ t) && decide (t ≤ 33))
  && (decide (r = m) || (decide (m = 2) && decide (r = 1)) || decide (24 ≤ m))
  && (if t = 34 then decide (3 ≤ m) && decide (m ≤ 10) else true)
  && (if t = 3 then decide (m = 2) || decide (m = 3) else true)
  && (if t = 5 then decide (m = 4) || decide (m = 5) || decide (m = 6) else true)
  && (if t = 4 ∨ (6 ≤ t ∧ t ≤ 10) then decide (3 ≤ m) && decide (m ≤ 10) else true)
  && (if t = 1 ∨ t = 2 ∨ (11 ≤ t ∧ t ≤ 18) then decide (m = 1) || decide (m = 2) || (decide (11 ≤ m) && decide (m ≤ 18)) else true)

/-- the bytes that the rows name -/
def named : List UInt8 := [9, 10, 12, 13, 32, 33, 34, 39, 42, 45, 47, 60, 61, 62, 96, 97]
/-- a byte, as far as the tables tell it from others -/
def cls (b : UInt8) : UInt8 := if among (asLetter b) named then asLetter b else 0
theorem among_mem {b : UInt8} {l : List UInt8} : among b l = true ↔ b ∈ l := by
  unfold among
  rw [List.any_eq_true]
  constructor
  · rintro ⟨x, hx, e⟩
    rw [beq_iff_eq] at e
    exact e ▸ hx
  · intro h
    exact ⟨b, h, by simp⟩
theorem cls_mem (b : UInt8) : cls b ∈ 0 :: named := by
  unfold cls
  split
  · rename_i h
    exact List.mem_cons_of_mem _ (among_mem.1 h)
  · exact List.mem_cons_self
theorem asLetter_cls (b : UInt8) : asLetter (cls b) = cls b := by
  have : ∀ c ∈ (0 :: named : List UInt8), asLetter c = c := by decide
  exact this _ (cls_mem b)
/-- a set of bytes that are all named, and no letter but a -/
theorem among_cls (b : UInt8) (l : List UInt8) (hl : l.all (fun c => among c named) = true) : among (asLetter b) l = among (cls b) l := by
  unfold cls
  split
  · rfl
  · rename_i h
    rw [Bool.eq_iff_iff, among_mem, among_mem]
    constructor
    · intro hb
      exact absurd (List.all_eq_true.1 hl _ hb) h
    · intro h0
      exact absurd (List.all_eq_true.1 hl _ h0) (by decide)
theorem find_congr {α : Type} {f g : α → Bool} : ∀ (l : List α), (∀ x ∈ l, f x = g x) → l.find? f = l.find? g
  | [], _ => rfl
  | x :: l, h => by
    rw [List.find?_cons, List.find?_cons, h x List.mem_cons_self, find_congr l (fun y hy => h y (List.mem_cons_of_mem _ hy))]
theorem lookup_cls (m : Nat) (b : UInt8) (l : List Step) (hl : l.all (fun r => r.2.1.all (fun c => among c named)) = true) : lookup l m (asLetter b) = lookup l m (asLetter (cls b)) := by
  unfold lookup
  rw [asLetter_cls, find_congr l]
  intro r hr
  unfold hit
  rw [among_cls b r.2.1 (List.all_eq_true.1 hl r hr)]
theorem stepOn_cls (m : Nat) (b : UInt8) : stepOn m b = stepOn m (cls b) := by
  unfold stepOn
  rw [lookup_cls m b markupTab (by decide +kernel), lookup_cls m b contentTab (by decide +kernel)]
theorem readAt_cls (m : Nat) (b : UInt8) : readAt m b = readAt m (cls b) := by unfold readAt; rw [stepOn_cls]
theorem leads_cls (m : Nat) (b : UInt8) : leads m b = leads m (cls b) := by unfold leads; rw [readAt_cls, stepOn_cls]
theorem shape_cls (m : Nat) (b : UInt8) : shape m b = shape m (cls b) := by
  unfold shape
  rw [readAt_cls, leads_cls]
theorem shape_tab : ((List.range 34).all fun m => m == 0 || (0 :: named).all fun c => shape m c) = true := by decide +kernel
theorem shape_all (m : Nat) (h1 : 1 ≤ m) (h2 : m ≤ 33) (b : UInt8) : shape m b = true := by
  rw [shape_cls]
  have := (List.all_eq_true.1 shape_tab) m (List.mem_range.2 (by omega))
  simp only [Bool.or_eq_true, beq_iff_eq] at this
  rcases this with h | h
  · omega
  · exact List.all_eq_true.1 h _ (cls_mem b)

end Go.Proofs.YtfkhljmiehdgmaaGreatDoor.Pl

/-
  Plain functions: the program's states whole: what counts besides the mode (references, escapes, percents, how far a link is). No program is named here.
-/
namespace Go.Proofs.YtfkhljmiehdgmaaGreatDoor.Pl

def hexB : List UInt8 := [48, 49, 50, 51, 52, 53, 54, 55, 56, 57, 97, 98, 99, 100, 101, 102, 65, 66, 67, 68, 69, 70]
def longTab : List (Nat × Nat × List UInt8 × Int) := [(21, 23, [120], 2), (21, 23, [117], 4), (29, 30, hexB, 5)]
/-- what is marked besides -/
structure Mk where
  ref : Bool
  hex : Int
  pct : Int
  far : Int
def Mk.none : Mk := ⟨false, 0, 0, 0⟩
/-- a state of the program -/
structure Sx where
  st : St
  ma : Mk
def fewer (left : Int) (b : UInt8) : Int := if 0 < left ∧ among b hexB = true then left - 1 else 0
def inRef (b : UInt8) : Bool := isLetter b || (isDigit b || b == 35)
def writtenAs (m : Nat) : Int := if m = 1 ∨ m = 19 ∨ m = 8 ∨ m = 9 then 1 else if m = 21 ∨ m = 22 then 4 else if m = 29 ∨ m = 30 then 5 else 0
def inLink (kind : Int) (m : Nat) : Bool := kind == 1 && (m == 8 || m == 9)
def deciders : List UInt8 := [47, 63, 35, 58]
def makesScheme (kind : Int) (m : Nat) (far : Int) (b : UInt8) : Bool := b == 58 && (inLink kind m && far == 2)
def fartherMk (kind : Int) (m : Nat) (far : Int) (b : UInt8) : Int := if makesScheme kind m far b = true then 2 else if among b deciders = true then 3 else if far = 0 then 1 else far
/-- behind a byte by which one stays in the mode -/
def stayedMk (kind : Int) (m : Nat) (k : Mk) (b : UInt8) : Mk :=
  ⟨if writtenAs m = 1 then b == 38 || (k.ref && inRef b) else false, fewer k.hex b, if inLink kind m = true then (if b = 37 then 2 else fewer k.pct b) else 0, if inLink kind m = true then fartherMk kind m k.far b else 0⟩
def longHit (m : Nat) (b : UInt8) (r : Nat × Nat × List UInt8 × Int) : Bool := decide (r.1 ≤ m) && (decide (m ≤ r.2.1) && among b r.2.2.1)
/-- behind a backslash that counts, or just behind one -/
def escapedMk (m : Nat) (esc : Bool) (b : UInt8) : Mk := if esc = false then Mk.none else match longTab.find? (longHit m b) with
  | some r => ⟨false, r.2.2.2, 0, 0⟩
  | Option.none => Mk.none
def ledMk (s : St) (k : Mk) (t : Nat) (b : UInt8) : Mk := if t = s.mode ∧ t ≠ 34 then stayedMk s.kind s.mode k b else Mk.none
def Sx.led (x : Sx) (t : Nat) (b : UInt8) : Sx := ⟨x.st.led t b, ledMk x.st x.ma t b⟩
/-- by the tables, or an escape -/
def quietMk (s : St) (k : Mk) (b : UInt8) : Mk := if (escapesTab.getD s.mode false && (s.esc || b == 92)) = true then escapedMk s.mode s.esc b else ledMk ⟨readAt s.mode b, s.name, s.elem, s.kind, s.read, s.esc⟩ k (leads s.mode b) b
def behindMk (s : St) (k : Mk) (b : UInt8) : Mk := if 19 ≤ s.mode ∧ s.ends b = true then Mk.none else quietMk s k b
def Sx.behind (x : Sx) (b : UInt8) : Sx := ⟨x.st.behind b, behindMk x.st x.ma b⟩
def Sx.start : Sx := ⟨St.start, Mk.none⟩
def sxFrom (x : Sx) (l : List UInt8) : Sx := l.foldl Sx.behind x
theorem sxFrom_st (l : List UInt8) : ∀ x : Sx, (sxFrom x l).st = stFrom x.st l := by
  induction l with
  | nil => intro x; rfl
  | cons b l ih => intro x; exact ih (x.behind b)
theorem sxFrom_snoc (x : Sx) (l : List UInt8) (b : UInt8) : sxFrom x (l ++ [b]) = (sxFrom x l).behind b := by simp [sxFrom]

end Go.Proofs.YtfkhljmiehdgmaaGreatDoor.Pl

/-
  Plain laws: what holds of every state that is come to. No program is named here.
-/
namespace Go.Proofs.YtfkhljmiehdgmaaGreatDoor.Pl

theorem nameOk_elementOf (n : List UInt8) : nameOk (elementOf n) := by
  unfold elementOf nameOk
  split
  · rename_i h
    exact .inr h
  · exact .inl rfl
theorem nameOk_len {n : List UInt8} (h : nameOk n) : n.length ≤ 8 := by
  rcases h with rfl | rfl | rfl | rfl | rfl <;> decide
theorem longer_len (n : List UInt8) (b : UInt8) (h : n.length ≤ 9) : (longer n b).length ≤ 9 := by
  unfold longer
  split
  · exact h
  · rw [List.length_append]; simp; omega
theorem kindOf_wrap (n : List UInt8) : 0 ≤ kindOf n ∧ kindOf n ≤ 3 := by
  unfold kindOf
  cases h : attrTab.find? (fitsAttr n) with
  | none => exact ⟨by decide, by decide⟩
  | some r =>
    have hm := List.mem_of_find?_eq_some h
    have : ∀ r ∈ attrTab, 0 ≤ r.2.2 ∧ r.2.2 ≤ 3 := by decide
    exact this r hm
theorem esc_low : ∀ m, m < 19 → escapesTab.getD m false = false := by decide
theorem esc_read : ∀ m, m ≤ 33 → escapesTab.getD m false = true → readInTab.getD m 0 = 0 := by decide
theorem readIn_low : ∀ m, m < 19 → readInTab.getD m 0 ≠ 0 → m = 2 := by decide
theorem readIn_fix : ∀ m, m ≤ 33 → readInTab.getD (readInTab.getD m 0) 0 = 0 ∧ readInTab.getD m 0 ≤ 33 := by decide
theorem readEnd_le (s : St) (b : UInt8) : s.readEnd b ≤ s.ending.length := by
  unfold St.readEnd
  split
  · rename_i h
    have := (List.getElem?_eq_some_iff.1 h).1
    omega
  · split
    · simp [St.ending]
    · exact Nat.zero_le _
theorem within_ok {n : List UInt8} (h : nameOk n) : (within n).Ok := by
  rcases h with rfl | rfl | rfl | rfl | rfl
  all_goals
    refine ⟨by decide, by decide, by decide, fun _ _ => by decide, ?_, by decide, by decide, by decide, by decide, by decide, by decide⟩
    unfold nameOk; decide
theorem start_ok : St.start.Ok := by
  refine ⟨by decide, by decide, by decide, fun _ _ => rfl, .inl rfl, fun _ => ⟨rfl, rfl⟩, fun _ => rfl, fun _ => rfl, by decide, by decide, fun h => by revert h; decide⟩
theorem ended_ok (b : UInt8) : (St.mk (behindEnd b) [] [] 0 0 false).Ok := by
  unfold behindEnd
  split
  all_goals
    refine ⟨by decide, by decide, by decide, fun _ _ => rfl, .inl rfl, fun _ => ⟨rfl, rfl⟩, fun _ => rfl, fun _ => rfl, by decide, by decide, fun h => by revert h; decide⟩

theorem table_ok {s : St} (b : UInt8) (h : s.Ok) (hesc : s.esc = false) : (s.table b).Ok := by
  rw [table_eq]
  have hs := shape_all s.mode h.lo h.hi b
  have hn := h.named
  unfold shape at hs
  simp only [Bool.and_eq_true, decide_eq_true_eq, Bool.or_eq_true] at hs
  generalize readAt s.mode b = r at hs ⊢
  generalize leads s.mode b = t at hs ⊢
  obtain ⟨⟨⟨⟨⟨⟨⟨⟨⟨⟨r1, r2⟩, t1⟩, t2⟩, hf⟩, hr⟩, h34⟩, h3⟩, h5⟩, h4⟩, hp⟩ := hs
  obtain ⟨m, n, e, k, rd, x⟩ := s
  simp only at *
  subst hesc
  have g1 := h.name
  have g2 := h.elem
  have g3 := h.bare
  have g4 := h.low
  have g6 := h.read
  have g7 := h.wrap
  have g8 := h.high
  simp only at g1 g2 g3 g4 g6 g7 g8
  have hZ : ∃ zn ze zk, (St.mk r n e k rd false).led t b = (St.mk r zn ze zk rd false).led1 t b ∧ zn.length ≤ 9 ∧ (t ≠ 3 → t ≠ 5 → zn = []) ∧ nameOk ze ∧ -3 ≤ zk ∧ zk ≤ 3 ∧ (r ≠ 3 ∨ t = r → ze = e) ∧ (r ≠ 5 ∨ t = r → zk = k) := by
    by_cases ht : t = r
    · refine ⟨n, e, k, ?_, g1, ?_, g2, g7.1, g7.2, fun _ => rfl, fun _ => rfl⟩
      · unfold St.led; rw [if_pos ht]
      · intro a b
        refine hn ?_ ?_ <;> omega
    · refine ⟨[], if r = 3 then elementOf n else e, if r = 5 then kindOf n else k, ?_, by simp, fun _ _ => rfl, ?_, ?_, ?_, ?_, ?_⟩
      · unfold St.led; rw [if_neg ht]; rfl
      · split
        · exact nameOk_elementOf n
        · exact g2
      · split
        · have := kindOf_wrap n; omega
        · exact g7.1
      · split
        · have := kindOf_wrap n; omega
        · exact g7.2
      · intro hh
        rw [if_neg (by omega)]
      · intro hh
        rw [if_neg (by omega)]
  obtain ⟨zn, ze, zk, hled, z1, z2, z3, z4, z5, z6, z7⟩ := hZ
  rw [hled]
  unfold St.led1
  have hread : m < 19 → rd = 0 := g4
  by_cases c3 : t = 3
  · rw [if_pos c3]
    simp only [c3, if_true, Bool.or_eq_true, decide_eq_true_eq] at h3
    have hb := g3 (by omega)
    refine ⟨by simp only; omega, by simp only; omega, longer_len zn b z1, fun hh => absurd c3 hh, z3, fun _ => ?_, fun _ => g4 (by omega), fun _ => rfl, by have := g4 (by omega); simp only; omega, ⟨z4, z5⟩, fun hh => by simp only at hh; omega⟩
    refine ⟨(z6 ?_).trans hb.1, (z7 (by omega)).trans hb.2⟩
    omega
  rw [if_neg c3]
  by_cases c5 : t = 5
  · rw [if_pos c5]
    simp only [c5, if_true, Bool.or_eq_true, decide_eq_true_eq] at h5
    refine ⟨by simp only; omega, by simp only; omega, longer_len zn b z1, fun _ hh => absurd c5 hh, z3, fun hh => by simp only at hh; omega, fun _ => g4 (by omega), fun _ => rfl, by have := g4 (by omega); simp only; omega, ⟨by simp only; omega, by simp only; omega⟩, fun hh => by simp only at hh; omega⟩
  rw [if_neg c5]
  have hzn := z2 c3 c5
  by_cases c4 : t = 4 ∨ t = 10
  · rw [if_pos c4]
    rw [if_pos (by omega)] at h4
    simp only [Bool.and_eq_true, decide_eq_true_eq] at h4
    refine ⟨by simp only; omega, by simp only; omega, z1, fun _ _ => hzn, z3, fun hh => by simp only at hh; omega, fun _ => g4 (by omega), fun _ => rfl, by have := g4 (by omega); simp only; omega, ⟨by simp only; omega, by simp only; omega⟩, fun hh => by simp only at hh; omega⟩
  rw [if_neg c4]
  by_cases c34 : t = 34
  · rw [if_pos c34]
    exact within_ok z3
  rw [if_neg c34]
  have hmt : (m < 19 ↔ t < 19) ∧ (m < 19 ↔ r < 19) := by
    by_cases hm : m < 19
    · rw [if_pos hm] at hf
      simp only [Bool.and_eq_true, Bool.or_eq_true, decide_eq_true_eq] at hf
      omega
    · rw [if_neg hm] at hf
      simp only [Bool.and_eq_true, decide_eq_true_eq] at hf
      omega
  refine ⟨by simp only; omega, by simp only; omega, z1, fun _ _ => hzn, z3, fun hh => ?_, fun hh => g4 (by simp only at hh; omega), fun _ => rfl, ?_, ⟨z4, z5⟩, fun hh => ?_⟩
  · simp only at hh
    rw [if_pos (by omega)] at hp
    simp only [Bool.and_eq_true, Bool.or_eq_true, decide_eq_true_eq] at hp
    have hb := g3 (by omega)
    exact ⟨(z6 (by omega)).trans hb.1, (z7 (by omega)).trans hb.2⟩
  · by_cases hm : m < 19
    · have := g4 hm; simp only; omega
    · have := z6 (by omega)
      subst this
      exact g6
  · simp only at hh
    have hb := g8 (by omega)
    exact ⟨by rw [show ze = e from z6 (by omega)]; exact hb.1, (z7 (by omega)).trans hb.2⟩

theorem behind_ok {s : St} (b : UInt8) (h : s.Ok) : (s.behind b).Ok := by
  have quiet : ∀ s : St, s.Ok → (s.quiet b).Ok := by
    intro s h
    unfold St.quiet
    split
    · rename_i hq
      simp only [Bool.and_eq_true] at hq
      exact ⟨h.lo, h.hi, h.name, h.named, h.elem, h.bare, h.low, fun hh => (by simp only at hh; rw [hq.1] at hh; cases hh), h.read, h.wrap, h.high⟩
    · rename_i hq
      refine table_ok b h ?_
      by_cases he : escapesTab.getD s.mode false = true
      · rw [he, Bool.true_and] at hq
        simp only [Bool.or_eq_true, not_or, Bool.not_eq_true] at hq
        exact hq.1
      · exact h.calm (Bool.eq_false_iff.2 he)
  unfold St.behind
  split
  · split
    · exact ended_ok b
    · refine quiet _ ⟨h.lo, h.hi, h.name, h.named, h.elem, h.bare, fun hh => ?_, h.calm, readEnd_le s b, h.wrap, h.high⟩
      simp only at hh
      omega
  · exact quiet _ h
theorem stFrom_ok {s : St} (h : s.Ok) (l : List UInt8) : (stFrom s l).Ok := by
  induction l generalizing s with
  | nil => exact h
  | cons b l ih => exact ih (behind_ok b h)

end Go.Proofs.YtfkhljmiehdgmaaGreatDoor.Pl

/-
  Plain laws: the modes of a beginning; what stands behind a page that ends in Text. No program is named here.
-/
namespace Go.Proofs.YtfkhljmiehdgmaaGreatDoor.Pl

/-- the modes of a page -/
def modes (l : List UInt8) : List Nat := modesFrom St.start l
theorem modes_len (l : List UInt8) : (modes l).length = l.length := modesFrom_len _ _
theorem text_start {s : St} (h : s.Ok) (hm : s.mode = 1) : s = St.start := by
  obtain ⟨m, n, e, k, r, x⟩ := s
  have h1 := h.named
  have h2 := h.bare
  have h3 := h.low
  have h4 := h.calm
  simp only at hm h1 h2 h3 h4
  subst hm
  obtain ⟨rfl, rfl⟩ := h2 (.inl (by omega))
  obtain rfl := h1 (by omega) (by omega)
  obtain rfl := h3 (by omega)
  obtain rfl := h4 (by decide)
  rfl
theorem modes_begin (a b : List UInt8) (i : Nat) (hi : i < a.length) : (modes (a ++ b)).getD i 0 = (modes a).getD i 0 := by
  unfold modes
  rw [modesFrom_append, List.getD_eq_getElem?_getD, List.getD_eq_getElem?_getD, List.getElem?_append_left (by rw [modesFrom_len]; exact hi)]
theorem mode_at (l : List UInt8) (i : Nat) (hi : i < l.length) : (modes l).getD i 0 = (stFrom St.start (l.take (i + 1))).mode := by
  unfold modes
  have e : l = l.take (i + 1) ++ l.drop (i + 1) := (List.take_append_drop _ _).symm
  have e2 : l.take (i + 1) = l.take i ++ [l[i]] := List.take_succ_eq_append_getElem hi
  rw [List.getD_eq_getElem?_getD]
  conv => lhs; rw [e, modesFrom_append, e2, modesFrom_snoc, List.append_assoc]
  rw [List.getElem?_append_right (by rw [modesFrom_len, List.length_take]; omega), modesFrom_len, List.length_take]
  rw [show i - min i l.length = 0 by omega, e2, stFrom_snoc]
  rfl
theorem mode_range (l : List UInt8) (i : Nat) (hi : i < l.length) : 1 ≤ (modes l).getD i 0 ∧ (modes l).getD i 0 ≤ 33 := by
  rw [mode_at l i hi]
  have := stFrom_ok start_ok (l.take (i + 1))
  exact ⟨this.lo, this.hi⟩
theorem modes_behind (a b : List UInt8) (i : Nat) (ha : a.length = 0 ∨ (modes a).getD (a.length - 1) 0 = 1) : (modes (a ++ b)).getD (a.length + i) 0 = (modes b).getD i 0 := by
  have hs : stFrom St.start a = St.start := by
    rcases ha with h | h
    · rw [List.eq_nil_of_length_eq_zero h]; rfl
    · by_cases h0 : a.length = 0
      · rw [List.eq_nil_of_length_eq_zero h0]; rfl
      · rw [mode_at a _ (by omega), show a.length - 1 + 1 = a.length by omega, List.take_length] at h
        exact text_start (stFrom_ok start_ok a) h
  unfold modes
  rw [modesFrom_append, hs, List.getD_eq_getElem?_getD, List.getD_eq_getElem?_getD, List.getElem?_append_right (by rw [modesFrom_len]; omega), modesFrom_len, Nat.add_sub_cancel_left]

end Go.Proofs.YtfkhljmiehdgmaaGreatDoor.Pl

/-
  Plain functions: the document's spots. No program is named here.
-/
namespace Go.Proofs.YtfkhljmiehdgmaaGreatDoor.Pl

structure Sp where
  mode : Int
  tag : List UInt8
  attr : List UInt8
  inside : List UInt8
  run : List UInt8
  far : Int
def Sp.start : Sp := ⟨1, [], [], [], [], 0⟩
def elemNo (n : List UInt8) : Nat := if n = titleN then 1 else if n = areaN then 2 else if n = scriptN then 3 else if n = styleN then 4 else 0
def spEnd (n : List UInt8) : List UInt8 := 60 :: 47 :: n
def rdHit (inside e : List UInt8) (n : Nat) : Bool := decide (n ≤ inside.length) && ((inside.drop (inside.length - n)).map small == e.take n)
def rdFrom (inside e : List UInt8) : Nat → Nat
  | 0 => 0
  | n + 1 => if rdHit inside e (n + 1) then n + 1 else rdFrom inside e n
def Sp.read (p : Sp) : Nat := rdFrom p.inside (spEnd p.tag) (spEnd p.tag).length
def isStr (m : Int) : Bool := m == 21 || (m == 22 || (m == 23 || (m == 29 || m == 30)))
def hexDigits : List UInt8 := [48, 49, 50, 51, 52, 53, 54, 55, 56, 57, 97, 98, 99, 100, 101, 102, 65, 66, 67, 68, 69, 70]
def escStep (css : Bool) (left : Int) (b : UInt8) : Int :=
  if left = 1 then (if (css && among b hexDigits) = true then 6 else if (!css && b == 120) = true then 3 else if (!css && b == 117) = true then 5 else 0)
  else if 1 < left ∧ among b hexDigits = true then (if left - 1 = 1 then 0 else left - 1)
  else if b = 92 then 1 else 0
def escOf (css : Bool) (run : List UInt8) : Int := run.foldl (escStep css) 0
def tail12 (s : List UInt8) : List UInt8 := if 12 < s.length then s.drop (s.length - 12) else s
def refBytes : List UInt8 := [97, 98, 99, 100, 101, 102, 103, 104, 105, 106, 107, 108, 109, 110, 111, 112, 113, 114, 115, 116, 117, 118, 119, 120, 121, 122, 65, 66, 67, 68, 69, 70, 71, 72, 73, 74, 75, 76, 77, 78, 79, 80, 81, 82, 83, 84, 85, 86, 87, 88, 89, 90, 48, 49, 50, 51, 52, 53, 54, 55, 56, 57, 35]
/-- of a text read from its end on -/
def refR : List UInt8 → Bool
  | [] => false
  | b :: l => if b = 38 then true else if among b refBytes = true then refR l else false
def refer (run : List UInt8) : Bool := refR run.reverse
def sheetly (m : Int) : Bool := decide (28 ≤ m)
def kept (m : Int) (run : List UInt8) : List UInt8 :=
  if isStr m = true then (if escOf (sheetly m) run = 0 then [] else run)
  else if refer run = true then [38] else if m = 1 ∨ m = 19 then [] else if 2 < run.length then run.drop (run.length - 2) else run
def spLetters : List UInt8 := [97, 98, 99, 100, 101, 102, 103, 104, 105, 106, 107, 108, 109, 110, 111, 112, 113, 114, 115, 116, 117, 118, 119, 120, 121, 122, 65, 66, 67, 68, 69, 70, 71, 72, 73, 74, 75, 76, 77, 78, 79, 80, 81, 82, 83, 84, 85, 86, 87, 88, 89, 90]
def bl : List UInt8 := [9, 10, 12, 13, 32]
def bls : List UInt8 := [9, 10, 12, 13, 32, 47]
/-- the document's table: content is -1, again -2 -/
def pageTab : List (List (List UInt8 × Int)) := [[],
  [([60], 2)],
  [(spLetters, 3), ([47], 11), ([33], 13), ([], -2)],
  [(bls, 4), ([62], -1)],
  [(bls, 4), ([62], -1), ([], 5)],
  [(bl, 6), ([61], 7), ([47], 4), ([62], -1)],
  [(bl, 6), ([61], 7), ([47], 4), ([62], -1), ([], 5)],
  [(bl, 7), ([34], 8), ([39], 9), ([62], -1), ([], 10)],
  [([34], 4)],
  [([39], 4)],
  [(bl, 4), ([62], -1)],
  [(spLetters, 12), ([62], 1), ([], 18)],
  [([62], 1)],
  [([45], 14), ([62], 1), ([], 18)],
  [([45], 15), ([62], 1), ([], 18)],
  [([45], 16)],
  [([45], 17), ([], 15)],
  [([62], 1), ([45], 17), ([], 15)],
  [([62], 1)]]
def innerTab : List (List (List UInt8 × Int)) := [
  [([34], 21), ([39], 22), ([96], 23), ([47], 24)],
  [([34, 10], 20)],
  [([39, 10], 20)],
  [([96], 20)],
  [([47], 25), ([42], 26), ([], -2)],
  [([10], 20)],
  [([42], 27)],
  [([47], 20), ([42], 27), ([], 26)],
  [([34], 29), ([39], 30), ([47], 31)],
  [([34, 10], 28)],
  [([39, 10], 28)],
  [([42], 32), ([], -2)],
  [([42], 33)],
  [([47], 28), ([42], 33), ([], 32)]]
def pageRows (m : Nat) : List (List UInt8 × Int) := pageTab.getD m []
def innerRows (m : Nat) : List (List UInt8 × Int) := innerTab.getD (m - 20) []
def rowsOf (m : Nat) : List (List UInt8 × Int) := if 20 ≤ m then innerRows m else pageRows m
def rowHit (b : UInt8) (r : List UInt8 × Int) : Bool := r.1 == [] || among b r.1
def tgt (m : Nat) (b : UInt8) : Int := match (rowsOf m).find? (rowHit b) with
  | some r => r.2
  | none => m
def first9 (s : List UInt8) : List UInt8 := if 9 < s.length then s.take 9 else s
def farther (far : Int) (b : UInt8) : Int := if (b == 47 || (b == 63 || (b == 35 || (b == 58 && far != 4)))) = true then 1 else if far = 2 then 3 else far
def Sp.named (p : Sp) (m : Nat) (b : UInt8) (to : Int) : Sp :=
  if 19 ≤ to then ⟨0, p.tag, [], p.inside, [], 0⟩
  else if to = 3 then ⟨0, if m = 2 then [small b] else first9 (p.tag ++ [small b]), [], p.inside, [], 0⟩
  else if to = 5 then ⟨0, p.tag, if m = 5 then first9 (p.attr ++ [small b]) else [small b], p.inside, [], 0⟩
  else if to = 6 ∨ to = 7 ∨ to = 8 ∨ to = 9 then ⟨0, p.tag, p.attr, p.inside, [], 0⟩
  else if to = 4 ∨ to = 10 then ⟨0, p.tag, [], p.inside, [], 0⟩
  else ⟨0, [], [], p.inside, [], 0⟩
def runs (to : Int) : Bool := to == 1 || (to == 8 || (to == 9 || isStr to))
/-- by the table, where the byte is not read in another mode -/
def Sp.step1 (p : Sp) (m : Nat) (b : UInt8) : Sp :=
  if tgt m b = -1 then (if contentOf p.tag = 1 then Sp.start else ⟨contentOf p.tag, p.tag, [], [], [], 0⟩)
  else ⟨tgt m b, (p.named m b (tgt m b)).tag, (p.named m b (tgt m b)).attr, (p.named m b (tgt m b)).inside,
    if tgt m b = m ∧ runs (tgt m b) = true then kept (tgt m b) (p.run ++ [b]) else [],
    if tgt m b = 8 ∨ tgt m b = 9 then (if tgt m b = m then farther p.far b else 2) else 0⟩
def aroundOf (m : Nat) : Nat := if m = 24 then 20 else if m = 31 then 28 else 1
def Sp.step (p : Sp) (m : Nat) (b : UInt8) : Sp :=
  if tgt m b = -2 then (Sp.mk (aroundOf m) p.tag p.attr p.inside [] p.far).step1 (aroundOf m) b else p.step1 m b
def Sp.element (p : Sp) (m : Nat) (b : UInt8) : Sp :=
  if p.read = (spEnd p.tag).length ∧ among b endBytes = true then (if b = 62 then Sp.start else ⟨12, [], [], [], [], 0⟩)
  else if isStr m = true ∧ escOf (sheetly m) p.run = 1 then ⟨m, p.tag, p.attr, tail12 (p.inside ++ [b]), p.run ++ [b], p.far⟩
  else if m = 19 then ⟨m, p.tag, p.attr, tail12 (p.inside ++ [b]), kept m (p.run ++ [b]), p.far⟩
  else (Sp.mk m p.tag p.attr (tail12 (p.inside ++ [b])) p.run p.far).step m b
def Sp.next (p : Sp) (b : UInt8) : Sp := if 19 ≤ p.mode.toNat then p.element p.mode.toNat b else p.step p.mode.toNat b

end Go.Proofs.YtfkhljmiehdgmaaGreatDoor.Pl

/-
  Plain functions: what holds of the document's spots. No program is named here.
-/
namespace Go.Proofs.YtfkhljmiehdgmaaGreatDoor.Pl

theorem first9_len (l : List UInt8) : (first9 l).length ≤ 9 := by
  unfold first9; split
  · rw [List.length_take]; omega
  · omega
theorem tail12_len (l : List UInt8) : (tail12 l).length ≤ 12 := by
  unfold tail12; split
  · rw [List.length_drop]; omega
  · omega
theorem kept_len (m : Int) (l : List UInt8) (b : UInt8) : (kept m (l ++ [b])).length ≤ l.length + 1 := by
  unfold kept
  repeat' split
  all_goals simp
  all_goals omega
theorem tgt_range (m : Nat) (b : UInt8) (hm : m ≤ 33) : tgt m b = -1 ∨ tgt m b = -2 ∨ ∃ k : Nat, tgt m b = k ∧ k ≤ 33 := by
  have key : ∀ k : Fin 34, ∀ r ∈ rowsOf k.val, -2 ≤ r.2 ∧ r.2 ≤ 33 := by decide
  have h : -2 ≤ tgt m b ∧ tgt m b ≤ 33 := by
    unfold tgt
    split
    · next r hr => exact key ⟨m, by omega⟩ r (List.mem_of_find?_eq_some hr)
    · omega
  by_cases h1 : tgt m b = -1
  · exact .inl h1
  by_cases h2 : tgt m b = -2
  · exact .inr (.inl h2)
  exact .inr (.inr ⟨(tgt m b).toNat, by omega, by omega⟩)
/-- a spot, when n bytes were read -/
structure SpOk (n : Nat) (p : Sp) : Prop where
  mode : ∃ m : Nat, p.mode = m ∧ m ≤ 33
  tag : p.tag.length ≤ 9
  attr : p.attr.length ≤ 9
  inside : p.inside.length ≤ 12
  run : p.run.length ≤ n
theorem spOk_start (n : Nat) : SpOk n Sp.start := ⟨⟨1, rfl, by omega⟩, by decide, by decide, by decide, Nat.zero_le _⟩
theorem contentOf_le (n : List UInt8) : contentOf n ≤ 33 := by
  unfold contentOf
  repeat' split
  all_goals omega
theorem named_ok {n : Nat} {p : Sp} (h : SpOk n p) (m : Nat) (b : UInt8) (to : Int) : (p.named m b to).tag.length ≤ 9 ∧ (p.named m b to).attr.length ≤ 9 ∧ (p.named m b to).inside.length ≤ 12 := by
  have a := h.tag
  have c := h.attr
  have d := h.inside
  unfold Sp.named
  repeat' split
  all_goals refine ⟨?_, ?_, ?_⟩
  all_goals first | assumption | exact first9_len _ | simp
theorem step1_ok {n : Nat} {p : Sp} (h : SpOk n p) (m : Nat) (b : UInt8) (hm : m ≤ 33) (h2 : ¬ tgt m b = -2) : SpOk (n + 1) (p.step1 m b) := by
  unfold Sp.step1
  by_cases h1 : tgt m b = -1
  · rw [if_pos h1]
    split
    · exact spOk_start _
    · exact ⟨⟨_, rfl, contentOf_le _⟩, h.tag, Nat.zero_le _, Nat.zero_le _, Nat.zero_le _⟩
  · rw [if_neg h1]
    have k := named_ok h m b (tgt m b)
    refine ⟨?_, k.1, k.2.1, k.2.2, ?_⟩
    · rcases tgt_range m b hm with q | q | q
      · exact absurd q h1
      · exact absurd q h2
      · exact q
    · show (if _ then _ else _ : List UInt8).length ≤ _
      split
      · exact Nat.le_trans (kept_len _ _ _) (Nat.succ_le_succ h.run)
      · exact Nat.zero_le _
theorem aroundOf_le (m : Nat) : aroundOf m ≤ 33 := by
  unfold aroundOf
  repeat' split
  all_goals omega
theorem around_stays (m : Nat) (b : UInt8) : ¬ tgt (aroundOf m) b = -2 := by
  have key : ∀ r ∈ rowsOf 20 ++ rowsOf 28 ++ rowsOf 1, ¬ r.2 = -2 := by decide
  have h : aroundOf m = 20 ∨ aroundOf m = 28 ∨ aroundOf m = 1 := by
    unfold aroundOf
    repeat' split
    all_goals simp
  intro q
  unfold tgt at q
  split at q
  · next r hr =>
    have hr := List.mem_of_find?_eq_some hr
    refine key r ?_ q
    rcases h with h | h | h <;> rw [h] at hr <;> simp [hr]
  · omega
theorem step_ok {n : Nat} {p : Sp} (h : SpOk n p) (m : Nat) (b : UInt8) (hm : m ≤ 33) : SpOk (n + 1) (p.step m b) := by
  unfold Sp.step
  split
  · exact step1_ok (p := Sp.mk (aroundOf m) p.tag p.attr p.inside [] p.far) ⟨⟨aroundOf m, rfl, aroundOf_le m⟩, h.tag, h.attr, h.inside, Nat.zero_le _⟩ _ b (aroundOf_le m) (around_stays m b)
  · next h2 => exact step1_ok h m b hm h2
theorem element_ok {n : Nat} {p : Sp} (h : SpOk n p) (m : Nat) (b : UInt8) (hm : m ≤ 33) : SpOk (n + 1) (p.element m b) := by
  unfold Sp.element
  split
  · split
    · exact spOk_start _
    · exact ⟨⟨12, rfl, by omega⟩, by decide, by decide, by decide, Nat.zero_le _⟩
  · split
    · exact ⟨⟨m, rfl, hm⟩, h.tag, h.attr, tail12_len _, by have := h.run; simp only [List.length_append, List.length_singleton]; omega⟩
    · split
      · exact ⟨⟨m, rfl, hm⟩, h.tag, h.attr, tail12_len _, Nat.le_trans (kept_len _ _ _) (Nat.succ_le_succ h.run)⟩
      · exact step_ok (p := Sp.mk m p.tag p.attr (tail12 (p.inside ++ [b])) p.run p.far) ⟨⟨m, rfl, hm⟩, h.tag, h.attr, tail12_len _, h.run⟩ m b hm
theorem next_ok {n : Nat} {p : Sp} (h : SpOk n p) (b : UInt8) : SpOk (n + 1) (p.next b) := by
  obtain ⟨m, hm, h33⟩ := h.mode
  have e : p.mode.toNat = m := by rw [hm]; rfl
  unfold Sp.next
  rw [e]
  split
  · exact element_ok h m b h33
  · exact step_ok h m b h33

end Go.Proofs.YtfkhljmiehdgmaaGreatDoor.Pl

/-
  Plain laws: the program's states and the document's spots go side by side: how much of an element's end is read; the tables. No program is named here.
-/
namespace Go.Proofs.YtfkhljmiehdgmaaGreatDoor.Pl

/- how much of an element's end is read -/
theorem rdHit_iff (l e : List UInt8) (n : Nat) (hn : n ≤ e.length) : rdHit l e n = true ↔ e.take n <:+ l.map small := by
  unfold rdHit
  rw [Bool.and_eq_true, decide_eq_true_eq, beq_iff_eq]
  constructor
  · rintro ⟨h, q⟩
    rw [← q, List.map_drop]
    exact List.drop_suffix _ _
  · intro h
    have hl := h.length_le
    rw [List.length_take, List.length_map, Nat.min_eq_left hn] at hl
    refine ⟨hl, ?_⟩
    rw [List.map_drop]
    have := List.suffix_iff_eq_drop.1 h
    rw [List.length_take, List.length_map, Nat.min_eq_left hn] at this
    exact this.symm
theorem rdFrom_le (l e : List UInt8) : ∀ k, rdFrom l e k ≤ k
  | 0 => Nat.le_refl _
  | k + 1 => by
    unfold rdFrom; split
    · exact Nat.le_refl _
    · exact Nat.le_succ_of_le (rdFrom_le l e k)
theorem rdFrom_hit (l e : List UInt8) : ∀ k, rdFrom l e k = 0 ∨ rdHit l e (rdFrom l e k) = true
  | 0 => .inl rfl
  | k + 1 => by
    unfold rdFrom; split
    · next h => exact .inr h
    · exact rdFrom_hit l e k
theorem rdFrom_max (l e : List UInt8) : ∀ k n, n ≤ k → rdHit l e n = true → n ≤ rdFrom l e k
  | 0, n, hn, _ => by omega
  | k + 1, n, hn, h => by
    unfold rdFrom; split
    · exact hn
    · next h' =>
      rcases Nat.lt_or_ge n (k + 1) with q | q
      · exact rdFrom_max l e k n (by omega) h
      · have : n = k + 1 := by omega
        subst this
        exact absurd h h'
/-- in what is looked for the first byte does not come again -/
def Once (e : List UInt8) : Prop := ∀ j, 1 ≤ j → e[j]? ≠ some 60
theorem hits_one (l e : List UInt8) (he : Once e) (h0 : e[0]? = some 60) (n k : Nat) (hn : n ≤ e.length) (hk : k ≤ e.length) (h1 : 1 ≤ n) (hnk : n ≤ k) (hN : rdHit l e n = true) (hK : rdHit l e k = true) : n = k := by
  rw [rdHit_iff _ _ _ hn] at hN
  rw [rdHit_iff _ _ _ hk] at hK
  obtain ⟨a, ha⟩ := hN
  obtain ⟨c, hc⟩ := hK
  have hlen : a.length + n = c.length + k := by
    have := congrArg List.length (ha.trans hc.symm)
    simpa [List.length_append, List.length_take, Nat.min_eq_left hn, Nat.min_eq_left hk] using this
  rcases Nat.lt_or_ge n k with q | q
  · exfalso
    have g1 : (a ++ e.take n)[a.length]? = some 60 := by
      rw [List.getElem?_append_right (Nat.le_refl _), Nat.sub_self, List.getElem?_take, if_pos (by omega)]; exact h0
    have g2 : (c ++ e.take k)[a.length]? = e[k - n]? := by
      rw [List.getElem?_append_right (by omega), List.getElem?_take, if_pos (by omega), show a.length - c.length = k - n by omega]
    rw [ha, ← hc, g2] at g1
    exact he (k - n) (by omega) g1
  · omega
theorem rd_snoc (l e : List UInt8) (b : UInt8) (n : Nat) (hn : n < e.length) : rdHit (l ++ [b]) e (n + 1) = true ↔ rdHit l e n = true ∧ e[n]? = some (small b) := by
  rw [rdHit_iff _ _ _ hn, rdHit_iff _ _ _ (Nat.le_of_lt hn)]
  have ht : e.take (n + 1) = e.take n ++ [e[n]] := List.take_succ_eq_append_getElem hn
  rw [ht, List.map_append, List.map_singleton, List.getElem?_eq_getElem hn]
  constructor
  · rintro ⟨a, ha⟩
    rw [← List.append_assoc] at ha
    obtain ⟨x, y⟩ := List.append_inj' ha rfl
    simp only [List.cons.injEq, and_true] at y
    exact ⟨⟨a, x⟩, by rw [y]⟩
  · rintro ⟨⟨a, ha⟩, hb⟩
    simp only [Option.some.injEq] at hb
    exact ⟨a, by rw [← List.append_assoc, ha, hb]⟩
theorem rdHit_zero (l e : List UInt8) : rdHit l e 0 = true := by simp [rdHit]
/-- one more byte -/
theorem rdFrom_snoc (l e : List UInt8) (b : UInt8) (he : Once e) (h0 : e[0]? = some 60) :
    rdFrom (l ++ [b]) e e.length = if e[rdFrom l e e.length]? = some (small b) then rdFrom l e e.length + 1 else if b = 60 then 1 else 0 := by
  have hpos : 0 < e.length := by
    rcases Nat.eq_zero_or_pos e.length with q | q
    · rw [List.eq_nil_of_length_eq_zero q] at h0; simp at h0
    · exact q
  have hsm : small b = 60 ↔ b = 60 := by
    have : ∀ n ∈ List.range 256, (small (UInt8.ofNat n) = 60 ↔ UInt8.ofNat n = 60) := by decide +kernel
    have := this b.toNat (List.mem_range.2 b.toNat_lt)
    rwa [UInt8.ofNat_toNat] at this
  have hz : rdHit l e (rdFrom l e e.length) = true := by
    rcases rdFrom_hit l e e.length with q | q
    · rw [q]; exact rdHit_zero _ _
    · exact q
  -- which n are hit ahead of the byte
  have huniq : ∀ n, n ≤ e.length → rdHit l e n = true → n = 0 ∨ n = rdFrom l e e.length := by
    intro n hn h
    rcases Nat.eq_zero_or_pos n with q | q
    · exact .inl q
    · have := rdFrom_max l e e.length n hn h
      exact .inr (hits_one l e he h0 n _ hn (rdFrom_le _ _ _) q this h hz)
  generalize rdFrom l e e.length = r at *
  have hbehind : ∀ n, n + 1 ≤ e.length → rdHit (l ++ [b]) e (n + 1) = true → (n = 0 ∨ n = r) ∧ e[n]? = some (small b) := by
    intro n hn h
    obtain ⟨p, q⟩ := (rd_snoc l e b n (by omega)).1 h
    exact ⟨huniq n (by omega) p, q⟩
  have hle := rdFrom_le (l ++ [b]) e e.length
  have hhit := rdFrom_hit (l ++ [b]) e e.length
  have hmax := rdFrom_max (l ++ [b]) e e.length
  generalize rdFrom (l ++ [b]) e e.length = R at *
  by_cases c1 : e[r]? = some (small b)
  · rw [if_pos c1]
    have hr := (List.getElem?_eq_some_iff.1 c1).1
    have hR := (rd_snoc l e b r hr).2 ⟨hz, c1⟩
    have g1 := hmax (r + 1) hr hR
    have g2 : rdHit (l ++ [b]) e R = true := by
      rcases hhit with q | q
      · omega
      · exact q
    exact (hits_one (l ++ [b]) e he h0 (r + 1) R hr hle (by omega) g1 hR g2).symm
  · rw [if_neg c1]
    by_cases c2 : b = 60
    · rw [if_pos c2]
      have hR := (rd_snoc l e b 0 hpos).2 ⟨rdHit_zero _ _, by rw [h0, hsm.2 c2]⟩
      have g1 := hmax 1 hpos hR
      have g2 : rdHit (l ++ [b]) e R = true := by
        rcases hhit with q | q
        · omega
        · exact q
      exact (hits_one (l ++ [b]) e he h0 1 R hpos hle (by omega) g1 hR g2).symm
    · rw [if_neg c2]
      rcases hhit with q | q
      · exact q
      · rcases Nat.eq_zero_or_pos R with z | z
        · exact z
        · exfalso
          obtain ⟨n, rfl⟩ : ∃ n, R = n + 1 := ⟨R - 1, by omega⟩
          obtain ⟨x, y⟩ := hbehind n hle q
          rcases x with rfl | rfl
          · rw [h0] at y
            simp only [Option.some.injEq] at y
            exact c2 (hsm.1 y.symm)
          · exact c1 y
/-- the last twelve bytes are enough -/
theorem rdFrom_tail (l e : List UInt8) (he : e.length ≤ 12) : rdFrom (tail12 l) e e.length = rdFrom l e e.length := by
  have key : ∀ n, n ≤ e.length → rdHit (tail12 l) e n = rdHit l e n := by
    intro n hn
    unfold tail12
    split
    · next h =>
      unfold rdHit
      rw [List.length_drop, List.drop_drop]
      rw [show l.length - 12 + (l.length - (l.length - 12) - n) = l.length - n by omega]
      have : decide (n ≤ l.length - (l.length - 12)) = decide (n ≤ l.length) := by rw [decide_eq_decide]; omega
      rw [this]
    · rfl
  have : ∀ k, k ≤ e.length → rdFrom (tail12 l) e k = rdFrom l e k := by
    intro k
    induction k with
    | zero => intro _; rfl
    | succ k ih => intro hk; unfold rdFrom; rw [key _ hk, ih (by omega)]
  exact this _ (Nat.le_refl _)
theorem once_end {n : List UInt8} (h : nameOk n) : Once (spEnd n) ∧ (spEnd n)[0]? = some 60 ∧ (spEnd n).length ≤ 12 := by
  refine ⟨?_, rfl, by have := nameOk_len h; unfold spEnd; simp only [List.length_cons]; omega⟩
  have key : ∀ n : List UInt8, nameOk n → (spEnd n).length ≤ 10 := by
    intro n h; have := nameOk_len h; unfold spEnd; simp only [List.length_cons]; omega
  intro j hj hq
  have hl := (List.getElem?_eq_some_iff.1 hq).1
  have hl2 := key n h
  have hb : (List.range 10).all (fun j => j == 0 || !((spEnd n)[j]? == some 60)) = true := by
    rcases h with rfl | rfl | rfl | rfl | rfl <;> decide
  have := List.all_eq_true.1 hb j (List.mem_range.2 (by omega))
  simp only [Bool.or_eq_true, beq_iff_eq, Bool.not_eq_true', beq_eq_false_iff_ne] at this
  rcases this with h | h
  · omega
  · exact h hq
/-- how much is read, with one more byte, cut to the last twelve -/
theorem read_next (l n : List UInt8) (b : UInt8) (h : nameOk n) :
    rdFrom (tail12 (l ++ [b])) (spEnd n) (spEnd n).length = if (spEnd n)[rdFrom l (spEnd n) (spEnd n).length]? = some (small b) then rdFrom l (spEnd n) (spEnd n).length + 1 else if b = 60 then 1 else 0 := by
  obtain ⟨a, c, d⟩ := once_end h
  rw [rdFrom_tail _ _ d, rdFrom_snoc _ _ _ a c]

/- the tables -/
theorem among_letters (b : UInt8) : among b spLetters = isLetter b := by
  have : ∀ n ∈ List.range 256, among (UInt8.ofNat n) spLetters = isLetter (UInt8.ofNat n) := by decide +kernel
  have := this b.toNat (List.mem_range.2 b.toNat_lt)
  rwa [UInt8.ofNat_toNat] at this
theorem letter_cls (b : UInt8) : isLetter (cls b) = isLetter b := by
  have : ∀ n ∈ List.range 256, isLetter (cls (UInt8.ofNat n)) = isLetter (UInt8.ofNat n) := by decide +kernel
  have := this b.toNat (List.mem_range.2 b.toNat_lt)
  rwa [UInt8.ofNat_toNat] at this
/-- a set of bytes that are all named, and no letter among them -/
theorem among_plain (b : UInt8) (l : List UInt8) (hl : l.all (fun c => among c named && !isLetter c) = true) : among b l = among (cls b) l := by
  have h1 : l.all (fun c => among c named) = true := by
    rw [List.all_eq_true] at hl ⊢
    intro c hc
    have := hl c hc
    rw [Bool.and_eq_true] at this
    exact this.1
  rw [← among_cls b l h1]
  unfold asLetter
  by_cases hb : isLetter b = true
  · rw [if_pos hb]
    have no : ∀ x, isLetter x = true → among x l = false := by
      intro x hx
      rw [Bool.eq_false_iff]
      intro hq
      have := List.all_eq_true.1 hl x (among_mem.1 hq)
      rw [hx] at this
      simp at this
    rw [no b hb, no 97 (by decide)]
  · rw [if_neg hb]
def rowsPlain (l : List (List UInt8 × Int)) : Bool := l.all fun r => r.1 == spLetters || r.1.all (fun c => among c named && !isLetter c)
theorem rows_plain : ((List.range 34).all fun m => rowsPlain (rowsOf m)) = true := by decide +kernel
theorem tgt_cls (m : Nat) (hm : m ≤ 33) (b : UInt8) : tgt m b = tgt m (cls b) := by
  have hp := List.all_eq_true.1 rows_plain m (List.mem_range.2 (by omega))
  unfold tgt
  rw [find_congr (rowsOf m)]
  intro r hr
  have := List.all_eq_true.1 hp r hr
  rw [Bool.or_eq_true, beq_iff_eq] at this
  unfold rowHit
  rcases this with h | h
  · rw [h, among_letters, among_letters, letter_cls]
  · rw [among_plain b r.1 h]
/-- the two tables say the same -/
def agree (m : Nat) (c : UInt8) : Bool :=
  if tgt m c = -2 then decide (readAt m c = aroundOf m) && decide ((leads m c : Int) = tgt (aroundOf m) c) && decide (tgt (aroundOf m) c ≠ -1)
  else if tgt m c = -1 then decide (readAt m c = m) && decide (leads m c = 34) && decide (3 ≤ m) && decide (m ≤ 10)
  else decide (readAt m c = m) && decide ((leads m c : Int) = tgt m c)
theorem agree_tab : ((List.range 34).all fun m => m == 0 || (0 :: named).all fun c => agree m c) = true := by decide +kernel
theorem agree_all (m : Nat) (h1 : 1 ≤ m) (h2 : m ≤ 33) (b : UInt8) : agree m b = true := by
  have e : agree m b = agree m (cls b) := by
    have ha := aroundOf_le m
    unfold agree
    rw [tgt_cls m h2 b, readAt_cls, leads_cls, tgt_cls _ ha b]
  rw [e]
  have := (List.all_eq_true.1 agree_tab) m (List.mem_range.2 (by omega))
  simp only [Bool.or_eq_true, beq_iff_eq] at this
  rcases this with h | h
  · omega
  · exact List.all_eq_true.1 h _ (cls_mem b)

end Go.Proofs.YtfkhljmiehdgmaaGreatDoor.Pl

/-
  Plain laws: the program's modes are the document's. No program is named here.
-/
namespace Go.Proofs.YtfkhljmiehdgmaaGreatDoor.Pl

/-- a state of the program and a spot of the document that say the same, as far as modes go -/
structure Par (s : St) (p : Sp) : Prop where
  mode : p.mode = (s.mode : Int)
  tagName : s.mode = 3 → p.tag = s.name
  attrName : s.mode = 5 → p.attr = s.name
  inTag : 4 ≤ s.mode → s.mode ≤ 10 → elementOf p.tag = s.elem
  tag : 19 ≤ s.mode → p.tag = s.elem
  read : 19 ≤ s.mode → p.read = s.read
  esc : isStr s.mode = true → s.esc = decide (escOf (sheetly s.mode) p.run = 1)

theorem par_start : Par St.start Sp.start :=
  ⟨rfl, fun h => (by cases h), fun h => (by cases h), fun h => (by revert h; decide), fun h => (by revert h; decide), fun h => (by revert h; decide), fun h => (by revert h; decide)⟩
theorem first9_longer (n : List UInt8) (b : UInt8) (h : n.length ≤ 9) : first9 (n ++ [small b]) = longer n b := by
  unfold first9 longer
  by_cases q : n.length = 9
  · rw [if_pos q, if_pos (by simp; omega), List.take_append_of_le_length (by omega), List.take_of_length_le (by omega)]
  · rw [if_neg q, if_neg (by simp; omega)]
theorem contentOf_elementOf (n : List UInt8) : contentOf (elementOf n) = contentOf n := by
  unfold elementOf
  split
  · rfl
  · next h =>
    simp only [not_or] at h
    unfold contentOf
    rw [if_neg h.1, if_neg h.2.1, if_neg h.2.2.1, if_neg h.2.2.2]
    rfl
theorem elementOf_of (n : List UInt8) (h : contentOf n ≠ 1) : elementOf n = n := by
  unfold contentOf at h
  unfold elementOf
  split
  · rfl
  · next q =>
    simp only [not_or] at q
    rw [if_neg q.1, if_neg q.2.1, if_neg q.2.2.1, if_neg q.2.2.2] at h
    exact absurd rfl h
theorem contentOf_not (n : List UInt8) : isStr (contentOf n) = false := by
  unfold contentOf
  repeat' split
  all_goals decide
theorem small_nil (b : UInt8) : longer [] b = [small b] := rfl
theorem read_nil (n : List UInt8) (m : Int) (a r : List UInt8) (f : Int) : (Sp.mk m n a [] r f).read = 0 := by
  have key : ∀ k, rdFrom [] (spEnd n) k = 0 := by
    intro k
    induction k with
    | zero => rfl
    | succ k ih => unfold rdFrom; rw [ih]; simp [rdHit]
  exact key _
theorem within_par (n : List UInt8) (t : List UInt8) (h : elementOf t = n) : Par (within n) (if contentOf t = 1 then Sp.start else ⟨contentOf t, t, [], [], [], 0⟩) := by
  subst h
  unfold within
  rw [contentOf_elementOf]
  by_cases h : contentOf t = 1
  · rw [if_pos h, if_pos h]
    exact par_start
  · rw [if_neg h, if_neg h, elementOf_of t h]
    have hne := contentOf_not t
    refine ⟨rfl, fun q => ?_, fun q => ?_, fun q q' => elementOf_of t h, fun _ => rfl, fun _ => read_nil _ _ _ _ _, fun q => by rw [hne] at q; cases q⟩
    all_goals
      exfalso
      simp only at q
      revert q
      unfold contentOf
      repeat' split
      all_goals decide

theorem escStep_not (css : Bool) (left : Int) (b : UInt8) (h1 : left ≠ 1) (hb : b ≠ 92) : escStep css left b ≠ 1 := by
  unfold escStep
  rw [if_neg h1]
  repeat' split
  all_goals first | omega | exact absurd ‹_› hb
theorem escStep_back (css : Bool) (left : Int) (h1 : left ≠ 1) : escStep css left 92 = 1 := by
  unfold escStep
  rw [if_neg h1, if_neg (fun h => absurd h.2 (by decide)), if_pos rfl]
theorem escStep_after (css : Bool) (b : UInt8) : escStep css 1 b ≠ 1 := by
  unfold escStep
  rw [if_pos rfl]
  repeat' split
  all_goals decide
theorem escOf_snoc (css : Bool) (run : List UInt8) (b : UInt8) : escOf css (run ++ [b]) = escStep css (escOf css run) b := by simp [escOf]
theorem kept_str (m : Int) (run : List UInt8) (h : isStr m = true) : decide (escOf (sheetly m) (kept m run) = 1) = decide (escOf (sheetly m) run = 1) := by
  unfold kept
  rw [if_pos h]
  by_cases q : escOf (sheetly m) run = 0
  · rw [if_pos q, q]; rfl
  · rw [if_neg q]
theorem isStr_tab : ∀ m : Nat, m ≤ 33 → escapesTab.getD m false = isStr (m : Int) := by decide
theorem isStr_ge (m : Nat) (hm : m ≤ 33) (h : isStr (m : Int) = true) : 19 ≤ m := by
  have : ∀ m : Nat, m ≤ 33 → isStr (m : Int) = true → 19 ≤ m := by decide
  exact this m hm h

theorem led1_f (s : St) (t : Nat) (b : UInt8) (h : t ≠ 34) : (s.led1 t b).mode = t ∧ (s.led1 t b).elem = s.elem ∧ (s.led1 t b).read = s.read ∧ (s.led1 t b).esc = s.esc ∧ (t = 3 ∨ t = 5 → (s.led1 t b).name = longer s.name b) := by
  unfold St.led1
  by_cases c3 : t = 3
  · rw [if_pos c3]; exact ⟨rfl, rfl, rfl, rfl, fun _ => rfl⟩
  rw [if_neg c3]
  by_cases c5 : t = 5
  · rw [if_pos c5]; exact ⟨rfl, rfl, rfl, rfl, fun _ => rfl⟩
  rw [if_neg c5]
  have no : ¬ (t = 3 ∨ t = 5) := by omega
  by_cases c4 : t = 4 ∨ t = 10
  · rw [if_pos c4]; exact ⟨rfl, rfl, rfl, rfl, fun q => absurd q no⟩
  rw [if_neg c4, if_neg h]; exact ⟨rfl, rfl, rfl, rfl, fun q => absurd q no⟩
theorem led_f (s : St) (t : Nat) (b : UInt8) (h : t ≠ 34) : (s.led t b).mode = t ∧ (s.led t b).elem = (if t ≠ s.mode ∧ s.mode = 3 then elementOf s.name else s.elem) ∧ (s.led t b).read = s.read ∧ (s.led t b).esc = s.esc ∧ (t = 3 ∨ t = 5 → (s.led t b).name = longer (if t = s.mode then s.name else []) b) := by
  unfold St.led
  by_cases q : t = s.mode
  · rw [if_pos q, if_pos q, if_neg (fun z => z.1 q)]
    exact led1_f s t b h
  · rw [if_neg q, if_neg q]
    obtain ⟨a, c, d, e, f⟩ := led1_f s.named t b h
    refine ⟨a, c.trans ?_, d, e, f⟩
    unfold St.named
    by_cases w : s.mode = 3
    · have : t ≠ s.mode ∧ s.mode = 3 := ⟨q, w⟩
      rw [if_pos this, if_pos w]
    · have : ¬ (t ≠ s.mode ∧ s.mode = 3) := fun z => w z.2
      rw [if_neg this, if_neg w]

/-- led in the page's modes, or in an element's content; the state is one that the tables read in mode r -/
theorem led_par (m : Nat) (n e : List UInt8) (k : Int) (rd : Nat) (p : Sp) (b : UInt8) (hs : (St.mk m n e k rd false).Ok) (hp : Par (St.mk m n e k rd false) p) (r t : Nat) (PR : List UInt8) (PF : Int)
    (hPr : r = m → PR = p.run) (hb : isStr (m : Int) = true → b ≠ 92)
    (hsh : shape m b = true) (hr : readAt m b = r) (ht : leads m b = t)
    (hT : tgt r b = t ∨ (tgt r b = -1 ∧ t = 34 ∧ r = m)) :
    Par ((St.mk r n e k rd false).led t b) ((Sp.mk r p.tag p.attr p.inside PR PF).step1 r b) := by
  unfold shape at hsh
  simp only [Bool.and_eq_true, decide_eq_true_eq, Bool.or_eq_true] at hsh
  rw [hr, ht] at hsh
  obtain ⟨⟨⟨⟨⟨⟨⟨⟨⟨⟨r1, r2⟩, t1⟩, t2⟩, hf⟩, hrm⟩, h34⟩, h3⟩, h5⟩, h4⟩, hpp⟩ := hsh
  have g1 := hs.name
  have g2 := hs.named
  have g3 := hs.bare
  have g4 := hs.low
  have ghi := hs.hi
  have e3 := hp.tagName
  have e5 := hp.attrName
  have e4 := hp.inTag
  have e19 := hp.tag
  have erd := hp.read
  have ees := hp.esc
  simp only at g1 g2 g3 g4 ghi e3 e5 e4 e19 erd ees
  have hmt : (m < 19 ↔ (t < 19 ∨ t = 34)) ∧ (m < 19 ↔ r < 19) := by
    by_cases hm : m < 19
    · rw [if_pos hm] at hf
      simp only [Bool.and_eq_true, Bool.or_eq_true, decide_eq_true_eq] at hf
      omega
    · rw [if_neg hm] at hf
      simp only [Bool.and_eq_true, decide_eq_true_eq] at hf
      omega
  clear hf
  unfold Sp.step1
  simp only
  rcases hT with hT | ⟨hT, h34', hrm'⟩
  · have c34 : t ≠ 34 := by
      intro c34
      have := tgt_range r b r2
      rw [hT] at this
      subst c34
      rcases this with q | q | ⟨k, q, q'⟩ <;> omega
    rw [hT, if_neg (by omega)]
    obtain ⟨fm, fe, fr, fx, fn⟩ := led_f (St.mk r n e k rd false) t b c34
    simp only at fe fr fx fn
    generalize (St.mk r n e k rd false).led t b = S at fm fe fr fx fn
    have hr3 : t = 3 ∨ t = 5 ∨ t = 4 ∨ (6 ≤ t ∧ t ≤ 10) → r = m := by
      intro q
      rcases hrm with z | z
      · rcases z with z | z
        · exact z
        · exfalso
          have : ∀ c ∈ (0 :: named : List UInt8), tgt 1 c = 1 ∨ tgt 1 c = 2 := by decide
          have h1 := this _ (cls_mem b)
          rw [← tgt_cls 1 (by omega) b] at h1
          rw [z.2] at hT
          omega
      · omega
    refine ⟨?_, fun q => ?_, fun q => ?_, fun q q' => ?_, fun q => ?_, fun q => ?_, fun q => ?_⟩
    · rw [fm]
    · rw [fm] at q
      have hrm2 := hr3 (.inl q)
      rw [if_pos q] at h3
      simp only [Bool.or_eq_true, decide_eq_true_eq] at h3
      rw [fn (.inl q)]
      show (Sp.named ⟨(r : Int), p.tag, p.attr, p.inside, PR, PF⟩ r b t).tag = _
      unfold Sp.named
      rw [if_neg (by omega), if_pos (by omega)]
      show (if r = 2 then [small b] else first9 (p.tag ++ [small b])) = longer (if t = r then n else []) b
      rcases h3 with z | z
      · rw [if_pos (by omega), if_neg (by omega)]; rfl
      · rw [if_neg (by omega), if_pos (by omega)]
        rw [e3 z, first9_longer _ _ g1]
    · rw [fm] at q
      have hrm2 := hr3 (.inr (.inl q))
      rw [fn (.inr q)]
      show (Sp.named ⟨(r : Int), p.tag, p.attr, p.inside, PR, PF⟩ r b t).attr = _
      unfold Sp.named
      rw [if_neg (by omega), if_neg (by omega), if_pos (by omega)]
      show (if r = 5 then first9 (p.attr ++ [small b]) else [small b]) = longer (if t = r then n else []) b
      by_cases z : r = 5
      · rw [if_pos z, if_pos (by omega)]
        rw [e5 (by omega), first9_longer _ _ g1]
      · rw [if_neg z, if_neg (by omega)]; rfl
    · rw [fm] at q q'
      rw [fe]
      have hrm2 := hr3 (by omega)
      have h4 : 3 ≤ m ∧ m ≤ 10 := by
        by_cases z : t = 5
        · rw [if_pos z] at h5
          simp only [Bool.or_eq_true, decide_eq_true_eq] at h5
          omega
        · rw [if_pos (by omega)] at h4
          simpa only [Bool.and_eq_true, decide_eq_true_eq] using h4
      have htag : (Sp.named ⟨(r : Int), p.tag, p.attr, p.inside, PR, PF⟩ r b t).tag = p.tag := by
        unfold Sp.named
        rw [if_neg (by omega), if_neg (by omega)]
        split
        · rfl
        · split
          · rfl
          · rw [if_pos (by omega)]
      rw [htag]
      by_cases z : r = 3
      · have y : t ≠ r ∧ r = 3 := ⟨by omega, z⟩
        rw [if_pos y, e3 (by omega)]
      · have y : ¬ (t ≠ r ∧ r = 3) := fun y => z y.2
        rw [if_neg y]
        exact e4 (by omega) (by omega)
    · rw [fm] at q
      have z : ¬ (t ≠ r ∧ r = 3) := by omega
      rw [fe, if_neg z]
      show (Sp.named ⟨(r : Int), p.tag, p.attr, p.inside, PR, PF⟩ r b t).tag = _
      unfold Sp.named
      rw [if_pos (by omega)]
      exact e19 (by omega)
    · rw [fm] at q
      rw [fr]
      show rdFrom (Sp.named ⟨(r : Int), p.tag, p.attr, p.inside, PR, PF⟩ r b t).inside (spEnd (Sp.named ⟨(r : Int), p.tag, p.attr, p.inside, PR, PF⟩ r b t).tag) (spEnd (Sp.named ⟨(r : Int), p.tag, p.attr, p.inside, PR, PF⟩ r b t).tag).length = _
      unfold Sp.named
      rw [if_pos (by omega)]
      exact erd (by omega)
    · rw [fm] at q
      rw [fx, fm]
      show _ = decide (escOf (sheetly t) (if _ then _ else _) = 1)
      by_cases c : (t : Int) = r ∧ runs t = true
      · rw [if_pos c, kept_str _ _ q, escOf_snoc]
        have htr : t = r := by omega
        have hrm2 : r = m := by
          by_cases y : r = m
          · exact y
          · exfalso
            have hro : r = around m := by
              unfold readAt at hr
              split at hr
              · exact hr.symm
              · exact absurd hr.symm y
            have : ∀ m : Nat, m ≤ 33 → isStr (around m : Nat) = false := by decide
            rw [htr, hro, this m ghi] at q
            cases q
        have hst := ees (by rw [← hrm2, ← htr]; exact q)
        rw [eq_comm, decide_eq_false_iff_not]
        refine escStep_not _ _ _ ?_ (hb (by rw [← hrm2, ← htr]; exact q))
        rw [hPr hrm2, htr, hrm2]
        simpa using hst.symm
      · rw [if_neg c]
        rfl
  · subst h34' hrm'
    rw [hT, if_pos rfl]
    have hm := h34
    simp only [if_true, Bool.and_eq_true, decide_eq_true_eq] at hm
    have hl : (St.mk r n e k rd false).led 34 b = within (if r = 3 then elementOf n else e) := by
      unfold St.led
      have z : ¬ 34 = (St.mk r n e k rd false).mode := by show ¬ 34 = r; omega
      rw [if_neg z]
      rfl
    rw [hl]
    refine within_par _ _ ?_
    split
    · next c => rw [e3 c]
    · next c => exact e4 (by omega) (by omega)

/-- by the tables -/
theorem table_par (m : Nat) (n e : List UInt8) (k : Int) (rd : Nat) (p : Sp) (b : UInt8) (hs : (St.mk m n e k rd false).Ok) (hp : Par (St.mk m n e k rd false) p) (PR : List UInt8) (PF : Int) (PM : Int) (hM : PM = m) (hPr : PR = p.run) (hb : isStr (m : Int) = true → b ≠ 92) :
    Par ((St.mk m n e k rd false).table b) ((Sp.mk PM p.tag p.attr p.inside PR PF).step m b) := by
  subst hM
  rw [table_eq]
  have h1 := hs.lo
  have h2 := hs.hi
  simp only at h1 h2
  have ha := agree_all m h1 h2 b
  have hsh := shape_all m h1 h2 b
  unfold agree at ha
  unfold Sp.step
  by_cases c2 : tgt m b = -2
  · rw [if_pos c2] at ha ⊢
    simp only [Bool.and_eq_true, decide_eq_true_eq] at ha
    obtain ⟨⟨a1, a2⟩, a3⟩ := ha
    have ne : aroundOf m ≠ m := by
      intro q
      have := around_stays m b
      rw [q] at this
      exact this c2
    exact led_par m n e k rd p b hs hp (aroundOf m) (leads m b) [] PF (fun q => absurd q ne) hb hsh a1 rfl (.inl a2.symm) |> fun h => by rw [a1]; exact h
  · rw [if_neg c2] at ha ⊢
    by_cases c1 : tgt m b = -1
    · rw [if_pos c1] at ha
      simp only [Bool.and_eq_true, decide_eq_true_eq] at ha
      rw [ha.1.1.1]
      exact led_par m n e k rd p b hs hp m (leads m b) PR PF (fun _ => hPr) hb hsh ha.1.1.1 rfl (.inr ⟨c1, ha.1.1.2, rfl⟩)
    · rw [if_neg c1] at ha
      simp only [Bool.and_eq_true, decide_eq_true_eq] at ha
      rw [ha.1]
      exact led_par m n e k rd p b hs hp m (leads m b) PR PF (fun _ => hPr) hb hsh ha.1 rfl (.inl ha.2.symm)

/-- a backslash leads nowhere -/
theorem back_stays (m : Nat) (hm : m ≤ 33) (h : isStr (m : Int) = true) : tgt m 92 = m := by
  have : ∀ m : Nat, m ≤ 33 → isStr (m : Int) = true → tgt m 92 = m := by decide
  exact this m hm h

theorem next_par (s : St) (p : Sp) (b : UInt8) (hs : s.Ok) (hp : Par s p) : Par (s.behind b) (p.next b) := by
  obtain ⟨m, n, e, k, rd, x⟩ := s
  have h1 := hs.lo
  have h2 := hs.hi
  have hcalm := hs.calm
  have hmode := hp.mode
  simp only at h1 h2 hcalm hmode
  unfold Sp.next
  rw [hmode, Int.toNat_natCast]
  by_cases hm : 19 ≤ m
  · rw [if_pos hm]
    have het := hp.tag hm
    have her := hp.read hm
    simp only at het her
    have hread : ∀ PR PF, (Sp.mk m p.tag p.attr (tail12 (p.inside ++ [b])) PR PF).read = (St.mk m n e k rd x).readEnd b := by
      intro PR PF
      show rdFrom (tail12 (p.inside ++ [b])) (spEnd p.tag) (spEnd p.tag).length = _
      rw [het, read_next _ _ _ hs.elem]
      have hr : rdFrom p.inside (spEnd e) (spEnd e).length = rd := by
        have : p.read = rdFrom p.inside (spEnd e) (spEnd e).length := by unfold Sp.read; rw [het]
        rw [← this]; exact her
      rw [hr]
      rfl
    have hs' : (St.mk m n e k ((St.mk m n e k rd x).readEnd b) x).Ok :=
      ⟨h1, h2, hs.name, hs.named, hs.elem, hs.bare, fun hh => by simp only at hh; omega, hs.calm, readEnd_le _ b, hs.wrap, hs.high⟩
    have hpar : ∀ PF, Par (St.mk m n e k ((St.mk m n e k rd x).readEnd b) x) (Sp.mk m p.tag p.attr (tail12 (p.inside ++ [b])) p.run PF) := fun PF =>
      ⟨rfl, hp.tagName, hp.attrName, hp.inTag, hp.tag, fun _ => hread _ _, hp.esc⟩
    unfold Sp.element St.behind
    rw [if_pos hm]
    have hends : (St.mk m n e k rd x).ends b = true ↔ (p.read = (spEnd p.tag).length ∧ among b endBytes = true) := by
      unfold St.ends
      rw [Bool.and_eq_true, decide_eq_true_eq, her, het]
      rfl
    by_cases ce : p.read = (spEnd p.tag).length ∧ among b endBytes = true
    · rw [if_pos ce, if_pos (hends.2 ce)]
      unfold behindEnd
      by_cases c62 : b = 62
      · rw [if_pos c62, if_pos c62]; exact par_start
      · rw [if_neg c62, if_neg c62]
        refine ⟨rfl, fun h => (by simp at h), fun h => (by simp at h), fun h h' => (by simp at h'), fun h => (by simp at h), fun h => (by simp at h), fun h => (by revert h; decide)⟩
    · rw [if_neg ce, if_neg (fun h => ce (hends.1 h))]
      have htab := isStr_tab m h2
      generalize hrd' : (St.mk m n e k rd x).readEnd b = rd' at *
      show Par ((St.mk m n e k rd' x).quiet b) _
      unfold St.quiet
      simp only
      rw [htab]
      by_cases cs : isStr (m : Int) = true
      · have hesc := hp.esc cs
        simp only at hesc
        by_cases c1 : escOf (sheetly m) p.run = 1
        · have w : isStr (m : Int) = true ∧ escOf (sheetly m) p.run = 1 := ⟨cs, c1⟩
          rw [if_pos w]
          have hx : x = true := by rw [hesc, c1]; rfl
          subst hx
          rw [cs]
          show Par (St.mk m n e k rd' false) _
          refine ⟨rfl, hp.tagName, hp.attrName, hp.inTag, hp.tag, fun _ => hread _ _, fun _ => ?_⟩
          show false = _
          rw [eq_comm, decide_eq_false_iff_not, escOf_snoc, c1]
          exact escStep_after _ _
        · have w : ¬ (isStr (m : Int) = true ∧ escOf (sheetly m) p.run = 1) := fun h => c1 h.2
          have w19 : ¬ m = 19 := by intro h; subst h; revert cs; decide
          rw [if_neg w, if_neg w19]
          have hx : x = false := by rw [hesc]; exact decide_eq_false c1
          subst hx
          by_cases cb : b = 92
          · subst cb
            rw [cs]
            show Par (St.mk m n e k rd' true) _
            unfold Sp.step Sp.step1
            rw [back_stays m h2 cs, if_neg (by omega), if_neg (by omega)]
            have hnm : Sp.named ⟨(m : Int), p.tag, p.attr, tail12 (p.inside ++ [92]), p.run, p.far⟩ m 92 (m : Int) = ⟨0, p.tag, [], tail12 (p.inside ++ [92]), [], 0⟩ := by
              unfold Sp.named; rw [if_pos (by omega)]
            rw [hnm]
            have hruns : (m : Int) = (m : Int) ∧ runs (m : Int) = true := ⟨rfl, by unfold runs; rw [cs]; simp⟩
            rw [if_pos hruns]
            refine ⟨rfl, fun q => ?_, fun q => ?_, fun q q' => ?_, hp.tag, fun _ => hread [] 0, fun _ => ?_⟩
            · simp only at q; omega
            · simp only at q; omega
            · simp only at q'; omega
            · show true = _
              rw [kept_str _ _ cs, escOf_snoc, escStep_back _ _ c1]; rfl
          · have w2 : ¬ (isStr (m : Int) && (false || b == 92)) = true := by rw [cs]; simpa using cb
            rw [if_neg w2]
            exact table_par m n e k rd' ⟨m, p.tag, p.attr, tail12 (p.inside ++ [b]), p.run, p.far⟩ b hs' (hpar _) _ _ _ rfl rfl (fun _ => cb)
      · have cs' := Bool.eq_false_iff.2 cs
        have w : ¬ (isStr (m : Int) = true ∧ escOf (sheetly m) p.run = 1) := fun h => cs h.1
        have w2 : ¬ (isStr (m : Int) && (x || b == 92)) = true := by rw [cs']; simp
        rw [if_neg w, if_neg w2]
        have hx : x = false := hcalm (by rw [htab]; exact cs')
        subst hx
        by_cases w19 : m = 19
        · subst w19
          rw [if_pos rfl]
          have ha := agree_all 19 (by omega) (by omega) b
          have ht : tgt 19 b = 19 := rfl
          unfold agree at ha
          rw [ht, if_neg (by omega), if_neg (by omega)] at ha
          simp only [Bool.and_eq_true, decide_eq_true_eq] at ha
          rw [table_eq]
          show Par ((St.mk (readAt 19 b) n e k rd' false).led (leads 19 b) b) _
          rw [ha.1, show leads 19 b = 19 by omega]
          exact ⟨rfl, hp.tagName, hp.attrName, hp.inTag, hp.tag, fun _ => hread [] 0, fun h => by replace h : isStr 19 = true := h; cases h⟩
        · rw [if_neg w19]
          exact table_par m n e k rd' ⟨m, p.tag, p.attr, tail12 (p.inside ++ [b]), p.run, p.far⟩ b hs' (hpar _) _ _ _ rfl rfl (fun h => absurd h cs)
  · rw [if_neg hm]
    unfold St.behind
    rw [if_neg hm]
    unfold St.quiet
    have he : escapesTab.getD m false = false := esc_low m (by omega)
    have hx : x = false := hcalm he
    subst hx
    have w2 : ¬ (escapesTab.getD m false && (false || b == 92)) = true := by rw [he]; simp
    show Par (if (escapesTab.getD m false && (false || b == 92)) = true then _ else _) _
    rw [if_neg w2]
    exact table_par m n e k rd p b hs hp p.run p.far p.mode hmode rfl (fun h => by have := isStr_ge m h2 h; omega)

def spFrom (p : Sp) (l : List UInt8) : Sp := l.foldl Sp.next p
def spModes (p : Sp) : List UInt8 → List Int
  | [] => []
  | b :: l => (p.next b).mode :: spModes (p.next b) l
theorem modes_par (l : List UInt8) : ∀ (s : St) (p : Sp), s.Ok → Par s p → spModes p l = (modesFrom s l).map (fun (m : Nat) => (m : Int)) := by
  induction l with
  | nil => intro s p _ _; rfl
  | cons b l ih =>
    intro s p hs hp
    have h := next_par s p b hs hp
    show (p.next b).mode :: spModes _ l = ((s.behind b).mode : Int) :: (modesFrom (s.behind b) l).map (fun (m : Nat) => (m : Int))
    rw [h.mode, ih _ _ (behind_ok b hs) h]
/-- the document's modes are the program's -/
theorem modes_same (l : List UInt8) : spModes Sp.start l = (modes l).map (fun (m : Nat) => (m : Int)) := modes_par l _ _ start_ok par_start

end Go.Proofs.YtfkhljmiehdgmaaGreatDoor.Pl

/-
  Plain laws: what a byte does to a state of the program, whole, by cases. No program is named here.
-/
namespace Go.Proofs.YtfkhljmiehdgmaaGreatDoor.Pl

/-- how much of the element's end is read, behind the byte -/
def St.nowRead (s : St) (b : UInt8) : Nat := if 19 ≤ s.mode then s.readEnd b else s.read
theorem bx_end (x : Sx) (b : UInt8) (hm : 19 ≤ x.st.mode) (he : x.st.ends b = true) : x.behind b = ⟨⟨behindEnd b, [], [], 0, 0, false⟩, Mk.none⟩ := by
  have h1 : x.st.behind b = ⟨behindEnd b, [], [], 0, 0, false⟩ := by unfold St.behind; rw [if_pos hm, if_pos he]
  have h2 : behindMk x.st x.ma b = Mk.none := by unfold behindMk; rw [if_pos ⟨hm, he⟩]
  show Sx.mk (x.st.behind b) (behindMk x.st x.ma b) = _
  rw [h1, h2]
theorem bx_quiet (x : Sx) (b : UInt8) (he : ¬ (19 ≤ x.st.mode ∧ x.st.ends b = true)) : x.behind b = ⟨(St.mk x.st.mode x.st.name x.st.elem x.st.kind (x.st.nowRead b) x.st.esc).quiet b, quietMk x.st x.ma b⟩ := by
  have h1 : x.st.behind b = (St.mk x.st.mode x.st.name x.st.elem x.st.kind (x.st.nowRead b) x.st.esc).quiet b := by
    unfold St.behind St.nowRead
    by_cases hm : 19 ≤ x.st.mode
    · rw [if_pos hm, if_pos hm, if_neg (fun q => he ⟨hm, q⟩)]
    · rw [if_neg hm, if_neg hm]
  have h2 : behindMk x.st x.ma b = quietMk x.st x.ma b := by unfold behindMk; rw [if_neg he]
  show Sx.mk (x.st.behind b) (behindMk x.st x.ma b) = _
  rw [h1, h2]
theorem bx_esc (x : Sx) (b : UInt8) (he : ¬ (19 ≤ x.st.mode ∧ x.st.ends b = true)) (hq : (escapesTab.getD x.st.mode false && (x.st.esc || b == 92)) = true) :
    x.behind b = ⟨⟨x.st.mode, x.st.name, x.st.elem, x.st.kind, x.st.nowRead b, !x.st.esc⟩, escapedMk x.st.mode x.st.esc b⟩ := by
  rw [bx_quiet x b he]
  unfold St.quiet quietMk
  simp only
  rw [hq, if_pos rfl, if_pos rfl]
theorem bx_led (x : Sx) (b : UInt8) (r t : Nat) (he : ¬ (19 ≤ x.st.mode ∧ x.st.ends b = true)) (hq : (escapesTab.getD x.st.mode false && (x.st.esc || b == 92)) = false) (hr : readAt x.st.mode b = r) (ht : leads x.st.mode b = t) :
    x.behind b = Sx.led ⟨⟨r, x.st.name, x.st.elem, x.st.kind, x.st.nowRead b, x.st.esc⟩, x.ma⟩ t b := by
  rw [bx_quiet x b he]
  unfold St.quiet quietMk
  simp only
  rw [hq, if_neg (by simp), if_neg (by simp), table_eq]
  simp only
  rw [hr, ht]
  rfl
theorem at_a (m : Nat) (b : UInt8) (hT : ¬ stepOn m b = 0) : readAt m b = m ∧ leads m b = or3 (stepOn m b) (othersTab.getD m 0) m := by
  have h : readAt m b = m := by unfold readAt; rw [if_neg (fun q => hT q.1)]
  unfold leads
  rw [h]
  exact ⟨rfl, rfl⟩
theorem at_b (m : Nat) (b : UInt8) (hT : stepOn m b = 0) (hR : readInTab.getD m 0 = 0) : readAt m b = m ∧ leads m b = or3 0 (othersTab.getD m 0) m := by
  have h : readAt m b = m := by unfold readAt; rw [if_neg (fun q => q.2 hR)]
  unfold leads
  rw [h, hT]
  exact ⟨rfl, rfl⟩
theorem at_c (m R : Nat) (b : UInt8) (hT : stepOn m b = 0) (hR : readInTab.getD m 0 = R) (h0 : R ≠ 0) : readAt m b = R ∧ leads m b = or3 (stepOn R b) (othersTab.getD R 0) R := by
  have h : readAt m b = R := by unfold readAt around; rw [if_pos ⟨hT, by rw [hR]; exact h0⟩, hR]
  unfold leads
  rw [h]
  exact ⟨rfl, rfl⟩

end Go.Proofs.YtfkhljmiehdgmaaGreatDoor.Pl

/-
  Plain laws: what is marked stays small. No program is named here.
-/
namespace Go.Proofs.YtfkhljmiehdgmaaGreatDoor.Pl

structure MkOk (k : Mk) : Prop where
  hex : 0 ≤ k.hex ∧ k.hex ≤ 5
  pct : 0 ≤ k.pct ∧ k.pct ≤ 2
theorem mkOk_none : MkOk Mk.none := ⟨by decide, by decide⟩
theorem fewer_le (n : Int) (b : UInt8) (m : Int) (h : n ≤ m) (hm : 0 ≤ m) : 0 ≤ fewer n b ∧ fewer n b ≤ m := by
  unfold fewer
  split
  · next q => omega
  · omega
theorem stayedMk_ok (kind : Int) (m : Nat) (k : Mk) (b : UInt8) (h : MkOk k) : MkOk (stayedMk kind m k b) := by
  have h1 := h.hex
  have h2 := h.pct
  have f1 := fewer_le k.hex b 5 h1.2 (by omega)
  have f2 := fewer_le k.pct b 2 h2.2 (by omega)
  refine ⟨f1, ?_⟩
  show 0 ≤ (if _ then _ else _ : Int) ∧ (if _ then _ else _ : Int) ≤ 2
  split
  · split
    · omega
    · exact f2
  · omega
theorem escapedMk_ok (m : Nat) (e : Bool) (b : UInt8) : MkOk (escapedMk m e b) := by
  unfold escapedMk
  split
  · exact mkOk_none
  · split
    · next r hr =>
      have hm := List.mem_of_find?_eq_some hr
      have : ∀ r ∈ longTab, 0 ≤ r.2.2.2 ∧ r.2.2.2 ≤ 5 := by decide
      exact ⟨this r hm, by show (0 : Int) ≤ 0 ∧ (0 : Int) ≤ 2; omega⟩
    · exact mkOk_none
theorem ledMk_ok (s : St) (k : Mk) (t : Nat) (b : UInt8) (h : MkOk k) : MkOk (ledMk s k t b) := by
  unfold ledMk
  split
  · exact stayedMk_ok _ _ _ _ h
  · exact mkOk_none
theorem behindMk_ok (s : St) (k : Mk) (b : UInt8) (h : MkOk k) : MkOk (behindMk s k b) := by
  unfold behindMk
  split
  · exact mkOk_none
  · unfold quietMk
    split
    · exact escapedMk_ok _ _ _
    · exact ledMk_ok _ _ _ _ h
/-- what holds of a state whole -/
structure SxOk (x : Sx) : Prop where
  st : x.st.Ok
  ma : MkOk x.ma
theorem sxStart_ok : SxOk Sx.start := ⟨start_ok, mkOk_none⟩
theorem sxBehind_ok {x : Sx} (b : UInt8) (h : SxOk x) : SxOk (x.behind b) := ⟨behind_ok b h.st, behindMk_ok _ _ b h.ma⟩
theorem sxFrom_ok (l : List UInt8) : ∀ x : Sx, SxOk x → SxOk (sxFrom x l) := by
  induction l with
  | nil => intro x h; exact h
  | cons b l ih => intro x h; exact ih _ (sxBehind_ok b h)

end Go.Proofs.YtfkhljmiehdgmaaGreatDoor.Pl
