/-
  Several texts laid together: each opens with its own remark.
-/
import Derived.Test.YtjllpmobakfjnaaDoorMgA

/-
  Plain functions: where in a page one is: the program's states and the document's spots. No program is named here.
-/
namespace Go.Proofs.YtjllpmobakfjnaaDoor.Pl

/- the program's tables -/
abbrev Step := Nat × List UInt8 × Nat
def markupTab : List Step := [
  (1, [60], 2), (2, [97], 3), (2, [47], 11), (2, [33], 13), (3, [9, 10, 12, 13, 32, 47], 4), (3, [62], 34), (4, [9, 10, 12, 13, 32, 47], 4), (4, [62], 34),
  (5, [9, 10, 12, 13, 32], 6), (5, [61], 7), (5, [47], 4), (5, [62], 34), (6, [9, 10, 12, 13, 32], 6), (6, [61], 7), (6, [47], 4), (6, [62], 34),
  (7, [9, 10, 12, 13, 32], 7), (7, [34], 8), (7, [39], 9), (7, [62], 34), (8, [34], 4), (9, [39], 4), (10, [9, 10, 12, 13, 32], 4), (10, [62], 34),
  (11, [97], 12), (11, [62], 1), (12, [62], 1), (13, [45], 14), (13, [62], 1), (14, [45], 15), (14, [62], 1), (15, [45], 16), (16, [45], 17), (17, [62], 1), (17, [45], 17), (18, [62], 1)]
def contentTab : List Step := [
  (20, [34], 21), (20, [39], 22), (20, [96], 23), (20, [47], 24), (21, [34, 10], 20), (22, [39, 10], 20), (23, [96], 20), (24, [47], 25), (24, [42], 26), (25, [10], 20), (26, [42], 27),
  (27, [47], 20), (27, [42], 27), (28, [34], 29), (28, [39], 30), (28, [47], 31), (29, [34, 10], 28), (30, [39, 10], 28), (31, [42], 32), (32, [42], 33), (33, [47], 28), (33, [42], 33)]
def readInTab : List Nat := [0, 0, 1, 0, 0, 0, 0, 0, 0, 0, 0, 0, 0, 0, 0, 0, 0, 0, 0, 0, 0, 0, 0, 0, 20, 0, 0, 0, 0, 0, 0, 28, 0, 0]
def othersTab : List Nat := [0, 0, 0, 0, 5, 0, 5, 10, 0, 0, 0, 18, 0, 18, 18, 0, 15, 15, 0, 0, 0, 0, 0, 0, 0, 0, 0, 26, 0, 0, 0, 0, 0, 32]
def escapesTab : List Bool := [false, false, false, false, false, false, false, false, false, false, false, false, false, false, false, false, false, false, false, false, false, true, true, true, false, false, false, false, false, true, true, false, false, false]
def titleN : List UInt8 := [116, 105, 116, 108, 101]
def areaN : List UInt8 := [116, 101, 120, 116, 97, 114, 101, 97]
def scriptN : List UInt8 := [115, 99, 114, 105, 112, 116]
def styleN : List UInt8 := [115, 116, 121, 108, 101]
def elementTab : List (List UInt8 × Nat) := [(titleN, 19), (areaN, 19), (scriptN, 20), (styleN, 28)]
def attrTab : List (List UInt8 × Bool × Int) := [([104, 114, 101, 102], false, 1), ([115, 114, 99], false, 1), ([97, 99, 116, 105, 111, 110], false, 1), (styleN, false, 2), ([111, 110], true, 2)]

/- the program's functions -/
structure St where
  mode : Nat
  name : List UInt8
  elem : List UInt8
  kind : Int
  read : Nat
  esc : Bool
def hit (m : Nat) (b : UInt8) (r : Step) : Bool := decide (r.1 = m) && among b r.2.1
def lookup (l : List Step) (m : Nat) (b : UInt8) : Nat := match l.find? (hit m b) with
  | some r => r.2.2
  | none => 0
def asLetter (b : UInt8) : UInt8 := if isLetter b then 97 else b
def stepOn (m : Nat) (b : UInt8) : Nat := if m < 19 then lookup markupTab m (asLetter b) else lookup contentTab m (asLetter b)
def or3 (a b c : Nat) : Nat := if a ≠ 0 then a else if b ≠ 0 then b else c
def longer (n : List UInt8) (b : UInt8) : List UInt8 := if n.length = 9 then n else n ++ [small b]
def elementOf (n : List UInt8) : List UInt8 := if n = titleN ∨ n = areaN ∨ n = scriptN ∨ n = styleN then n else []
def fitsAttr (n : List UInt8) (r : List UInt8 × Bool × Int) : Bool := r.1 == n || (r.2.1 && r.1.isPrefixOf n)
def kindOf (n : List UInt8) : Int := match attrTab.find? (fitsAttr n) with
  | some r => r.2.2
  | none => 0
def contentOf (n : List UInt8) : Nat := if n = titleN then 19 else if n = areaN then 19 else if n = scriptN then 20 else if n = styleN then 28 else 1
def within (n : List UInt8) : St := if contentOf n = 1 then ⟨1, [], [], 0, 0, false⟩ else ⟨contentOf n, [], n, 0, 0, false⟩
def St.named (s : St) : St := ⟨s.mode, [], if s.mode = 3 then elementOf s.name else s.elem, if s.mode = 5 then kindOf s.name else s.kind, s.read, s.esc⟩
def St.led1 (s : St) (to : Nat) (b : UInt8) : St :=
  if to = 3 then { s with mode := to, name := longer s.name b }
  else if to = 5 then { s with mode := to, name := longer s.name b, kind := 0 }
  else if to = 4 ∨ to = 10 then { s with mode := to, kind := 0 }
  else if to = 34 then within s.elem
  else { s with mode := to }
def St.led (s : St) (to : Nat) (b : UInt8) : St := if to = s.mode then s.led1 to b else s.named.led1 to b
def St.ending (s : St) : List UInt8 := 60 :: 47 :: s.elem
def endBytes : List UInt8 := [9, 10, 12, 13, 32, 47, 62]
def St.ends (s : St) (b : UInt8) : Bool := decide (s.read = s.ending.length) && among b endBytes
def behindEnd (b : UInt8) : Nat := if b = 62 then 1 else 12
def St.readEnd (s : St) (b : UInt8) : Nat := if s.ending[s.read]? = some (small b) then s.read + 1 else if b = 60 then 1 else 0
def around (m : Nat) : Nat := readInTab.getD m 0
def St.table2 (s : St) (b : UInt8) : St := s.led (or3 (stepOn s.mode b) (othersTab.getD s.mode 0) s.mode) b
def St.table (s : St) (b : UInt8) : St := if stepOn s.mode b = 0 ∧ around s.mode ≠ 0 then ({ s with mode := around s.mode } : St).table2 b else s.table2 b
def St.quiet (s : St) (b : UInt8) : St := if escapesTab.getD s.mode false && (s.esc || b == 92) then { s with esc := !s.esc } else s.table b
def St.behind (s : St) (b : UInt8) : St :=
  if 19 ≤ s.mode then (if s.ends b then ⟨behindEnd b, [], [], 0, 0, false⟩ else ({ s with read := s.readEnd b } : St).quiet b) else s.quiet b
def St.start : St := ⟨1, [], [], 0, 0, false⟩
def modesFrom : St → List UInt8 → List Nat
  | _, [] => []
  | s, b :: l => (s.behind b).mode :: modesFrom (s.behind b) l
def stFrom (s : St) (l : List UInt8) : St := l.foldl St.behind s

theorem modesFrom_append (s : St) (l m : List UInt8) : modesFrom s (l ++ m) = modesFrom s l ++ modesFrom (stFrom s l) m := by
  induction l generalizing s with
  | nil => rfl
  | cons b l ih => simp only [List.cons_append, modesFrom, stFrom, List.foldl_cons]; rw [ih]; rfl
theorem modesFrom_len (s : St) (l : List UInt8) : (modesFrom s l).length = l.length := by
  induction l generalizing s with
  | nil => rfl
  | cons b l ih => simp [modesFrom, ih]
theorem stFrom_snoc (s : St) (l : List UInt8) (b : UInt8) : stFrom s (l ++ [b]) = (stFrom s l).behind b := by simp [stFrom]
theorem modesFrom_snoc (s : St) (l : List UInt8) (b : UInt8) : modesFrom s (l ++ [b]) = modesFrom s l ++ [((stFrom s l).behind b).mode] := by
  rw [modesFrom_append]; rfl

/- what holds of a state that is come to -/
def nameOk (n : List UInt8) : Prop := n = [] ∨ n = titleN ∨ n = areaN ∨ n = scriptN ∨ n = styleN
structure St.Ok (s : St) : Prop where
  lo : 1 ≤ s.mode
  hi : s.mode ≤ 33
  name : s.name.length ≤ 9
  named : s.mode ≠ 3 → s.mode ≠ 5 → s.name = []
  elem : nameOk s.elem
  bare : s.mode < 4 ∨ (10 < s.mode ∧ s.mode < 19) → s.elem = [] ∧ s.kind = 0
  low : s.mode < 19 → s.read = 0
  calm : escapesTab.getD s.mode false = false → s.esc = false
  read : s.read ≤ s.ending.length
  wrap : -3 ≤ s.kind ∧ s.kind ≤ 3
  high : 19 ≤ s.mode → s.elem ≠ [] ∧ s.kind = 0

theorem tab_here {α : Type} {l : List α} (f : α → Bool) (k : Nat) (x : α) (hx : l[k]? = some x) (hn : (l.take k).find? f = none) (h : f x = true) : l.find? f = some x := by
  obtain ⟨hk, rfl⟩ := List.getElem?_eq_some_iff.1 hx
  have e : l = l.take k ++ l[k] :: l.drop (k + 1) := by rw [← List.drop_eq_getElem_cons hk, List.take_append_drop]
  have e2 : l.find? f = (l.take k ++ l[k] :: l.drop (k + 1)).find? f := congrArg (List.find? f) e
  rw [e2, List.find?_append, hn, List.find?_cons_of_pos h]; rfl
theorem tab_next {α : Type} {l : List α} (f : α → Bool) (k : Nat) (x : α) (hx : l[k]? = some x) (hn : (l.take k).find? f = none) (h : f x = false) : (l.take (k + 1)).find? f = none := by
  obtain ⟨hk, rfl⟩ := List.getElem?_eq_some_iff.1 hx
  rw [List.take_succ_eq_append_getElem hk, List.find?_append, hn, List.find?_cons_of_neg (by simp [h])]; rfl
theorem kindOf_here (n : List UInt8) (k : Nat) (x : List UInt8 × Bool × Int) (hx : attrTab[k]? = some x) (hn : (attrTab.take k).find? (fitsAttr n) = none) (h : fitsAttr n x = true) : kindOf n = x.2.2 := by
  unfold kindOf; rw [tab_here _ k x hx hn h]
theorem kindOf_none (n : List UInt8) (hn : (attrTab.take 5).find? (fitsAttr n) = none) : kindOf n = 0 := by
  unfold kindOf; rw [show attrTab = attrTab.take 5 from rfl, hn]


end Go.Proofs.YtjllpmobakfjnaaDoor.Pl

/-
  Plain laws: what a byte does to a state of the program, by cases. No program is named here.
-/
namespace Go.Proofs.YtjllpmobakfjnaaDoor.Pl

theorem quiet_a (s : St) (b : UInt8) (hq : (escapesTab.getD s.mode false && (s.esc || b == 92)) = false) (hT : ¬ stepOn s.mode b = 0) : s.quiet b = s.led (or3 (stepOn s.mode b) (othersTab.getD s.mode 0) s.mode) b := by
  unfold St.quiet St.table St.table2
  rw [hq, if_neg (by simp), if_neg (fun h => hT h.1)]
theorem quiet_b (s : St) (b : UInt8) (hq : (escapesTab.getD s.mode false && (s.esc || b == 92)) = false) (hT : stepOn s.mode b = 0) (hR : readInTab.getD s.mode 0 = 0) : s.quiet b = s.led (or3 0 (othersTab.getD s.mode 0) s.mode) b := by
  unfold St.quiet St.table St.table2
  rw [hq, if_neg (by simp), if_neg (fun h => h.2 hR), hT]
theorem quiet_c (s : St) (b : UInt8) (R : Nat) (hq : (escapesTab.getD s.mode false && (s.esc || b == 92)) = false) (hT : stepOn s.mode b = 0) (hR : readInTab.getD s.mode 0 = R) (h0 : R ≠ 0) : s.quiet b = (St.mk R s.name s.elem s.kind s.read s.esc).led (or3 (stepOn R b) (othersTab.getD R 0) R) b := by
  unfold St.quiet St.table St.table2
  rw [hq, if_neg (by simp)]
  unfold around
  rw [hR, if_pos ⟨hT, h0⟩]
theorem quiet_e (s : St) (b : UInt8) (hq : (escapesTab.getD s.mode false && (s.esc || b == 92)) = true) : s.quiet b = ⟨s.mode, s.name, s.elem, s.kind, s.read, !s.esc⟩ := by
  unfold St.quiet
  rw [hq, if_pos rfl]

end Go.Proofs.YtjllpmobakfjnaaDoor.Pl

/-
  Plain laws: what holds of every state that is come to. No program is named here.
-/
namespace Go.Proofs.YtjllpmobakfjnaaDoor.Pl

/-- the mode in which a byte is read by the tables, and the mode to which it leads there -/
def readAt (m : Nat) (b : UInt8) : Nat := if stepOn m b = 0 ∧ around m ≠ 0 then around m else m
def leads (m : Nat) (b : UInt8) : Nat := or3 (stepOn (readAt m b) b) (othersTab.getD (readAt m b) 0) (readAt m b)
theorem table_eq (s : St) (b : UInt8) : s.table b = (St.mk (readAt s.mode b) s.name s.elem s.kind s.read s.esc).led (leads s.mode b) b := by
  unfold St.table St.table2 leads readAt
  by_cases h : stepOn s.mode b = 0 ∧ around s.mode ≠ 0
  · rw [if_pos h, if_pos h]
  · rw [if_neg h, if_neg h]

/-- what the tables' rows are like, of a mode and a byte -/
def shape (m : Nat) (b : UInt8) : Bool :=
  let r := readAt m b
  let t := leads m b
  decide (1 ≤ r) && decide (r ≤ 33) && decide (1 ≤ t) && decide (t ≤ 34)
  && (if m < 19 then decide (r < 19) && (decide (t < 19) || decide (t = 34)) else decide (19 ≤ r) && decide (19 ≤ t) && decide (t ≤ 33))
  && (decide (r = m) || (decide (m = 2) && decide (r = 1)) || decide (24 ≤ m))
  && (if t = 34 then decide (3 ≤ m) && decide (m ≤ 10) else true)
  && (if t = 3 then decide (m = 2) || decide (m = 3) else true)
  && (if t = 5 then decide (m = 4) || decide (m = 5) || decide (m = 6) else true)
  && (if t = 4 ∨ (6 ≤ t ∧ t ≤ 10) then decide (3 ≤ m) && decide (m ≤ 10) else true)
  && (if t = 1 ∨ t = 2 ∨ (11 ≤ t ∧ t ≤ 18) then decide (m = 1) || decide (m = 2) || (decide (11 ≤ m) && decide (m ≤ 18)) else true)

/-- the bytes that the rows name -/
def named : List UInt8 := [9, 10, 12, 13, 32, 33, 34, 39, 42, 45, 47, 60, 61, 62, 96, 97]
/-- a byte, as far as the tables tell it from others -/
def cls (b : UInt8) : UInt8 := if among (asLetter b) named then asLetter b else 0
theorem among_mem {b : UInt8} {l : List UInt8} : among b l = true ↔ b ∈ l := by
  unfold among
  rw [List.any_eq_true]
  constructor
  · rintro ⟨x, hx, e⟩
    rw [beq_iff_eq] at e
    exact e ▸ hx
  · intro h
    exact ⟨b, h, by simp⟩
theorem cls_mem (b : UInt8) : cls b ∈ 0 :: named := by
  unfold cls
  split
  · rename_i h
    exact List.mem_cons_of_mem _ (among_mem.1 h)
  · exact List.mem_cons_self
theorem asLetter_cls (b : UInt8) : asLetter (cls b) = cls b := by
  have : ∀ c ∈ (0 :: named : List UInt8), asLetter c = c := by decide
  exact this _ (cls_mem b)
/-- a set of bytes that are all named, and no letter but a -/
theorem among_cls (b : UInt8) (l : List UInt8) (hl : l.all (fun c => among c named) = true) : among (asLetter b) l = among (cls b) l := by
  unfold cls
  split
  · rfl
  · rename_i h
    rw [Bool.eq_iff_iff, among_mem, among_mem]
    constructor
    · intro hb
      exact absurd (List.all_eq_true.1 hl _ hb) h
    · intro h0
      exact absurd (List.all_eq_true.1 hl _ h0) (by decide)
theorem find_congr {α : Type} {f g : α → Bool} : ∀ (l : List α), (∀ x ∈ l, f x = g x) → l.find? f = l.find? g
  | [], _ => rfl
  | x :: l, h => by
    rw [List.find?_cons, List.find?_cons, h x List.mem_cons_self, find_congr l (fun y hy => h y (List.mem_cons_of_mem _ hy))]
theorem lookup_cls (m : Nat) (b : UInt8) (l : List Step) (hl : l.all (fun r => r.2.1.all (fun c => among c named)) = true) : lookup l m (asLetter b) = lookup l m (asLetter (cls b)) := by
  unfold lookup
  rw [asLetter_cls, find_congr l]
  intro r hr
  unfold hit
  rw [among_cls b r.2.1 (List.all_eq_true.1 hl r hr)]
theorem stepOn_cls (m : Nat) (b : UInt8) : stepOn m b = stepOn m (cls b) := by
  unfold stepOn
  rw [lookup_cls m b markupTab (by decide +kernel), lookup_cls m b contentTab (by decide +kernel)]
theorem readAt_cls (m : Nat) (b : UInt8) : readAt m b = readAt m (cls b) := by unfold readAt; rw [stepOn_cls]
theorem leads_cls (m : Nat) (b : UInt8) : leads m b = leads m (cls b) := by unfold leads; rw [readAt_cls, stepOn_cls]
theorem shape_cls (m : Nat) (b : UInt8) : shape m b = shape m (cls b) := by
  unfold shape
  rw [readAt_cls, leads_cls]
theorem shape_tab : ((List.range 34).all fun m => m == 0 || (0 :: named).all fun c => shape m c) = true := by decide +kernel
theorem shape_all (m : Nat) (h1 : 1 ≤ m) (h2 : m ≤ 33) (b : UInt8) : shape m b = true := by
  rw [shape_cls]
  have := (List.all_eq_true.1 shape_tab) m (List.mem_range.2 (by omega))
  simp only [Bool.or_eq_true, beq_iff_eq] at this
  rcases this with h | h
  · omega
  · exact List.all_eq_true.1 h _ (cls_mem b)

end Go.Proofs.YtjllpmobakfjnaaDoor.Pl

/-
  Plain functions: the program's states whole: what counts besides the mode (references, escapes, percents, how far a link is). No program is named here.
-/
namespace Go.Proofs.YtjllpmobakfjnaaDoor.Pl

def hexB : List UInt8 := [48, 49, 50, 51, 52, 53, 54, 55, 56, 57, 97, 98, 99, 100, 101, 102, 65, 66, 67, 68, 69, 70]
def longTab : List (Nat × Nat × List UInt8 × Int) := [(21, 23, [120], 2), (21, 23, [117], 4), (29, 30, hexB, 5)]
/-- what is marked besides -/
structure Mk where
  ref : Bool
  hex : Int
  pct : Int
  far : Int
def Mk.none : Mk := ⟨false, 0, 0, 0⟩
/-- a state of the program -/
structure Sx where
  st : St
  ma : Mk
def fewer (left : Int) (b : UInt8) : Int := if 0 < left ∧ among b hexB = true then left - 1 else 0
def inRef (b : UInt8) : Bool := isLetter b || (isDigit b || b == 35)
def writtenAs (m : Nat) : Int := if m = 1 ∨ m = 19 ∨ m = 8 ∨ m = 9 then 1 else if m = 21 ∨ m = 22 then 4 else if m = 29 ∨ m = 30 then 5 else 0
def inLink (kind : Int) (m : Nat) : Bool := kind == 1 && (m == 8 || m == 9)
def deciders : List UInt8 := [47, 63, 35, 58]
def makesScheme (kind : Int) (m : Nat) (far : Int) (b : UInt8) : Bool := b == 58 && (inLink kind m && far == 2)
def fartherMk (kind : Int) (m : Nat) (far : Int) (b : UInt8) : Int := if makesScheme kind m far b = true then 2 else if among b deciders = true then 3 else if far = 0 then 1 else far
/-- behind a byte by which one stays in the mode -/
def stayedMk (kind : Int) (m : Nat) (k : Mk) (b : UInt8) : Mk :=
  ⟨if writtenAs m = 1 then b == 38 || (k.ref && inRef b) else false, fewer k.hex b, if inLink kind m = true then (if b = 37 then 2 else fewer k.pct b) else 0, if inLink kind m = true then fartherMk kind m k.far b else 0⟩
def longHit (m : Nat) (b : UInt8) (r : Nat × Nat × List UInt8 × Int) : Bool := decide (r.1 ≤ m) && (decide (m ≤ r.2.1) && among b r.2.2.1)
/-- behind a backslash that counts, or just behind one -/
def escapedMk (m : Nat) (esc : Bool) (b : UInt8) : Mk := if esc = false then Mk.none else match longTab.find? (longHit m b) with
  | some r => ⟨false, r.2.2.2, 0, 0⟩
  | Option.none => Mk.none
def ledMk (s : St) (k : Mk) (t : Nat) (b : UInt8) : Mk := if t = s.mode ∧ t ≠ 34 then stayedMk s.kind s.mode k b else Mk.none
def Sx.led (x : Sx) (t : Nat) (b : UInt8) : Sx := ⟨x.st.led t b, ledMk x.st x.ma t b⟩
/-- by the tables, or an escape -/
def quietMk (s : St) (k : Mk) (b : UInt8) : Mk := if (escapesTab.getD s.mode false && (s.esc || b == 92)) = true then escapedMk s.mode s.esc b else ledMk ⟨readAt s.mode b, s.name, s.elem, s.kind, s.read, s.esc⟩ k (leads s.mode b) b
def behindMk (s : St) (k : Mk) (b : UInt8) : Mk := if 19 ≤ s.mode ∧ s.ends b = true then Mk.none else quietMk s k b
def Sx.behind (x : Sx) (b : UInt8) : Sx := ⟨x.st.behind b, behindMk x.st x.ma b⟩
def Sx.start : Sx := ⟨St.start, Mk.none⟩
def sxFrom (x : Sx) (l : List UInt8) : Sx := l.foldl Sx.behind x
theorem sxFrom_st (l : List UInt8) : ∀ x : Sx, (sxFrom x l).st = stFrom x.st l := by
  induction l with
  | nil => intro x; rfl
  | cons b l ih => intro x; exact ih (x.behind b)
theorem sxFrom_snoc (x : Sx) (l : List UInt8) (b : UInt8) : sxFrom x (l ++ [b]) = (sxFrom x l).behind b := by simp [sxFrom]

end Go.Proofs.YtjllpmobakfjnaaDoor.Pl

/-
  Plain laws: what holds of every state that is come to. No program is named here.
-/
namespace Go.Proofs.YtjllpmobakfjnaaDoor.Pl

theorem nameOk_elementOf (n : List UInt8) : nameOk (elementOf n) := by
  unfold elementOf nameOk
  split
  · rename_i h
    exact .inr h
  · exact .inl rfl
theorem nameOk_len {n : List UInt8} (h : nameOk n) : n.length ≤ 8 := by
  rcases h with rfl | rfl | rfl | rfl | rfl <;> decide
theorem longer_len (n : List UInt8) (b : UInt8) (h : n.length ≤ 9) : (longer n b).length ≤ 9 := by
  unfold longer
  split
  · exact h
  · rw [List.length_append]; simp; omega
theorem kindOf_wrap (n : List UInt8) : 0 ≤ kindOf n ∧ kindOf n ≤ 3 := by
  unfold kindOf
  cases h : attrTab.find? (fitsAttr n) with
  | none => exact ⟨by decide, by decide⟩
  | some r =>
    have hm := List.mem_of_find?_eq_some h
    have : ∀ r ∈ attrTab, 0 ≤ r.2.2 ∧ r.2.2 ≤ 3 := by decide
    exact this r hm
theorem esc_low : ∀ m, m < 19 → escapesTab.getD m false = false := by decide
theorem esc_read : ∀ m, m ≤ 33 → escapesTab.getD m false = true → readInTab.getD m 0 = 0 := by decide
theorem readIn_low : ∀ m, m < 19 → readInTab.getD m 0 ≠ 0 → m = 2 := by decide
theorem readIn_fix : ∀ m, m ≤ 33 → readInTab.getD (readInTab.getD m 0) 0 = 0 ∧ readInTab.getD m 0 ≤ 33 := by decide
theorem readEnd_le (s : St) (b : UInt8) : s.readEnd b ≤ s.ending.length := by
  unfold St.readEnd
  split
  · rename_i h
    have := (List.getElem?_eq_some_iff.1 h).1
    omega
  · split
    · simp [St.ending]
    · exact Nat.zero_le _
theorem within_ok {n : List UInt8} (h : nameOk n) : (within n).Ok := by
  rcases h with rfl | rfl | rfl | rfl | rfl
  all_goals
    refine ⟨by decide, by decide, by decide, fun _ _ => by decide, ?_, by decide, by decide, by decide, by decide, by decide, by decide⟩
    unfold nameOk; decide
theorem start_ok : St.start.Ok := by
  refine ⟨by decide, by decide, by decide, fun _ _ => rfl, .inl rfl, fun _ => ⟨rfl, rfl⟩, fun _ => rfl, fun _ => rfl, by decide, by decide, fun h => by revert h; decide⟩
theorem ended_ok (b : UInt8) : (St.mk (behindEnd b) [] [] 0 0 false).Ok := by
  unfold behindEnd
  split
  all_goals
    refine ⟨by decide, by decide, by decide, fun _ _ => rfl, .inl rfl, fun _ => ⟨rfl, rfl⟩, fun _ => rfl, fun _ => rfl, by decide, by decide, fun h => by revert h; decide⟩

theorem table_ok {s : St} (b : UInt8) (h : s.Ok) (hesc : s.esc = false) : (s.table b).Ok := by
  rw [table_eq]
  have hs := shape_all s.mode h.lo h.hi b
  have hn := h.named
  unfold shape at hs
  simp only [Bool.and_eq_true, decide_eq_true_eq, Bool.or_eq_true] at hs
  generalize readAt s.mode b = r at hs ⊢
  generalize leads s.mode b = t at hs ⊢
  obtain ⟨⟨⟨⟨⟨⟨⟨⟨⟨⟨r1, r2⟩, t1⟩, t2⟩, hf⟩, hr⟩, h34⟩, h3⟩, h5⟩, h4⟩, hp⟩ := hs
  obtain ⟨m, n, e, k, rd, x⟩ := s
  simp only at *
  subst hesc
  have g1 := h.name
  have g2 := h.elem
  have g3 := h.bare
  have g4 := h.low
  have g6 := h.read
  have g7 := h.wrap
  have g8 := h.high
  simp only at g1 g2 g3 g4 g6 g7 g8
  have hZ : ∃ zn ze zk, (St.mk r n e k rd false).led t b = (St.mk r zn ze zk rd false).led1 t b ∧ zn.length ≤ 9 ∧ (t ≠ 3 → t ≠ 5 → zn = []) ∧ nameOk ze ∧ -3 ≤ zk ∧ zk ≤ 3 ∧ (r ≠ 3 ∨ t = r → ze = e) ∧ (r ≠ 5 ∨ t = r → zk = k) := by
    by_cases ht : t = r
    · refine ⟨n, e, k, ?_, g1, ?_, g2, g7.1, g7.2, fun _ => rfl, fun _ => rfl⟩
      · unfold St.led; rw [if_pos ht]
      · intro a b
        refine hn ?_ ?_ <;> omega
    · refine ⟨[], if r = 3 then elementOf n else e, if r = 5 then kindOf n else k, ?_, by simp, fun _ _ => rfl, ?_, ?_, ?_, ?_, ?_⟩
      · unfold St.led; rw [if_neg ht]; rfl
      · split
        · exact nameOk_elementOf n
        · exact g2
      · split
        · have := kindOf_wrap n; omega
        · exact g7.1
      · split
        · have := kindOf_wrap n; omega
        · exact g7.2
      · intro hh
        rw [if_neg (by omega)]
      · intro hh
        rw [if_neg (by omega)]
  obtain ⟨zn, ze, zk, hled, z1, z2, z3, z4, z5, z6, z7⟩ := hZ
  rw [hled]
  unfold St.led1
  have hread : m < 19 → rd = 0 := g4
  by_cases c3 : t = 3
  · rw [if_pos c3]
    simp only [c3, if_true, Bool.or_eq_true, decide_eq_true_eq] at h3
    have hb := g3 (by omega)
    refine ⟨by simp only; omega, by simp only; omega, longer_len zn b z1, fun hh => absurd c3 hh, z3, fun _ => ?_, fun _ => g4 (by omega), fun _ => rfl, by have := g4 (by omega); simp only; omega, ⟨z4, z5⟩, fun hh => by simp only at hh; omega⟩
    refine ⟨(z6 ?_).trans hb.1, (z7 (by omega)).trans hb.2⟩
    omega
  rw [if_neg c3]
  by_cases c5 : t = 5
  · rw [if_pos c5]
    simp only [c5, if_true, Bool.or_eq_true, decide_eq_true_eq] at h5
    refine ⟨by simp only; omega, by simp only; omega, longer_len zn b z1, fun _ hh => absurd c5 hh, z3, fun hh => by simp only at hh; omega, fun _ => g4 (by omega), fun _ => rfl, by have := g4 (by omega); simp only; omega, ⟨by simp only; omega, by simp only; omega⟩, fun hh => by simp only at hh; omega⟩
  rw [if_neg c5]
  have hzn := z2 c3 c5
  by_cases c4 : t = 4 ∨ t = 10
  · rw [if_pos c4]
    rw [if_pos (by omega)] at h4
    simp only [Bool.and_eq_true, decide_eq_true_eq] at h4
    refine ⟨by simp only; omega, by simp only; omega, z1, fun _ _ => hzn, z3, fun hh => by simp only at hh; omega, fun _ => g4 (by omega), fun _ => rfl, by have := g4 (by omega); simp only; omega, ⟨by simp only; omega, by simp only; omega⟩, fun hh => by simp only at hh; omega⟩
  rw [if_neg c4]
  by_cases c34 : t = 34
  · rw [if_pos c34]
    exact within_ok z3
  rw [if_neg c34]
  have hmt : (m < 19 ↔ t < 19) ∧ (m < 19 ↔ r < 19) := by
    by_cases hm : m < 19
    · rw [if_pos hm] at hf
      simp only [Bool.and_eq_true, Bool.or_eq_true, decide_eq_true_eq] at hf
      omega
    · rw [if_neg hm] at hf
      simp only [Bool.and_eq_true, decide_eq_true_eq] at hf
      omega
  refine ⟨by simp only; omega, by simp only; omega, z1, fun _ _ => hzn, z3, fun hh => ?_, fun hh => g4 (by simp only at hh; omega), fun _ => rfl, ?_, ⟨z4, z5⟩, fun hh => ?_⟩
  · simp only at hh
    rw [if_pos (by omega)] at hp
    simp only [Bool.and_eq_true, Bool.or_eq_true, decide_eq_true_eq] at hp
    have hb := g3 (by omega)
    exact ⟨(z6 (by omega)).trans hb.1, (z7 (by omega)).trans hb.2⟩
  · by_cases hm : m < 19
    · have := g4 hm; simp only; omega
    · have := z6 (by omega)
      subst this
      exact g6
  · simp only at hh
    have hb := g8 (by omega)
    exact ⟨by rw [show ze = e from z6 (by omega)]; exact hb.1, (z7 (by omega)).trans hb.2⟩

theorem behind_ok {s : St} (b : UInt8) (h : s.Ok) : (s.behind b).Ok := by
  have quiet : ∀ s : St, s.Ok → (s.quiet b).Ok := by
    intro s h
    unfold St.quiet
    split
    · rename_i hq
      simp only [Bool.and_eq_true] at hq
      exact ⟨h.lo, h.hi, h.name, h.named, h.elem, h.bare, h.low, fun hh => (by simp only at hh; rw [hq.1] at hh; cases hh), h.read, h.wrap, h.high⟩
    · rename_i hq
      refine table_ok b h ?_
      by_cases he : escapesTab.getD s.mode false = true
      · rw [he, Bool.true_and] at hq
        simp only [Bool.or_eq_true, not_or, Bool.not_eq_true] at hq
        exact hq.1
      · exact h.calm (Bool.eq_false_iff.2 he)
  unfold St.behind
  split
  · split
    · exact ended_ok b
    · refine quiet _ ⟨h.lo, h.hi, h.name, h.named, h.elem, h.bare, fun hh => ?_, h.calm, readEnd_le s b, h.wrap, h.high⟩
      simp only at hh
      omega
  · exact quiet _ h
theorem stFrom_ok {s : St} (h : s.Ok) (l : List UInt8) : (stFrom s l).Ok := by
  induction l generalizing s with
  | nil => exact h
  | cons b l ih => exact ih (behind_ok b h)

end Go.Proofs.YtjllpmobakfjnaaDoor.Pl

/-
  Plain laws: the modes of a beginning; what stands behind a page that ends in Text. No program is named here.
-/
namespace Go.Proofs.YtjllpmobakfjnaaDoor.Pl

/-- the modes of a page -/
def modes (l : List UInt8) : List Nat := modesFrom St.start l
theorem modes_len (l : List UInt8) : (modes l).length = l.length := modesFrom_len _ _
theorem text_start {s : St} (h : s.Ok) (hm : s.mode = 1) : s = St.start := by
  obtain ⟨m, n, e, k, r, x⟩ := s
  have h1 := h.named
  have h2 := h.bare
  have h3 := h.low
  have h4 := h.calm
  simp only at hm h1 h2 h3 h4
  subst hm
  obtain ⟨rfl, rfl⟩ := h2 (.inl (by omega))
  obtain rfl := h1 (by omega) (by omega)
  obtain rfl := h3 (by omega)
  obtain rfl := h4 (by decide)
  rfl
theorem modes_begin (a b : List UInt8) (i : Nat) (hi : i < a.length) : (modes (a ++ b)).getD i 0 = (modes a).getD i 0 := by
  unfold modes
  rw [modesFrom_append, List.getD_eq_getElem?_getD, List.getD_eq_getElem?_getD, List.getElem?_append_left (by rw [modesFrom_len]; exact hi)]
theorem mode_at (l : List UInt8) (i : Nat) (hi : i < l.length) : (modes l).getD i 0 = (stFrom St.start (l.take (i + 1))).mode := by
  unfold modes
  have e : l = l.take (i + 1) ++ l.drop (i + 1) := (List.take_append_drop _ _).symm
  have e2 : l.take (i + 1) = l.take i ++ [l[i]] := List.take_succ_eq_append_getElem hi
  rw [List.getD_eq_getElem?_getD]
  conv => lhs; rw [e, modesFrom_append, e2, modesFrom_snoc, List.append_assoc]
  rw [List.getElem?_append_right (by rw [modesFrom_len, List.length_take]; omega), modesFrom_len, List.length_take]
  rw [show i - min i l.length = 0 by omega, e2, stFrom_snoc]
  rfl
theorem mode_range (l : List UInt8) (i : Nat) (hi : i < l.length) : 1 ≤ (modes l).getD i 0 ∧ (modes l).getD i 0 ≤ 33 := by
  rw [mode_at l i hi]
  have := stFrom_ok start_ok (l.take (i + 1))
  exact ⟨this.lo, this.hi⟩
theorem modes_behind (a b : List UInt8) (i : Nat) (ha : a.length = 0 ∨ (modes a).getD (a.length - 1) 0 = 1) : (modes (a ++ b)).getD (a.length + i) 0 = (modes b).getD i 0 := by
  have hs : stFrom St.start a = St.start := by
    rcases ha with h | h
    · rw [List.eq_nil_of_length_eq_zero h]; rfl
    · by_cases h0 : a.length = 0
      · rw [List.eq_nil_of_length_eq_zero h0]; rfl
      · rw [mode_at a _ (by omega), show a.length - 1 + 1 = a.length by omega, List.take_length] at h
        exact text_start (stFrom_ok start_ok a) h
  unfold modes
  rw [modesFrom_append, hs, List.getD_eq_getElem?_getD, List.getD_eq_getElem?_getD, List.getElem?_append_right (by rw [modesFrom_len]; omega), modesFrom_len, Nat.add_sub_cancel_left]

end Go.Proofs.YtjllpmobakfjnaaDoor.Pl

/-
  Plain laws: what a byte does to a state of the program, whole, by cases. No program is named here.
-/
namespace Go.Proofs.YtjllpmobakfjnaaDoor.Pl

/-- how much of the element's end is read, behind the byte -/
def St.nowRead (s : St) (b : UInt8) : Nat := if 19 ≤ s.mode then s.readEnd b else s.read
theorem bx_end (x : Sx) (b : UInt8) (hm : 19 ≤ x.st.mode) (he : x.st.ends b = true) : x.behind b = ⟨⟨behindEnd b, [], [], 0, 0, false⟩, Mk.none⟩ := by
  have h1 : x.st.behind b = ⟨behindEnd b, [], [], 0, 0, false⟩ := by unfold St.behind; rw [if_pos hm, if_pos he]
  have h2 : behindMk x.st x.ma b = Mk.none := by unfold behindMk; rw [if_pos ⟨hm, he⟩]
  show Sx.mk (x.st.behind b) (behindMk x.st x.ma b) = _
  rw [h1, h2]
theorem bx_quiet (x : Sx) (b : UInt8) (he : ¬ (19 ≤ x.st.mode ∧ x.st.ends b = true)) : x.behind b = ⟨(St.mk x.st.mode x.st.name x.st.elem x.st.kind (x.st.nowRead b) x.st.esc).quiet b, quietMk x.st x.ma b⟩ := by
  have h1 : x.st.behind b = (St.mk x.st.mode x.st.name x.st.elem x.st.kind (x.st.nowRead b) x.st.esc).quiet b := by
    unfold St.behind St.nowRead
    by_cases hm : 19 ≤ x.st.mode
    · rw [if_pos hm, if_pos hm, if_neg (fun q => he ⟨hm, q⟩)]
    · rw [if_neg hm, if_neg hm]
  have h2 : behindMk x.st x.ma b = quietMk x.st x.ma b := by unfold behindMk; rw [if_neg he]
  show Sx.mk (x.st.behind b) (behindMk x.st x.ma b) = _
  rw [h1, h2]
theorem bx_esc (x : Sx) (b : UInt8) (he : ¬ (19 ≤ x.st.mode ∧ x.st.ends b = true)) (hq : (escapesTab.getD x.st.mode false && (x.st.esc || b == 92)) = true) :
    x.behind b = ⟨⟨x.st.mode, x.st.name, x.st.elem, x.st.kind, x.st.nowRead b, !x.st.esc⟩, escapedMk x.st.mode x.st.esc b⟩ := by
  rw [bx_quiet x b he]
  unfold St.quiet quietMk
  simp only
  rw [hq, if_pos rfl, if_pos rfl]
theorem bx_led (x : Sx) (b : UInt8) (r t : Nat) (he : ¬ (19 ≤ x.st.mode ∧ x.st.ends b = true)) (hq : (escapesTab.getD x.st.mode false && (x.st.esc || b == 92)) = false) (hr : readAt x.st.mode b = r) (ht : leads x.st.mode b = t) :
    x.behind b = Sx.led ⟨⟨r, x.st.name, x.st.elem, x.st.kind, x.st.nowRead b, x.st.esc⟩, x.ma⟩ t b := by
  rw [bx_quiet x b he]
  unfold St.quiet quietMk
  simp only
  rw [hq, if_neg (by simp), if_neg (by simp), table_eq]
  simp only
  rw [hr, ht]
  rfl
theorem at_a (m : Nat) (b : UInt8) (hT : ¬ stepOn m b = 0) : readAt m b = m ∧ leads m b = or3 (stepOn m b) (othersTab.getD m 0) m := by
  have h : readAt m b = m := by unfold readAt; rw [if_neg (fun q => hT q.1)]
  unfold leads
  rw [h]
  exact ⟨rfl, rfl⟩
theorem at_b (m : Nat) (b : UInt8) (hT : stepOn m b = 0) (hR : readInTab.getD m 0 = 0) : readAt m b = m ∧ leads m b = or3 0 (othersTab.getD m 0) m := by
  have h : readAt m b = m := by unfold readAt; rw [if_neg (fun q => q.2 hR)]
  unfold leads
  rw [h, hT]
  exact ⟨rfl, rfl⟩
theorem at_c (m R : Nat) (b : UInt8) (hT : stepOn m b = 0) (hR : readInTab.getD m 0 = R) (h0 : R ≠ 0) : readAt m b = R ∧ leads m b = or3 (stepOn R b) (othersTab.getD R 0) R := by
  have h : readAt m b = R := by unfold readAt around; rw [if_pos ⟨hT, by rw [hR]; exact h0⟩, hR]
  unfold leads
  rw [h]
  exact ⟨rfl, rfl⟩

end Go.Proofs.YtjllpmobakfjnaaDoor.Pl

/-
  Plain laws: what is marked stays small. No program is named here.
-/
namespace Go.Proofs.YtjllpmobakfjnaaDoor.Pl

structure MkOk (k : Mk) : Prop where
  hex : 0 ≤ k.hex ∧ k.hex ≤ 5
  pct : 0 ≤ k.pct ∧ k.pct ≤ 2
theorem mkOk_none : MkOk Mk.none := ⟨by decide, by decide⟩
theorem fewer_le (n : Int) (b : UInt8) (m : Int) (h : n ≤ m) (hm : 0 ≤ m) : 0 ≤ fewer n b ∧ fewer n b ≤ m := by
  unfold fewer
  split
  · next q => omega
  · omega
theorem stayedMk_ok (kind : Int) (m : Nat) (k : Mk) (b : UInt8) (h : MkOk k) : MkOk (stayedMk kind m k b) := by
  have h1 := h.hex
  have h2 := h.pct
  have f1 := fewer_le k.hex b 5 h1.2 (by omega)
  have f2 := fewer_le k.pct b 2 h2.2 (by omega)
  refine ⟨f1, ?_⟩
  show 0 ≤ (if _ then _ else _ : Int) ∧ (if _ then _ else _ : Int) ≤ 2
  split
  · split
    · omega
    · exact f2
  · omega
theorem escapedMk_ok (m : Nat) (e : Bool) (b : UInt8) : MkOk (escapedMk m e b) := by
  unfold escapedMk
  split
  · exact mkOk_none
  · split
    · next r hr =>
      have hm := List.mem_of_find?_eq_some hr
      have : ∀ r ∈ longTab, 0 ≤ r.2.2.2 ∧ r.2.2.2 ≤ 5 := by decide
      exact ⟨this r hm, by show (0 : Int) ≤ 0 ∧ (0 : Int) ≤ 2; omega⟩
    · exact mkOk_none
theorem ledMk_ok (s : St) (k : Mk) (t : Nat) (b : UInt8) (h : MkOk k) : MkOk (ledMk s k t b) := by
  unfold ledMk
  split
  · exact stayedMk_ok _ _ _ _ h
  · exact mkOk_none
theorem behindMk_ok (s : St) (k : Mk) (b : UInt8) (h : MkOk k) : MkOk (behindMk s k b) := by
  unfold behindMk
  split
  · exact mkOk_none
  · unfold quietMk
    split
    · exact escapedMk_ok _ _ _
    · exact ledMk_ok _ _ _ _ h
/-- what holds of a state whole -/
structure SxOk (x : Sx) : Prop where
  st : x.st.Ok
  ma : MkOk x.ma
theorem sxStart_ok : SxOk Sx.start := ⟨start_ok, mkOk_none⟩
theorem sxBehind_ok {x : Sx} (b : UInt8) (h : SxOk x) : SxOk (x.behind b) := ⟨behind_ok b h.st, behindMk_ok _ _ b h.ma⟩
theorem sxFrom_ok (l : List UInt8) : ∀ x : Sx, SxOk x → SxOk (sxFrom x l) := by
  induction l with
  | nil => intro x h; exact h
  | cons b l ih => intro x h; exact ih _ (sxBehind_ok b h)

end Go.Proofs.YtjllpmobakfjnaaDoor.Pl
