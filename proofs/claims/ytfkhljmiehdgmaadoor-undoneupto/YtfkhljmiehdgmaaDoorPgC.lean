/-
  Plain laws: what holds of every state that is come to. No program is named here.
-/
import Derived.Test.YtfkhljmiehdgmaaDoorPgB
namespace Go.Proofs.YtfkhljmiehdgmaaDoor.Pl

/-- the mode in which a byte is read by the tables, and the mode to which it leads there -/
def readAt (m : Nat) (b : UInt8) : Nat := if stepOn m b = 0 ∧ around m ≠ 0 then around m else m
def leads (m : Nat) (b : UInt8) : Nat := or3 (stepOn (readAt m b) b) (othersTab.getD (readAt m b) 0) (readAt m b)
theorem table_eq (s : St) (b : UInt8) : s.table b = (St.mk (readAt s.mode b) s.name s.elem s.kind s.read s.esc).led (leads s.mode b) b := by
  unfold St.table St.table2 leads readAt
  by_cases h : stepOn s.mode b = 0 ∧ around s.mode ≠ 0
  · rw [if_pos h, if_pos h]
  · rw [if_neg h, if_neg h]

/-- what the tables' rows are like, of a mode and a byte -/
def shape (m : Nat) (b : UInt8) : Bool :=
  let r := readAt m b
  let t := leads m b
  decide (1 ≤ r) && decide (r ≤ 33) && decide (1 ≤ t) && decide (t ≤ 34)
  && (if m < 19 then decide (r < 19) && (decide (t < 19) || decide (t = 34)) else decide (19 ≤ r) && decide (19 ≤ t) && decide (t ≤ 33))
  && (decide (r = m) || (decide (m = 2) && decide (r = 1)) || decide (24 ≤ m))
  && (if t = 34 then decide (3 ≤ m) && decide (m ≤ 10) else true)
  && (if t = 3 then decide (m = 2) || decide (m = 3) else true)
  && (if t = 5 then decide (m = 4) || decide (m = 5) || decide (m = 6) else true)
  && (if t = 4 ∨ (6 ≤ t ∧ t ≤ 10) then decide (3 ≤ m) && decide (m ≤ 10) else true)
  && (if t = 1 ∨ t = 2 ∨ (11 ≤ t ∧ t ≤ 18) then decide (m = 1) || decide (m = 2) || (decide (11 ≤ m) && decide (m ≤ 18)) else true)

/-- the bytes that the rows name -/
def named : List UInt8 := [9, 10, 12, 13, 32, 33, 34, 39, 42, 45, 47, 60, 61, 62, 96, 97]
/-- a byte, as far as the tables tell it from others -/
def cls (b : UInt8) : UInt8 := if among (asLetter b) named then asLetter b else 0
theorem among_mem {b : UInt8} {l : List UInt8} : among b l = true ↔ b ∈ l := by
  unfold among
  rw [List.any_eq_true]
  constructor
  · rintro ⟨x, hx, e⟩
    rw [beq_iff_eq] at e
    exact e ▸ hx
  · intro h
    exact ⟨b, h, by simp⟩
theorem cls_mem (b : UInt8) : cls b ∈ 0 :: named := by
  unfold cls
  split
  · rename_i h
    exact List.mem_cons_of_mem _ (among_mem.1 h)
  · exact List.mem_cons_self
theorem asLetter_cls (b : UInt8) : asLetter (cls b) = cls b := by
  have : ∀ c ∈ (0 :: named : List UInt8), asLetter c = c := by decide
  exact this _ (cls_mem b)
/-- a set of bytes that are all named, and no letter but a -/
theorem among_cls (b : UInt8) (l : List UInt8) (hl : l.all (fun c => among c named) = true) : among (asLetter b) l = among (cls b) l := by
  unfold cls
  split
  · rfl
  · rename_i h
    rw [Bool.eq_iff_iff, among_mem, among_mem]
    constructor
    · intro hb
      exact absurd (List.all_eq_true.1 hl _ hb) h
    · intro h0
      exact absurd (List.all_eq_true.1 hl _ h0) (by decide)
theorem find_congr {α : Type} {f g : α → Bool} : ∀ (l : List α), (∀ x ∈ l, f x = g x) → l.find? f = l.find? g
  | [], _ => rfl
  | x :: l, h => by
    rw [List.find?_cons, List.find?_cons, h x List.mem_cons_self, find_congr l (fun y hy => h y (List.mem_cons_of_mem _ hy))]
theorem lookup_cls (m : Nat) (b : UInt8) (l : List Step) (hl : l.all (fun r => r.2.1.all (fun c => among c named)) = true) : lookup l m (asLetter b) = lookup l m (asLetter (cls b)) := by
  unfold lookup
  rw [asLetter_cls, find_congr l]
  intro r hr
  unfold hit
  rw [among_cls b r.2.1 (List.all_eq_true.1 hl r hr)]
theorem stepOn_cls (m : Nat) (b : UInt8) : stepOn m b = stepOn m (cls b) := by
  unfold stepOn
  rw [lookup_cls m b markupTab (by decide +kernel), lookup_cls m b contentTab (by decide +kernel)]
theorem readAt_cls (m : Nat) (b : UInt8) : readAt m b = readAt m (cls b) := by unfold readAt; rw [stepOn_cls]
theorem leads_cls (m : Nat) (b : UInt8) : leads m b = leads m (cls b) := by unfold leads; rw [readAt_cls, stepOn_cls]
theorem shape_cls (m : Nat) (b : UInt8) : shape m b = shape m (cls b) := by
  unfold shape
  rw [readAt_cls, leads_cls]
theorem shape_tab : ((List.range 34).all fun m => m == 0 || (0 :: named).all fun c => shape m c) = true := by decide +kernel
theorem shape_all (m : Nat) (h1 : 1 ≤ m) (h2 : m ≤ 33) (b : UInt8) : shape m b = true := by
  rw [shape_cls]
  have := (List.all_eq_true.1 shape_tab) m (List.mem_range.2 (by omega))
  simp only [Bool.or_eq_true, beq_iff_eq] at this
  rcases this with h | h
  · omega
  · exact List.all_eq_true.1 h _ (cls_mem b)

end Go.Proofs.YtfkhljmiehdgmaaDoor.Pl
