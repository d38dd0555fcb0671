/-
  What the tables of package markup hold, cell by cell.
-/
import Derived.Test.YtfkhljmiehdgmaaGreatDoorAid
import Derived.Test.YtfkhljmiehdgmaaGreatDoorMhB
namespace Go.Proofs.YtfkhljmiehdgmaaGreatDoor
open Go.RowKit

def bs (l : List UInt8) : Value := .string ⟨l.toArray⟩
def stepCells (l : List Pl.Step) : List Value := l.flatMap fun r => [.int .u8 (r.1 : Int), bs r.2.1, .int .u8 (r.2.2 : Int)]
def modeCells (l : List Nat) : List Value := l.map fun (m : Nat) => Value.int .u8 ((m : Nat) : Int)
def boolCells (l : List Bool) : List Value := l.map fun m => .bool m
def elemCells : List Value := Pl.elementTab.flatMap fun r => [bs r.1, .int .u8 (r.2 : Int)]
def longCells : List Value := Pl.longTab.flatMap fun r => [.int .u8 (r.1 : Int), .int .u8 (r.2.1 : Int), bs r.2.2.1, .int .i64 r.2.2.2]
def attrCells : List Value := Pl.attrTab.flatMap fun r => [bs r.1, .bool r.2.1, .int .i64 r.2.2]

/-- these cells lie in a block, from its beginning on -/
def Lies (w : World) (g : Nat) (l : List Value) : Prop := ∀ (j : Nat) (v : Value), l[j]? = some v → w.cell? ⟨g, j, none⟩ = some v
theorem Lies.lt {w : World} {g : Nat} {l : List Value} (h : Lies w g l) (hl : 0 < l.length) : g < w.heap.size := by
  have := h 0 l[0] (by simp [hl])
  rcases Nat.lt_or_ge g w.heap.size with h' | h'
  · exact h'
  · simp [World.cell?, Array.getElem?_eq_none h'] at this
theorem Lies.kept {w w' : World} {g B : Nat} {l : List Value} (h : Lies w g l) (hb : Below B w w') (hB : g < B) : Lies w' g l := fun j v hv => (hb.cell (p := ⟨g, j, none⟩) hB).trans (h j v hv)

/-- the eight tables -/
structure PTabs (w : World) : Prop where
  mt : Lies w 4 (stepCells Pl.markupTab)
  ct : Lies w 5 (stepCells Pl.contentTab)
  rd : Lies w 1 (modeCells Pl.readInTab)
  ot : Lies w 2 (modeCells Pl.othersTab)
  es : Lies w 0 (boolCells Pl.escapesTab)
  el : Lies w 6 elemCells
  at' : Lies w 10 attrCells
  le : Lies w 3 longCells
theorem PTabs.lt {w : World} (h : PTabs w) : 4 < w.heap.size ∧ 5 < w.heap.size ∧ 1 < w.heap.size ∧ 2 < w.heap.size ∧ 0 < w.heap.size ∧ 6 < w.heap.size ∧ 10 < w.heap.size ∧ 3 < w.heap.size :=
  ⟨h.mt.lt (by decide), h.ct.lt (by decide), h.rd.lt (by decide), h.ot.lt (by decide), h.es.lt (by decide), h.el.lt (by decide), h.at'.lt (by decide), h.le.lt (by decide)⟩
theorem PTabs.kept {w w' : World} (h : PTabs w) (hb : Below w.heap.size w w') : PTabs w' := by
  obtain ⟨h1, h2, h3, h4, h5, h6, h7, h8⟩ := h.lt
  exact ⟨h.mt.kept hb h1, h.ct.kept hb h2, h.rd.kept hb h3, h.ot.kept hb h4, h.es.kept hb h5, h.el.kept hb h6, h.at'.kept hb h7, h.le.kept hb h8⟩
theorem PTabs.kept' {w0 w w' : World} (h : PTabs w) (h0 : PTabs w0) (hb : Below w0.heap.size w w') : PTabs w' := by
  obtain ⟨h1, h2, h3, h4, h5, h6, h7, h8⟩ := h0.lt
  exact ⟨h.mt.kept hb h1, h.ct.kept hb h2, h.rd.kept hb h3, h.ot.kept hb h4, h.es.kept hb h5, h.el.kept hb h6, h.at'.kept hb h7, h.le.kept hb h8⟩

theorem PTabs.alloc {w : World} (h : PTabs w) (o : Obj) : PTabs (w.alloc o) := h.kept ((Below.refl _ w).alloc (Nat.le_refl _) o)
theorem PTabs.drew {w : World} (h : PTabs w) : PTabs w.drew := ⟨h.mt, h.ct, h.rd, h.ot, h.es, h.el, h.at', h.le⟩
theorem PTabs.drewN {w : World} (h : PTabs w) (n : Nat) : PTabs (w.drewN n) := ⟨h.mt, h.ct, h.rd, h.ot, h.es, h.el, h.at', h.le⟩

theorem flat3 {α : Type} (f : α → Value) (g : α → Value) (h : α → Value) : ∀ (l : List α) (k : Nat) (x : α), l[k]? = some x →
    (l.flatMap fun r => [f r, g r, h r])[3 * k]? = some (f x) ∧ (l.flatMap fun r => [f r, g r, h r])[3 * k + 1]? = some (g x) ∧ (l.flatMap fun r => [f r, g r, h r])[3 * k + 2]? = some (h x)
  | [], k, x, e => by simp at e
  | y :: l, 0, x, e => by
    simp only [List.getElem?_cons_zero, Option.some.injEq] at e
    subst e
    exact ⟨rfl, rfl, rfl⟩
  | y :: l, k + 1, x, e => by
    have := flat3 f g h l k x (by simpa using e)
    simp only [List.flatMap_cons, show 3 * (k + 1) = 3 * k + 3 by omega]
    exact this
theorem flat2 {α : Type} (f : α → Value) (g : α → Value) : ∀ (l : List α) (k : Nat) (x : α), l[k]? = some x →
    (l.flatMap fun r => [f r, g r])[2 * k]? = some (f x) ∧ (l.flatMap fun r => [f r, g r])[2 * k + 1]? = some (g x)
  | [], k, x, e => by simp at e
  | y :: l, 0, x, e => by
    simp only [List.getElem?_cons_zero, Option.some.injEq] at e
    subst e
    exact ⟨rfl, rfl⟩
  | y :: l, k + 1, x, e => by
    have := flat2 f g l k x (by simpa using e)
    simp only [List.flatMap_cons, show 2 * (k + 1) = 2 * k + 2 by omega]
    exact this
theorem steps_at {w : World} {g : Nat} {l : List Pl.Step} (h : Lies w g (stepCells l)) (k : Nat) (r : Pl.Step) (hk : l[k]? = some r) :
    w.cell? ⟨g, k * 3, none⟩ = some (.int .u8 (r.1 : Int)) ∧ w.cell? ⟨g, k * 3 + 1, none⟩ = some (bs r.2.1) ∧ w.cell? ⟨g, k * 3 + 2, none⟩ = some (.int .u8 (r.2.2 : Int)) := by
  obtain ⟨a, b, c⟩ := flat3 (fun r : Pl.Step => Value.int .u8 (r.1 : Int)) (fun r => bs r.2.1) (fun r => .int .u8 (r.2.2 : Int)) l k r hk
  rw [Nat.mul_comm k 3]
  exact ⟨h _ _ a, h _ _ b, h _ _ c⟩
theorem elems_at {w : World} (h : Lies w 6 elemCells) (k : Nat) (r : List UInt8 × Nat) (hk : Pl.elementTab[k]? = some r) :
    w.cell? ⟨6, 2 * k, none⟩ = some (bs r.1) ∧ w.cell? ⟨6, 2 * k + 1, none⟩ = some (.int .u8 (r.2 : Int)) := by
  obtain ⟨a, b⟩ := flat2 (fun r : List UInt8 × Nat => bs r.1) (fun r => Value.int .u8 (r.2 : Int)) Pl.elementTab k r hk
  exact ⟨h _ _ a, h _ _ b⟩
theorem attrs_at {w : World} (h : Lies w 10 attrCells) (k : Nat) (r : List UInt8 × Bool × Int) (hk : Pl.attrTab[k]? = some r) :
    w.cell? ⟨10, 3 * k, none⟩ = some (bs r.1) ∧ w.cell? ⟨10, 3 * k + 1, none⟩ = some (.bool r.2.1) ∧ w.cell? ⟨10, 3 * k + 2, none⟩ = some (.int .i64 r.2.2) := by
  obtain ⟨a, b, c⟩ := flat3 (fun r : List UInt8 × Bool × Int => bs r.1) (fun r => Value.bool r.2.1) (fun r => .int .i64 r.2.2) Pl.attrTab k r hk
  exact ⟨h _ _ a, h _ _ b, h _ _ c⟩
theorem flat4 {α : Type} (f : α → Value) (g : α → Value) (h : α → Value) (i : α → Value) : ∀ (l : List α) (k : Nat) (x : α), l[k]? = some x →
    (l.flatMap fun r => [f r, g r, h r, i r])[4 * k]? = some (f x) ∧ (l.flatMap fun r => [f r, g r, h r, i r])[4 * k + 1]? = some (g x) ∧ (l.flatMap fun r => [f r, g r, h r, i r])[4 * k + 2]? = some (h x) ∧ (l.flatMap fun r => [f r, g r, h r, i r])[4 * k + 3]? = some (i x)
  | [], k, x, e => by simp at e
  | y :: l, 0, x, e => by
    simp only [List.getElem?_cons_zero, Option.some.injEq] at e
    subst e
    exact ⟨rfl, rfl, rfl, rfl⟩
  | y :: l, k + 1, x, e => by
    have := flat4 f g h i l k x (by simpa using e)
    simp only [List.flatMap_cons, show 4 * (k + 1) = 4 * k + 4 by omega]
    exact this
theorem longs_at {w : World} (h : Lies w 3 longCells) (k : Nat) (r : Nat × Nat × List UInt8 × Int) (hk : Pl.longTab[k]? = some r) :
    w.cell? ⟨3, 4 * k, none⟩ = some (.int .u8 (r.1 : Int)) ∧ w.cell? ⟨3, 4 * k + 1, none⟩ = some (.int .u8 (r.2.1 : Int)) ∧ w.cell? ⟨3, 4 * k + 2, none⟩ = some (bs r.2.2.1) ∧ w.cell? ⟨3, 4 * k + 3, none⟩ = some (.int .i64 r.2.2.2) := by
  obtain ⟨a, b, c, d⟩ := flat4 (fun r : Nat × Nat × List UInt8 × Int => Value.int .u8 (r.1 : Int)) (fun r => .int .u8 (r.2.1 : Int)) (fun r => bs r.2.2.1) (fun r => .int .i64 r.2.2.2) Pl.longTab k r hk
  exact ⟨h _ _ a, h _ _ b, h _ _ c, h _ _ d⟩
theorem modes_at {w : World} {g : Nat} {l : List Nat} (h : Lies w g (modeCells l)) (k : Nat) (hk : k < l.length) : w.cell? ⟨g, k, none⟩ = some (.int .u8 ((l.getD k 0 : Nat) : Int)) := by
  refine h _ _ ?_
  simp [modeCells, List.getElem?_map, List.getElem?_eq_getElem hk, List.getD_eq_getElem?_getD]
theorem bools_at {w : World} {g : Nat} {l : List Bool} (h : Lies w g (boolCells l)) (k : Nat) (hk : k < l.length) : w.cell? ⟨g, k, none⟩ = some (.bool (l.getD k false)) := by
  refine h _ _ ?_
  simp [boolCells, List.getElem?_map, List.getElem?_eq_getElem hk, List.getD_eq_getElem?_getD]

end Go.Proofs.YtfkhljmiehdgmaaGreatDoor
