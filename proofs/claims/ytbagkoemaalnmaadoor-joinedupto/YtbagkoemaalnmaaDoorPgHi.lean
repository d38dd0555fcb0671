/-
  A state in a block that is written, in whatever world.
-/
import Derived.Test.YtbagkoemaalnmaaDoorPgScope
import Derived.Test.YtbagkoemaalnmaaDoorPgWB
namespace Go.Proofs.YtbagkoemaalnmaaDoor
open Go.RowKit

theorem Slot6.set {w : World} {g : Nat} (h : Slot6 w g) (p : Addr) (v : Value) : Slot6 (w.setCell p v) g := by
  obtain ⟨cs, t, h, hs⟩ := h
  by_cases hg : g = p.block
  · subst hg
    refine ⟨if p.spot.isSome then cs else cs.setIfInBounds p.off v, t, ?_, ?_⟩
    · simp only [World.setCell, Array.getElem?_modify, ↓reduceIte, h, Option.map_some]
    · split <;> simp [hs]
  · exact ⟨cs, t, (Below.heap_setCell w p v g hg).trans h, hs⟩
theorem StAt.setRead {w : World} {g : Nat} {s : Pl.St} (h : StAt w g s) (r : Nat) : StAt (w.setCell ⟨g, 4, none⟩ (.int .i64 (r : Int))) g ⟨s.mode, s.name, s.elem, s.kind, r, s.esc⟩ :=
  ⟨(World.cell?_setCell_other _ _ _ _ (by simp)).trans h.mode, (World.cell?_setCell_other _ _ _ _ (by simp)).trans h.name, (World.cell?_setCell_other _ _ _ _ (by simp)).trans h.elem,
    (World.cell?_setCell_other _ _ _ _ (by simp)).trans h.kind, World.cell?_setCell_same _ _ _ h.read, (World.cell?_setCell_other _ _ _ _ (by simp)).trans h.esc⟩
theorem StAt.setMode {w : World} {g : Nat} {s : Pl.St} (h : StAt w g s) (m : Nat) : StAt (w.setCell ⟨g, 0, none⟩ (.int .u8 (m : Int))) g ⟨m, s.name, s.elem, s.kind, s.read, s.esc⟩ :=
  ⟨World.cell?_setCell_same _ _ _ h.mode, (World.cell?_setCell_other _ _ _ _ (by simp)).trans h.name, (World.cell?_setCell_other _ _ _ _ (by simp)).trans h.elem,
    (World.cell?_setCell_other _ _ _ _ (by simp)).trans h.kind, (World.cell?_setCell_other _ _ _ _ (by simp)).trans h.read, (World.cell?_setCell_other _ _ _ _ (by simp)).trans h.esc⟩
theorem StAt.setEsc {w : World} {g : Nat} {s : Pl.St} (h : StAt w g s) (x : Bool) : StAt (w.setCell ⟨g, 5, none⟩ (.bool x)) g ⟨s.mode, s.name, s.elem, s.kind, s.read, x⟩ :=
  ⟨(World.cell?_setCell_other _ _ _ _ (by simp)).trans h.mode, (World.cell?_setCell_other _ _ _ _ (by simp)).trans h.name, (World.cell?_setCell_other _ _ _ _ (by simp)).trans h.elem,
    (World.cell?_setCell_other _ _ _ _ (by simp)).trans h.kind, (World.cell?_setCell_other _ _ _ _ (by simp)).trans h.read, World.cell?_setCell_same _ _ _ h.esc⟩
theorem StAt.alloc {w : World} {g : Nat} {s : Pl.St} (h : StAt w g s) (hg : g < w.heap.size) (o : Obj) : StAt (w.alloc o) g s := h.kept ((Below.refl _ w).alloc (Nat.le_refl _) o) hg

/-- all that is known while a state is turned: the state at g, the answer's slot behind it, the tables -/
structure Mid (w0 w : World) (g : Nat) (s : Pl.St) : Prop where
  eq : w0.heap.size = g
  tabs0 : PTabs w0
  below : Below w0.heap.size w0 w
  at' : StAt w g s
  slot : Slot6 w g
  res : Slot6 w (g + 1)
theorem Mid.tabs {w0 w : World} {g : Nat} {s : Pl.St} (h : Mid w0 w g s) : PTabs w := h.tabs0.kept h.below
theorem Mid.start {w0 : World} (s : Pl.St) (ht : PTabs w0) (cs : Array Value) (t t' : TypeId) (hc : cs.size = 6) : Mid w0 ((w0.alloc (.cells (stCells s) t)).alloc (.cells cs t')) w0.heap.size s :=
  ⟨rfl, ht, ((Below.refl _ _).alloc (Nat.le_refl _) _).alloc (by simp) _, (stAt_alloc w0 s t).alloc (by simp) _, (slot6_new w0 _ _ _ rfl rfl).alloc _, slot6_new _ _ _ _ (by simp) hc⟩
theorem Mid.kept {w0 w w' : World} {g : Nat} {s : Pl.St} (h : Mid w0 w g s) (hb : Below w.heap.size w w') : Mid w0 w' g s :=
  ⟨h.eq, h.tabs0, h.below.trans (hb.mono h.below.size), h.at'.kept hb h.slot.lt, h.slot.kept hb h.slot.lt, h.res.kept hb h.res.lt⟩
theorem Mid.setRead {w0 w : World} {g : Nat} {s : Pl.St} (h : Mid w0 w g s) (r : Nat) : Mid w0 (w.setCell ⟨g, 4, none⟩ (.int .i64 (r : Int))) g ⟨s.mode, s.name, s.elem, s.kind, r, s.esc⟩ :=
  ⟨h.eq, h.tabs0, h.below.setCell (p := ⟨g, 4, none⟩) (Nat.le_of_eq h.eq) _, h.at'.setRead r, h.slot.set _ _, h.res.set _ _⟩
theorem Mid.setMode {w0 w : World} {g : Nat} {s : Pl.St} (h : Mid w0 w g s) (m : Nat) : Mid w0 (w.setCell ⟨g, 0, none⟩ (.int .u8 (m : Int))) g ⟨m, s.name, s.elem, s.kind, s.read, s.esc⟩ :=
  ⟨h.eq, h.tabs0, h.below.setCell (p := ⟨g, 0, none⟩) (Nat.le_of_eq h.eq) _, h.at'.setMode m, h.slot.set _ _, h.res.set _ _⟩
theorem Mid.setEsc {w0 w : World} {g : Nat} {s : Pl.St} (h : Mid w0 w g s) (x : Bool) : Mid w0 (w.setCell ⟨g, 5, none⟩ (.bool x)) g ⟨s.mode, s.name, s.elem, s.kind, s.read, x⟩ :=
  ⟨h.eq, h.tabs0, h.below.setCell (p := ⟨g, 5, none⟩) (Nat.le_of_eq h.eq) _, h.at'.setEsc x, h.slot.set _ _, h.res.set _ _⟩

end Go.Proofs.YtbagkoemaalnmaaDoor
