/-
  A scope in which the run jumps back to its label once at most.
-/
import Derived.Test.YtbagkoemaalnmaaDoorPgAid
import Derived.ScopeJumps
import Derived.WalkMore
namespace Go.Proofs.YtbagkoemaalnmaaDoor
open Go.RowKit

/-- a slot for a struct of six cells, that may be written -/
def Slot6 (w : World) (g : Nat) : Prop := ∃ cs t, w.heap[g]? = some (.cells cs t (0, 0)) ∧ cs.size = 6
theorem Slot6.lt {w : World} {g : Nat} (h : Slot6 w g) : g < w.heap.size := by
  obtain ⟨cs, t, h, _⟩ := h
  exact (Array.getElem?_eq_some_iff.1 h).1
theorem Slot6.kept {w w' : World} {g B : Nat} (h : Slot6 w g) (hb : Below B w w') (hB : g < B) : Slot6 w' g := by
  obtain ⟨cs, t, h, hs⟩ := h
  exact ⟨cs, t, (hb.block g hB).trans h, hs⟩
theorem Slot6.alloc {w : World} {g : Nat} (h : Slot6 w g) (o : Obj) : Slot6 (w.alloc o) g := h.kept ((Below.refl _ w).alloc (Nat.le_refl _) o) h.lt
theorem Slot6.drew {w : World} {g : Nat} (h : Slot6 w g) : Slot6 w.drew g := h
theorem slot6_new (w : World) (g : Nat) (cs : Array Value) (t : TypeId) (hg : w.heap.size = g) (hs : cs.size = 6) : Slot6 (w.alloc (.cells cs t)) g := by
  subst hg
  exact ⟨cs, t, heap_alloc_new w _, hs⟩
theorem Slot6.cell {w : World} {g : Nat} (h : Slot6 w g) (j : Nat) (hj : j < 6) : ∃ v, w.cell? ⟨g, j, none⟩ = some v := by
  obtain ⟨cs, t, h, hs⟩ := h
  exact ⟨cs[j], by rw [cell_of_row w g j cs t _ h, Array.getElem?_eq_getElem (by omega)]⟩
theorem Slot6.thaw {w : World} {g : Nat} (h : Slot6 w g) (j : Nat) : w.frozen? ⟨g, j, none⟩ = false := by
  obtain ⟨cs, t, h, hs⟩ := h
  simp [World.frozen?, h]

/-- a struct of six cells, written into its slot cell by cell -/
def set6 (w : World) (g : Nat) (v0 v1 v2 v3 v4 v5 : Value) : World := (((((w.setCell ⟨g, 0, none⟩ v0).setCell ⟨g, 1, none⟩ v1).setCell ⟨g, 2, none⟩ v2).setCell ⟨g, 3, none⟩ v3).setCell ⟨g, 4, none⟩ v4).setCell ⟨g, 5, none⟩ v5
theorem cells_set6 {w : World} {g : Nat} (h : Slot6 w g) (v0 v1 v2 v3 v4 v5 : Value) : ∀ (j : Nat) (v : Value), (#[v0, v1, v2, v3, v4, v5] : Array Value).toList[j]? = some v → (set6 w g v0 v1 v2 v3 v4 v5).cell? ⟨g, j, none⟩ = some v := by
  intro j v hv
  match j, hv with
  | 0, hv =>
    obtain ⟨u, hu⟩ := h.cell 0 (by omega)
    obtain rfl : v0 = v := by simpa using hv
    exact (World.cell?_setCell_other _ _ _ _ (by simp)).trans ((World.cell?_setCell_other _ _ _ _ (by simp)).trans ((World.cell?_setCell_other _ _ _ _ (by simp)).trans ((World.cell?_setCell_other _ _ _ _ (by simp)).trans ((World.cell?_setCell_other _ _ _ _ (by simp)).trans (World.cell?_setCell_same _ _ _ (u := u) (hu))))))
  | 1, hv =>
    obtain ⟨u, hu⟩ := h.cell 1 (by omega)
    obtain rfl : v1 = v := by simpa using hv
    exact (World.cell?_setCell_other _ _ _ _ (by simp)).trans ((World.cell?_setCell_other _ _ _ _ (by simp)).trans ((World.cell?_setCell_other _ _ _ _ (by simp)).trans ((World.cell?_setCell_other _ _ _ _ (by simp)).trans (World.cell?_setCell_same _ _ _ (u := u) ((World.cell?_setCell_other _ _ _ _ (by simp)).trans (hu))))))
  | 2, hv =>
    obtain ⟨u, hu⟩ := h.cell 2 (by omega)
    obtain rfl : v2 = v := by simpa using hv
    exact (World.cell?_setCell_other _ _ _ _ (by simp)).trans ((World.cell?_setCell_other _ _ _ _ (by simp)).trans ((World.cell?_setCell_other _ _ _ _ (by simp)).trans (World.cell?_setCell_same _ _ _ (u := u) ((World.cell?_setCell_other _ _ _ _ (by simp)).trans ((World.cell?_setCell_other _ _ _ _ (by simp)).trans (hu))))))
  | 3, hv =>
    obtain ⟨u, hu⟩ := h.cell 3 (by omega)
    obtain rfl : v3 = v := by simpa using hv
    exact (World.cell?_setCell_other _ _ _ _ (by simp)).trans ((World.cell?_setCell_other _ _ _ _ (by simp)).trans (World.cell?_setCell_same _ _ _ (u := u) ((World.cell?_setCell_other _ _ _ _ (by simp)).trans ((World.cell?_setCell_other _ _ _ _ (by simp)).trans ((World.cell?_setCell_other _ _ _ _ (by simp)).trans (hu))))))
  | 4, hv =>
    obtain ⟨u, hu⟩ := h.cell 4 (by omega)
    obtain rfl : v4 = v := by simpa using hv
    exact (World.cell?_setCell_other _ _ _ _ (by simp)).trans (World.cell?_setCell_same _ _ _ (u := u) ((World.cell?_setCell_other _ _ _ _ (by simp)).trans ((World.cell?_setCell_other _ _ _ _ (by simp)).trans ((World.cell?_setCell_other _ _ _ _ (by simp)).trans ((World.cell?_setCell_other _ _ _ _ (by simp)).trans (hu))))))
  | 5, hv =>
    obtain ⟨u, hu⟩ := h.cell 5 (by omega)
    obtain rfl : v5 = v := by simpa using hv
    exact World.cell?_setCell_same _ _ _ (u := u) ((World.cell?_setCell_other _ _ _ _ (by simp)).trans ((World.cell?_setCell_other _ _ _ _ (by simp)).trans ((World.cell?_setCell_other _ _ _ _ (by simp)).trans ((World.cell?_setCell_other _ _ _ _ (by simp)).trans ((World.cell?_setCell_other _ _ _ _ (by simp)).trans (hu))))))
  | j + 6, hv => simp at hv
theorem below_set6 {B : Nat} {a w : World} {g : Nat} (h : Below B a w) (hg : B ≤ g) (v0 v1 v2 v3 v4 v5 : Value) : Below B a (set6 w g v0 v1 v2 v3 v4 v5) :=
  (((((h.setCell (p := ⟨g, 0, none⟩) hg v0).setCell (p := ⟨g, 1, none⟩) hg v1).setCell (p := ⟨g, 2, none⟩) hg v2).setCell (p := ⟨g, 3, none⟩) hg v3).setCell (p := ⟨g, 4, none⟩) hg v4).setCell (p := ⟨g, 5, none⟩) hg v5
/-- what a function hands back that has stored a struct of six cells into its slot -/
theorem bodyPost_set6 {P : Program} {fn : Func} {R : Ending → World → Prop} {a : Act} {w : World} {p : Tmp} {ty : TypeId} (h : fn.results = #[.cell p ty]) (g : Nat) (d : TypeDesc) (hu : P.underlying ty = some d) (hd : aggD d = true) (hi : (P.info? ty).map (·.size) = some 6)
    (hp : a.tmps.getD p undef = .pointer (some ⟨g, 0, none⟩)) (hs : Slot6 w g) (hdf : a.defers = []) (v0 v1 v2 v3 v4 v5 : Value) (hR : R (.returned (.agg #[v0, v1, v2, v3, v4, v5])) (set6 w g v0 v1 v2 v3 v4 v5)) : bodyPost P fn R .ret a (set6 w g v0 v1 v2 v3 v4 v5) :=
  bodyPost_ret (results_cell h a.tmps _ g _ d hp (cells_set6 hs v0 v1 v2 v3 v4 v5) hu hd hi) hdf hR

/-- behind the label the rest is walked anew, from whatever frame and world the jump leaves -/
theorem wp_scope_once {P : Program} {a : Act} {w : World} {Q : Exit → Act → World → Prop} {c rest : Code} (l : Nat) (hf : findLabel c l = some rest)
    (first : c.wp P (Exit.jump l (fun a' w' => rest.wp P (Exit.noGoto Q) a' w') Q) a w) : (Code.scope c).wp P Q a w := by
  refine wp_scope_jumps l (fun a' w' => rest.wp P (Exit.noGoto Q) a' w') (fun _ _ => 0) hf first ?_
  intro a' w' hJ b k cs
  obtain ⟨e, a₁, w₁, hq, harr⟩ := hJ b k cs
  refine ⟨e, a₁, w₁, ?_, harr⟩
  cases e with
  | goto l' => exact hq.elim
  | normal => exact hq
  | exit id => exact hq
  | ret => exact hq
  | panic ch => exact hq
  | outgrown => exact hq

end Go.Proofs.YtbagkoemaalnmaaDoor
