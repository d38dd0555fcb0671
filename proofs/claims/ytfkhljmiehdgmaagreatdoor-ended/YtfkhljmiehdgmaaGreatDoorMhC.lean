/-
  Several texts laid together: each opens with its own remark.
-/
import Derived.Test.YtfkhljmiehdgmaaGreatDoorAid
import Derived.BigQuiet
import Derived.Deep.QuietTactic
import Derived.ScopeJumps
import Derived.WalkMore
import Derived.Deep.MidRow
import Derived.RegionTactic

/-
  The return of a function whose one result is a struct: it lies in a slot in memory.
-/
namespace Go.Proofs.YtfkhljmiehdgmaaGreatDoor
open Go.RowKit

def aggD : TypeDesc → Bool
  | .struct _ => true
  | .array _ _ => true
  | _ => false
theorem results_cell {P : Program} {fn : Func} {p : Tmp} {ty : TypeId} (h : fn.results = #[.cell p ty]) (tmps : Array Value) (w : World) (g : Nat) (cs : Array Value) (d : TypeDesc) (hp : tmps.getD p undef = .pointer (some ⟨g, 0, none⟩))
    (hg : ∀ j v, cs.toList[j]? = some v → w.cell? ⟨g, j, none⟩ = some v)
    (hu : P.underlying ty = some d) (hd : aggD d = true) (hi : (P.info? ty).map (·.size) = some cs.size) :
    (results fn tmps).run P w = .ok (.agg cs) w := by
  have hl := run_loadVar_cells (P := P) w g ty cs d hg hu (by cases d <;> first | rfl | cases hd) hi
  rw [Array.getD_eq_getD_getElem?] at hp
  simp only [results, h]
  simp [hp, asAddr, hl]

theorem cells_at_block {w : World} {g : Nat} {cs : Array Value} {t : TypeId} {fz : Nat × Nat} (h : w.heap[g]? = some (.cells cs t fz)) : ∀ (j : Nat) (v : Value), cs.toList[j]? = some v → w.cell? ⟨g, j, none⟩ = some v := by
  intro j v hv
  rw [cell_of_row w g j cs t fz h]
  simpa using hv

/-- the struct that a function hands back, read out of its slot -/
theorem bodyPost_cell {P : Program} {fn : Func} {R : Ending → World → Prop} {a : Act} {w : World} {p : Tmp} {ty t : TypeId} {fz : Nat × Nat} (h : fn.results = #[.cell p ty]) (g : Nat) (cs : Array Value) (d : TypeDesc)
    (hu : P.underlying ty = some d) (hd : aggD d = true)
    (hp : a.tmps.getD p undef = .pointer (some ⟨g, 0, none⟩)) (hg : w.heap[g]? = some (.cells cs t fz)) (hi : (P.info? ty).map (·.size) = some cs.size) (hdf : a.defers = []) (hR : R (.returned (.agg cs)) w) : bodyPost P fn R .ret a w :=
  bodyPost_ret (results_cell h a.tmps w g cs d hp (cells_at_block hg) hu hd hi) hdf hR

/-- a contract that leaves the world as it was, at a region that draws -/
theorem quiet_same {P : Program} {f : FuncId} {args : Array Value} {w : World} {n : Nat} {v : Value}
    (h : Calls P f args (w.drewN n) fun e w' => e = .returned v ∧ w.drewN n = w') : Calls P f args (w.drewN n) fun e w'' => e = .returned v ∧ ∃ m, w'' = w.drewN m :=
  h.mono fun _ _ ⟨he, hm⟩ => ⟨he, n, hm.symm⟩
theorem below_drewN {B : Nat} {a w : World} (h : Below B a w) (n : Nat) : Below B a (w.drewN n) := ⟨h.os, h.tape, h.output, h.size, h.block⟩

end Go.Proofs.YtfkhljmiehdgmaaGreatDoor

/-
  A scope in which the run jumps back to its label once at most.
-/
namespace Go.Proofs.YtfkhljmiehdgmaaGreatDoor
open Go.RowKit

/-- a slot for a struct of six cells, that may be written -/
def Slot6 (w : World) (g : Nat) : Prop := ∃ cs t, w.heap[g]? = some (.cells cs t (0, 0)) ∧ cs.size = 6
theorem Slot6.lt {w : World} {g : Nat} (h : Slot6 w g) : g < w.heap.size := by
  obtain ⟨cs, t, h, _⟩ := h
  exact (Array.getElem?_eq_some_iff.1 h).1
theorem Slot6.kept {w w' : World} {g B : Nat} (h : Slot6 w g) (hb : Below B w w') (hB : g < B) : Slot6 w' g := by
  obtain ⟨cs, t, h, hs⟩ := h
  exact ⟨cs, t, (hb.block g hB).trans h, hs⟩
theorem Slot6.alloc {w : World} {g : Nat} (h : Slot6 w g) (o : Obj) : Slot6 (w.alloc o) g := h.kept ((Below.refl _ w).alloc (Nat.le_refl _) o) h.lt
theorem Slot6.drew {w : World} {g : Nat} (h : Slot6 w g) : Slot6 w.drew g := h
theorem slot6_new (w : World) (g : Nat) (cs : Array Value) (t : TypeId) (hg : w.heap.size = g) (hs : cs.size = 6) : Slot6 (w.alloc (.cells cs t)) g := by
  subst hg
  exact ⟨cs, t, heap_alloc_new w _, hs⟩
theorem Slot6.cell {w : World} {g : Nat} (h : Slot6 w g) (j : Nat) (hj : j < 6) : ∃ v, w.cell? ⟨g, j, none⟩ = some v := by
  obtain ⟨cs, t, h, hs⟩ := h
  exact ⟨cs[j], by rw [cell_of_row w g j cs t _ h, Array.getElem?_eq_getElem (by omega)]⟩
theorem Slot6.thaw {w : World} {g : Nat} (h : Slot6 w g) (j : Nat) : w.frozen? ⟨g, j, none⟩ = false := by
  obtain ⟨cs, t, h, hs⟩ := h
  simp [World.frozen?, h]

/-- a struct of six cells, written into its slot cell by cell -/
def set6 (w : World) (g : Nat) (v0 v1 v2 v3 v4 v5 : Value) : World := (((((w.setCell ⟨g, 0, none⟩ v0).setCell ⟨g, 1, none⟩ v1).setCell ⟨g, 2, none⟩ v2).setCell ⟨g, 3, none⟩ v3).setCell ⟨g, 4, none⟩ v4).setCell ⟨g, 5, none⟩ v5
theorem cells_set6 {w : World} {g : Nat} (h : Slot6 w g) (v0 v1 v2 v3 v4 v5 : Value) : ∀ (j : Nat) (v : Value), (#[v0, v1, v2, v3, v4, v5] : Array Value).toList[j]? = some v → (set6 w g v0 v1 v2 v3 v4 v5).cell? ⟨g, j, none⟩ = some v := by
  intro j v hv
  match j, hv with
  | 0, hv =>
    obtain ⟨u, hu⟩ := h.cell 0 (by omega)
    obtain rfl : v0 = v := by simpa using hv
    exact (World.cell?_setCell_other _ _ _ _ (by simp)).trans ((World.cell?_setCell_other _ _ _ _ (by simp)).trans ((World.cell?_setCell_other _ _ _ _ (by simp)).trans ((World.cell?_setCell_other _ _ _ _ (by simp)).trans ((World.cell?_setCell_other _ _ _ _ (by simp)).trans (World.cell?_setCell_same _ _ _ (u := u) (hu))))))
  | 1, hv =>
    obtain ⟨u, hu⟩ := h.cell 1 (by omega)
    obtain rfl : v1 = v := by simpa using hv
    exact (World.cell?_setCell_other _ _ _ _ (by simp)).trans ((World.cell?_setCell_other _ _ _ _ (by simp)).trans ((World.cell?_setCell_other _ _ _ _ (by simp)).trans ((World.cell?_setCell_other _ _ _ _ (by simp)).trans (World.cell?_setCell_same _ _ _ (u := u) ((World.cell?_setCell_other _ _ _ _ (by simp)).trans (hu))))))
  | 2, hv =>
    obtain ⟨u, hu⟩ := h.cell 2 (by omega)
    obtain rfl : v2 = v := by simpa using hv
    exact (World.cell?_setCell_other _ _ _ _ (by simp)).trans ((World.cell?_setCell_other _ _ _ _ (by simp)).trans ((World.cell?_setCell_other _ _ _ _ (by simp)).trans (World.cell?_setCell_same _ _ _ (u := u) ((World.cell?_setCell_other _ _ _ _ (by simp)).trans ((World.cell?_setCell_other _ _ _ _ (by simp)).trans (hu))))))
  | 3, hv =>
    obtain ⟨u, hu⟩ := h.cell 3 (by omega)
    obtain rfl : v3 = v := by simpa using hv
    exact (World.cell?_setCell_other _ _ _ _ (by simp)).trans ((World.cell?_setCell_other _ _ _ _ (by simp)).trans (World.cell?_setCell_same _ _ _ (u := u) ((World.cell?_setCell_other _ _ _ _ (by simp)).trans ((World.cell?_setCell_other _ _ _ _ (by simp)).trans ((World.cell?_setCell_other _ _ _ _ (by simp)).trans (hu))))))
  | 4, hv =>
    obtain ⟨u, hu⟩ := h.cell 4 (by omega)
    obtain rfl : v4 = v := by simpa using hv
    exact (World.cell?_setCell_other _ _ _ _ (by simp)).trans (World.cell?_setCell_same _ _ _ (u := u) ((World.cell?_setCell_other _ _ _ _ (by simp)).trans ((World.cell?_setCell_other _ _ _ _ (by simp)).trans ((World.cell?_setCell_other _ _ _ _ (by simp)).trans ((World.cell?_setCell_other _ _ _ _ (by simp)).trans (hu))))))
  | 5, hv =>
    obtain ⟨u, hu⟩ := h.cell 5 (by omega)
    obtain rfl : v5 = v := by simpa using hv
    exact World.cell?_setCell_same _ _ _ (u := u) ((World.cell?_setCell_other _ _ _ _ (by simp)).trans ((World.cell?_setCell_other _ _ _ _ (by simp)).trans ((World.cell?_setCell_other _ _ _ _ (by simp)).trans ((World.cell?_setCell_other _ _ _ _ (by simp)).trans ((World.cell?_setCell_other _ _ _ _ (by simp)).trans (hu))))))
  | j + 6, hv => simp at hv
theorem below_set6 {B : Nat} {a w : World} {g : Nat} (h : Below B a w) (hg : B ≤ g) (v0 v1 v2 v3 v4 v5 : Value) : Below B a (set6 w g v0 v1 v2 v3 v4 v5) :=
  (((((h.setCell (p := ⟨g, 0, none⟩) hg v0).setCell (p := ⟨g, 1, none⟩) hg v1).setCell (p := ⟨g, 2, none⟩) hg v2).setCell (p := ⟨g, 3, none⟩) hg v3).setCell (p := ⟨g, 4, none⟩) hg v4).setCell (p := ⟨g, 5, none⟩) hg v5
/-- what a function hands back that has stored a struct of six cells into its slot -/
theorem bodyPost_set6 {P : Program} {fn : Func} {R : Ending → World → Prop} {a : Act} {w : World} {p : Tmp} {ty : TypeId} (h : fn.results = #[.cell p ty]) (g : Nat) (d : TypeDesc) (hu : P.underlying ty = some d) (hd : aggD d = true) (hi : (P.info? ty).map (·.size) = some 6)
    (hp : a.tmps.getD p undef = .pointer (some ⟨g, 0, none⟩)) (hs : Slot6 w g) (hdf : a.defers = []) (v0 v1 v2 v3 v4 v5 : Value) (hR : R (.returned (.agg #[v0, v1, v2, v3, v4, v5])) (set6 w g v0 v1 v2 v3 v4 v5)) : bodyPost P fn R .ret a (set6 w g v0 v1 v2 v3 v4 v5) :=
  bodyPost_ret (results_cell h a.tmps _ g _ d hp (cells_set6 hs v0 v1 v2 v3 v4 v5) hu hd hi) hdf hR

/-- behind the label the rest is walked anew, from whatever frame and world the jump leaves -/
theorem wp_scope_once {P : Program} {a : Act} {w : World} {Q : Exit → Act → World → Prop} {c rest : Code} (l : Nat) (hf : findLabel c l = some rest)
    (first : c.wp P (Exit.jump l (fun a' w' => rest.wp P (Exit.noGoto Q) a' w') Q) a w) : (Code.scope c).wp P Q a w := by
  refine wp_scope_jumps l (fun a' w' => rest.wp P (Exit.noGoto Q) a' w') (fun _ _ => 0) hf first ?_
  intro a' w' hJ b k cs
  obtain ⟨e, a₁, w₁, hq, harr⟩ := hJ b k cs
  refine ⟨e, a₁, w₁, ?_, harr⟩
  cases e with
  | goto l' => exact hq.elim
  | normal => exact hq
  | exit id => exact hq
  | ret => exact hq
  | panic ch => exact hq
  | outgrown => exact hq

end Go.Proofs.YtfkhljmiehdgmaaGreatDoor

/-
  Slots for structs that are written in whatever world; lists of numbers.
-/
namespace Go.Proofs.YtfkhljmiehdgmaaGreatDoor
open Go.RowKit

theorem Slot6.set {w : World} {g : Nat} (h : Slot6 w g) (p : Addr) (v : Value) : Slot6 (w.setCell p v) g := by
  obtain ⟨cs, t, h, hs⟩ := h
  by_cases hg : g = p.block
  · subst hg
    refine ⟨if p.spot.isSome then cs else cs.setIfInBounds p.off v, t, ?_, ?_⟩
    · simp only [World.setCell, Array.getElem?_modify, ↓reduceIte, h, Option.map_some]
    · split <;> simp [hs]
  · exact ⟨cs, t, (Below.heap_setCell w p v g hg).trans h, hs⟩
def intCells (l : List Nat) : List Value := l.map fun (m : Nat) => .int .i64 (m : Int)
theorem intCells_len (l : List Nat) : (intCells l).length = l.length := by simp [intCells]
theorem intCells_snoc (l : List Nat) (m : Nat) : intCells (l ++ [m]) = intCells l ++ [.int .i64 (m : Int)] := by simp [intCells]
theorem info_int : (Tryz.prog.info? 3).map (fun i => (i.zero, i.size, i.bytes)) = some (some (.int .i64 0), 1, 8) := by kernel_rfl
theorem made_ints (n : Nat) : (madeCells (Value.int .i64 0).cells (n * 1)).toList = List.replicate n (.int .i64 0) := by
  rw [Nat.mul_one]; exact toList_madeCells_one _ _
theorem set_next (l : List Value) (x y : Value) (n k : Nat) (hl : l.length = k) (hk : k < n) : (l ++ List.replicate (n - k) x).set k y = (l ++ [y]) ++ List.replicate (n - (k + 1)) x := by
  obtain ⟨j, hj⟩ : ∃ j, n - k = j + 1 := ⟨n - k - 1, by omega⟩
  have hj' : n - (k + 1) = j := by omega
  rw [hj, hj', List.replicate_succ, List.set_append_right _ _ (by omega), hl, Nat.sub_self, List.set_cons_zero, List.append_assoc]
  rfl
theorem ownsRow_block {w w' : World} {B g : Nat} {e : TypeId} {n cap : Nat} {xs : List Value} (h : w.ownsRow B e 1 (.slice (some ⟨g, 0, none⟩) n cap) n xs) (hb : w'.heap[g]? = w.heap[g]?) : w'.ownsRow B e 1 (.slice (some ⟨g, 0, none⟩) n cap) n xs := by
  refine ⟨h.1, ?_⟩
  rcases h.2 with hn | ⟨g', cap', cur, hv, hB, hg, rest⟩
  · exact .inl hn
  · simp only [Value.slice.injEq, Option.some.injEq, Addr.mk.injEq, and_true, true_and] at hv
    obtain ⟨rfl, rfl⟩ := hv
    exact .inr ⟨g, cap, cur, rfl, hB, hb.trans hg, rest⟩

theorem slot6_set6 {w : World} {g : Nat} (h : Slot6 w g) (v0 v1 v2 v3 v4 v5 : Value) : Slot6 (set6 w g v0 v1 v2 v3 v4 v5) g := (((((h.set _ _).set _ _).set _ _).set _ _).set _ _).set _ _


end Go.Proofs.YtfkhljmiehdgmaaGreatDoor

/-
  Slots for structs of n cells that are written in whatever world.
-/
namespace Go.Proofs.YtfkhljmiehdgmaaGreatDoor
open Go.RowKit

/-- a slot for a struct of n cells, that may be written -/
def SlotN (n : Nat) (w : World) (g : Nat) : Prop := ∃ cs t, w.heap[g]? = some (.cells cs t (0, 0)) ∧ cs.size = n
theorem SlotN.lt {n : Nat} {w : World} {g : Nat} (h : SlotN n w g) : g < w.heap.size := by
  obtain ⟨cs, t, h, _⟩ := h
  exact (Array.getElem?_eq_some_iff.1 h).1
theorem SlotN.kept {n : Nat} {w w' : World} {g B : Nat} (h : SlotN n w g) (hb : Below B w w') (hB : g < B) : SlotN n w' g := by
  obtain ⟨cs, t, h, hs⟩ := h
  exact ⟨cs, t, (hb.block g hB).trans h, hs⟩
theorem SlotN.alloc {n : Nat} {w : World} {g : Nat} (h : SlotN n w g) (o : Obj) : SlotN n (w.alloc o) g := h.kept ((Below.refl _ w).alloc (Nat.le_refl _) o) h.lt
theorem SlotN.drew {n : Nat} {w : World} {g : Nat} (h : SlotN n w g) : SlotN n w.drew g := h
theorem slotN_new (n : Nat) (w : World) (g : Nat) (cs : Array Value) (t : TypeId) (hg : w.heap.size = g) (hs : cs.size = n) : SlotN n (w.alloc (.cells cs t)) g := by
  subst hg
  exact ⟨cs, t, heap_alloc_new w _, hs⟩
theorem SlotN.cell {n : Nat} {w : World} {g : Nat} (h : SlotN n w g) (j : Nat) (hj : j < n) : ∃ v, w.cell? ⟨g, j, none⟩ = some v := by
  obtain ⟨cs, t, h, hs⟩ := h
  exact ⟨cs[j], by rw [cell_of_row w g j cs t _ h, Array.getElem?_eq_getElem (by omega)]⟩
theorem SlotN.thaw {n : Nat} {w : World} {g : Nat} (h : SlotN n w g) (j : Nat) : w.frozen? ⟨g, j, none⟩ = false := by
  obtain ⟨cs, t, h, hs⟩ := h
  simp [World.frozen?, h]
theorem SlotN.set {n : Nat} {w : World} {g : Nat} (h : SlotN n w g) (p : Addr) (v : Value) : SlotN n (w.setCell p v) g := by
  obtain ⟨cs, t, h, hs⟩ := h
  by_cases hg : g = p.block
  · subst hg
    refine ⟨if p.spot.isSome then cs else cs.setIfInBounds p.off v, t, ?_, ?_⟩
    · simp only [World.setCell, Array.getElem?_modify, ↓reduceIte, h, Option.map_some]
    · split <;> simp [hs]
  · exact ⟨cs, t, (Below.heap_setCell w p v g hg).trans h, hs⟩

theorem SlotN.cellA {n : Nat} {w : World} {g : Nat} (h : SlotN n w g) (j : Nat) (hj : j < n) : ∃ v, ∀ o, (w.alloc o).cell? ⟨g, j, none⟩ = some v := by
  obtain ⟨v, hv⟩ := h.cell j hj
  exact ⟨v, fun o => ((Below.refl w.heap.size w).alloc (Nat.le_refl _) o).cell (p := ⟨g, j, none⟩) h.lt |>.trans hv⟩
theorem SlotN.thawA {n : Nat} {w : World} {g : Nat} (h : SlotN n w g) (j : Nat) (o : Obj) : (w.alloc o).frozen? ⟨g, j, none⟩ = false := (h.alloc o).thaw j
theorem heap_new_at (w : World) (o : Obj) (g : Nat) (h : w.heap.size = g) : (w.alloc o).heap[g]? = some o := by rw [← h]; exact heap_alloc_new w o
theorem heap2_0 (w : World) (a b : Obj) : ((w.alloc a).alloc b).heap[w.heap.size + 1]? = some b := heap_new_at _ _ _ (by simp)
theorem heap2_1 (w : World) (a b c : Obj) : (((w.alloc a).alloc b).alloc c).heap[w.heap.size + 1]? = some b := (heap_alloc_old _ _ (by simp)).trans (heap2_0 w a b)
theorem heap2_2 (w : World) (a b c d : Obj) : ((((w.alloc a).alloc b).alloc c).alloc d).heap[w.heap.size + 1]? = some b := (heap_alloc_old _ _ (by simp)).trans (heap2_1 w a b c)
theorem heap2_3 (w : World) (a b c d e : Obj) : (((((w.alloc a).alloc b).alloc c).alloc d).alloc e).heap[w.heap.size + 1]? = some b := (heap_alloc_old _ _ (by simp)).trans (heap2_2 w a b c d)
theorem heap2_4 (w : World) (a b c d e f : Obj) : ((((((w.alloc a).alloc b).alloc c).alloc d).alloc e).alloc f).heap[w.heap.size + 1]? = some b := (heap_alloc_old _ _ (by simp)).trans (heap2_3 w a b c d e)
theorem heap3_1 (w : World) (a b c d : Obj) : ((((w.alloc a).alloc b).alloc c).alloc d).heap[w.heap.size + 1 + 1]? = some c := (heap_alloc_old _ _ (by simp)).trans (heap_new_at _ _ _ (by simp))

/-- cells written in a row -/
def setFrom (w : World) (g : Nat) : Nat → List Value → World
  | _, [] => w
  | k, v :: l => setFrom (w.setCell ⟨g, k, none⟩ v) g (k + 1) l
theorem setFrom_other (g : Nat) (l : List Value) : ∀ (w : World) (k : Nat) (p : Addr), (∀ j, k ≤ j → j < k + l.length → p ≠ ⟨g, j, none⟩) → (setFrom w g k l).cell? p = w.cell? p := by
  induction l with
  | nil => intro w k p _; rfl
  | cons v l ih =>
    intro w k p h
    show (setFrom (w.setCell ⟨g, k, none⟩ v) g (k + 1) l).cell? p = _
    rw [ih _ _ _ (fun j h1 h2 => h j (by omega) (by simp only [List.length_cons]; omega))]
    exact World.cell?_setCell_other _ _ _ _ (Ne.symm (h k (Nat.le_refl _) (by simp)))
theorem setFrom_cell {n : Nat} (g : Nat) (l : List Value) : ∀ (w : World) (k : Nat), SlotN n w g → k + l.length ≤ n → ∀ (j : Nat) (v : Value), l[j]? = some v → (setFrom w g k l).cell? ⟨g, k + j, none⟩ = some v := by
  induction l with
  | nil => intro w k _ _ j v hv; simp at hv
  | cons x l ih =>
    intro w k hs hk j v hv
    simp only [List.length_cons] at hk
    show (setFrom (w.setCell ⟨g, k, none⟩ x) g (k + 1) l).cell? _ = _
    match j, hv with
    | 0, hv =>
      obtain rfl : x = v := by simpa using hv
      rw [setFrom_other _ _ _ _ _ (fun j h1 h2 q => by simp only [Addr.mk.injEq] at q; omega)]
      obtain ⟨u, hu⟩ := hs.cell k (by omega)
      exact World.cell?_setCell_same _ _ _ (u := u) hu
    | j + 1, hv =>
      have := ih (w.setCell ⟨g, k, none⟩ x) (k + 1) (hs.set _ _) (by omega) j v (by simpa using hv)
      rw [show k + (j + 1) = k + 1 + j by omega]
      exact this
theorem setFrom_slot {n : Nat} (g g' : Nat) (l : List Value) : ∀ (w : World) (k : Nat), SlotN n w g' → SlotN n (setFrom w g k l) g' := by
  induction l with
  | nil => intro w k h; exact h
  | cons x l ih => intro w k h; exact ih _ _ (h.set _ _)
theorem below_setFrom {B : Nat} {a : World} (g : Nat) (hg : B ≤ g) (l : List Value) : ∀ (w : World) (k : Nat), Below B a w → Below B a (setFrom w g k l) := by
  induction l with
  | nil => intro w k h; exact h
  | cons x l ih => intro w k h; exact ih _ _ (h.setCell (p := ⟨g, k, none⟩) hg _)

/-- a struct of 5 cells, written into its slot cell by cell -/
def set5 (w : World) (g : Nat) (v0 v1 v2 v3 v4 : Value) : World := ((((w.setCell ⟨g, 0, none⟩ v0).setCell ⟨g, 1, none⟩ v1).setCell ⟨g, 2, none⟩ v2).setCell ⟨g, 3, none⟩ v3).setCell ⟨g, 4, none⟩ v4
theorem set5_eq (w : World) (g : Nat) (v0 v1 v2 v3 v4 : Value) : set5 w g v0 v1 v2 v3 v4 = setFrom w g 0 [v0, v1, v2, v3, v4] := rfl
theorem cells_set5 {w : World} {g : Nat} (h : SlotN 5 w g) (v0 v1 v2 v3 v4 : Value) : ∀ (j : Nat) (v : Value), (#[v0, v1, v2, v3, v4] : Array Value).toList[j]? = some v → (set5 w g v0 v1 v2 v3 v4).cell? ⟨g, j, none⟩ = some v := by
  intro j v hv
  have := setFrom_cell (n := 5) g [v0, v1, v2, v3, v4] w 0 h (by simp) j v hv
  rw [Nat.zero_add] at this
  rw [set5_eq]
  exact this
theorem below_set5 {B : Nat} {a w : World} {g : Nat} (h : Below B a w) (hg : B ≤ g) (v0 v1 v2 v3 v4 : Value) : Below B a (set5 w g v0 v1 v2 v3 v4) := by
  rw [set5_eq]
  exact below_setFrom g hg _ _ _ h
/-- what a function hands back that has stored a struct of 5 cells into its slot -/
theorem bodyPost_set5 {P : Program} {fn : Func} {R : Ending → World → Prop} {a : Act} {w : World} {p : Tmp} {ty : TypeId} (h : fn.results = #[.cell p ty]) (g : Nat) (d : TypeDesc) (hu : P.underlying ty = some d) (hd : aggD d = true) (hi : (P.info? ty).map (·.size) = some 5)
    (hp : a.tmps.getD p undef = .pointer (some ⟨g, 0, none⟩)) (hs : SlotN 5 w g) (hdf : a.defers = []) (v0 v1 v2 v3 v4 : Value) (hR : R (.returned (.agg #[v0, v1, v2, v3, v4])) (set5 w g v0 v1 v2 v3 v4)) : bodyPost P fn R .ret a (set5 w g v0 v1 v2 v3 v4) :=
  bodyPost_ret (results_cell h a.tmps _ g _ d hp (cells_set5 hs v0 v1 v2 v3 v4) hu hd hi) hdf hR

/-- a struct of 10 cells, written into its slot cell by cell -/
def set10 (w : World) (g : Nat) (v0 v1 v2 v3 v4 v5 v6 v7 v8 v9 : Value) : World := (((((((((w.setCell ⟨g, 0, none⟩ v0).setCell ⟨g, 1, none⟩ v1).setCell ⟨g, 2, none⟩ v2).setCell ⟨g, 3, none⟩ v3).setCell ⟨g, 4, none⟩ v4).setCell ⟨g, 5, none⟩ v5).setCell ⟨g, 6, none⟩ v6).setCell ⟨g, 7, none⟩ v7).setCell ⟨g, 8, none⟩ v8).setCell ⟨g, 9, none⟩ v9
theorem set10_eq (w : World) (g : Nat) (v0 v1 v2 v3 v4 v5 v6 v7 v8 v9 : Value) : set10 w g v0 v1 v2 v3 v4 v5 v6 v7 v8 v9 = setFrom w g 0 [v0, v1, v2, v3, v4, v5, v6, v7, v8, v9] := rfl
theorem cells_set10 {w : World} {g : Nat} (h : SlotN 10 w g) (v0 v1 v2 v3 v4 v5 v6 v7 v8 v9 : Value) : ∀ (j : Nat) (v : Value), (#[v0, v1, v2, v3, v4, v5, v6, v7, v8, v9] : Array Value).toList[j]? = some v → (set10 w g v0 v1 v2 v3 v4 v5 v6 v7 v8 v9).cell? ⟨g, j, none⟩ = some v := by
  intro j v hv
  have := setFrom_cell (n := 10) g [v0, v1, v2, v3, v4, v5, v6, v7, v8, v9] w 0 h (by simp) j v hv
  rw [Nat.zero_add] at this
  rw [set10_eq]
  exact this
theorem below_set10 {B : Nat} {a w : World} {g : Nat} (h : Below B a w) (hg : B ≤ g) (v0 v1 v2 v3 v4 v5 v6 v7 v8 v9 : Value) : Below B a (set10 w g v0 v1 v2 v3 v4 v5 v6 v7 v8 v9) := by
  rw [set10_eq]
  exact below_setFrom g hg _ _ _ h
/-- what a function hands back that has stored a struct of 10 cells into its slot -/
theorem bodyPost_set10 {P : Program} {fn : Func} {R : Ending → World → Prop} {a : Act} {w : World} {p : Tmp} {ty : TypeId} (h : fn.results = #[.cell p ty]) (g : Nat) (d : TypeDesc) (hu : P.underlying ty = some d) (hd : aggD d = true) (hi : (P.info? ty).map (·.size) = some 10)
    (hp : a.tmps.getD p undef = .pointer (some ⟨g, 0, none⟩)) (hs : SlotN 10 w g) (hdf : a.defers = []) (v0 v1 v2 v3 v4 v5 v6 v7 v8 v9 : Value) (hR : R (.returned (.agg #[v0, v1, v2, v3, v4, v5, v6, v7, v8, v9])) (set10 w g v0 v1 v2 v3 v4 v5 v6 v7 v8 v9)) : bodyPost P fn R .ret a (set10 w g v0 v1 v2 v3 v4 v5 v6 v7 v8 v9) :=
  bodyPost_ret (results_cell h a.tmps _ g _ d hp (cells_set10 hs v0 v1 v2 v3 v4 v5 v6 v7 v8 v9) hu hd hi) hdf hR

/-- the marks of a state, written -/
def setM (w : World) (g : Nat) (v0 v1 v2 v3 v4 : Value) : World := ((((w.setCell ⟨g, 5, none⟩ v0).setCell ⟨g, 6, none⟩ v1).setCell ⟨g, 7, none⟩ v2).setCell ⟨g, 8, none⟩ v3).setCell ⟨g, 9, none⟩ v4

end Go.Proofs.YtfkhljmiehdgmaaGreatDoor

/-
  A struct of n cells stored into its slot as one step.
-/
namespace Go.Proofs.YtfkhljmiehdgmaaGreatDoor
open Go.RowKit

theorem SlotN.there {n : Nat} {w : World} {g : Nat} (h : SlotN n w g) : w.there g 0 n := fun j hj => by
  rw [Nat.zero_add]
  obtain ⟨v, hv⟩ := h.cell j hj
  exact ⟨by rw [hv]; rfl, h.thaw j⟩
theorem below_setCellsN {B b : Nat} {a : World} (hb : B ≤ b) : ∀ (vs : List Value) (o : Nat) (w : World), Below B a w → Below B a (w.setCells b o vs)
  | [], _, _, h => h
  | v :: vs, o, _, h => below_setCellsN hb vs (o + 1) _ (h.setCell (p := ⟨b, o, none⟩) hb v)
theorem cells_setCellsN {n : Nat} {w : World} {g : Nat} (h : SlotN n w g) (cs : Array Value) (hn : cs.size = n) : ∀ (j : Nat) (v : Value), cs.toList[j]? = some v → (w.setCells g 0 cs.toList).cell? ⟨g, j, none⟩ = some v := by
  intro j v hv
  have hj : j < cs.toList.length := (List.getElem?_eq_some_iff.1 hv).1
  have hj' : j < cs.size := by simpa using hj
  have := World.cell?_setCells_in g cs.toList 0 w (fun i hi => by rw [Nat.zero_add]; obtain ⟨u, hu⟩ := h.cell i (by simp at hi; omega); rw [hu]; rfl) j hj
  rw [Nat.zero_add] at this
  rw [this, ← hv, List.getElem?_eq_getElem hj]
/-- what a function hands back that has stored a struct into its slot, as one step -/
theorem bodyPost_setN {P : Program} {fn : Func} {R : Ending → World → Prop} {a : Act} {w : World} {p : Tmp} {ty : TypeId} (h : fn.results = #[.cell p ty]) (g n : Nat) (d : TypeDesc) (hu : P.underlying ty = some d) (hd : aggD d = true) (cs : Array Value) (hi : (P.info? ty).map (·.size) = some cs.size)
    (hp : a.tmps.getD p undef = .pointer (some ⟨g, 0, none⟩)) (hs : SlotN n w g) (hn : cs.size = n) (hdf : a.defers = []) (hR : R (.returned (.agg cs)) (w.setCells g 0 cs.toList)) : bodyPost P fn R .ret a (w.setCells g 0 cs.toList) :=
  bodyPost_ret (results_cell h a.tmps _ g cs d hp (cells_setCellsN hs cs hn) hu hd hi) hdf hR

/-- a struct stored into its slot, at a step of a region that draws -/
theorem step_storeN {P : Program} {ops : Array Oper} {o : Oper} {a : Act} {w : World} {K : Act → World → Prop} {Q : Exit → Act → World → Prop} {E : Prop} (hgd : o.guard = none) (ty : TypeId) (x y : Operand) (ho : o.op = .store ty x y) (hd : o.dst = none)
    (g : Nat) (cells : Array Value) (hx : a.eval x = .pointer (some ⟨g, 0, none⟩)) (hy : a.eval y = .agg cells) (ht : w.there g 0 cells.size) (hi : (P.info? ty).map (·.size) = some cells.size) (h1 : cells.all (·.oneCell') = true)
    (h : K a (w.setCells g 0 cells.toList)) : if Region.wanted o (yielded ops a.tmps) = true then Oper.wp P o a w K Q else E := by
  rw [if_pos (by simp [Region.wanted, hgd])]
  exact wp_store_mid ty x y ho g 0 cells hx hy ht hi h1 (by rw [hd]; exact h)

end Go.Proofs.YtfkhljmiehdgmaaGreatDoor
