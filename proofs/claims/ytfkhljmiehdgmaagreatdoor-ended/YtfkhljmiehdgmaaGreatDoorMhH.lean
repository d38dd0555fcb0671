/-
  Several texts laid together: each opens with its own remark.
-/
import Derived.Test.YtfkhljmiehdgmaaGreatDoorMhG
import Derived.Test.YtfkhljmiehdgmaaGreatDoorMhC

/-
  The walks of package markup: a name is over; the state behind a byte that leads to a mode.
-/
namespace Go.Proofs.YtfkhljmiehdgmaaGreatDoor
open Go.RowKit

theorem named_three {s : Pl.St} (h : s.mode = 3) : s.named = ⟨3, [], Pl.elementOf s.name, s.kind, s.read, s.esc⟩ := by
  unfold Pl.St.named; rw [if_pos h, if_neg (by omega), h]
theorem named_five {s : Pl.St} (h : s.mode = 5) : s.named = ⟨5, [], s.elem, Pl.kindOf s.name, s.read, s.esc⟩ := by
  unfold Pl.St.named; rw [if_neg (by omega), if_pos h, h]
theorem named_other {s : Pl.St} (h : ¬ s.mode = 3) (h' : ¬ s.mode = 5) : s.named = ⟨s.mode, [], s.elem, s.kind, s.read, s.esc⟩ := by
  unfold Pl.St.named; rw [if_neg h, if_neg h']

set_option maxRecDepth 100000 in
set_option maxHeartbeats 3200000 in
theorem named_any (x : Pl.Sx) (w : World) (ht : PTabs w) :
    Calls Tryz.prog 134 #[sxVal x] w fun e w' => e = .returned (sxVal ⟨x.st.named, x.ma⟩) ∧ (w.alloc (.cells (sxCells ⟨x.st.named, x.ma⟩) 162)).alloc (.cells (sxCells ⟨x.st.named, x.ma⟩) 162) = w' := by
  obtain ⟨s, k⟩ := x
  unfold sxVal sxCells bs
  by_cases h3 : s.mode = 3
  · have HV : Hid (s.named = _) := named_three h3
    simp only
    rw [h3]
    go_enter Tryz.func134, Tryz.ntmps134
    go_wp2_with (go_at_call 185; refine (elementOf_any s.name _ (by repeat (first | exact ht | apply PTabs.alloc | apply PTabs.drew))).mono ?_; rintro e w' ⟨rfl, rfl⟩)
    refine bodyPost_cell Tryz.results134 (w.heap.size + 1) _ _ Tryz.underlying162 rfl rfl (heap_new_at _ _ _ (by simp)) (by kernel_rfl) rfl ?_
    rw [HV.out]
    exact ⟨rfl, rfl⟩
  by_cases h5 : s.mode = 5
  · have HV : Hid (s.named = _) := named_five h5
    simp only
    rw [h5]
    go_enter Tryz.func134, Tryz.ntmps134
    go_wp2_with (go_at_call 186; refine (kindOf_any s.name _ (by repeat (first | exact ht | apply PTabs.alloc | apply PTabs.drew))).mono ?_; rintro e w' ⟨rfl, rfl⟩)
    refine bodyPost_cell Tryz.results134 (w.heap.size + 1) _ _ Tryz.underlying162 rfl rfl (heap_new_at _ _ _ (by simp)) (by kernel_rfl) rfl ?_
    rw [HV.out]
    exact ⟨rfl, rfl⟩
  have h3' : ((s.mode : Int) == 3) = false := by rw [beq_eq_false_iff_ne]; omega
  have h5' : ((s.mode : Int) == 5) = false := by rw [beq_eq_false_iff_ne]; omega
  have HV : Hid (s.named = _) := named_other h3 h5
  simp only
  clear h3 h5 ht
  go_enter Tryz.func134, Tryz.ntmps134
  go_wp2_with fail
  refine bodyPost_cell Tryz.results134 (w.heap.size + 1) _ _ Tryz.underlying162 rfl rfl (heap_new_at _ _ _ (by simp)) (by kernel_rfl) rfl ?_
  rw [HV.out]
  exact ⟨rfl, rfl⟩

end Go.Proofs.YtfkhljmiehdgmaaGreatDoor

/-
  A state in a block that is written, in whatever world.
-/
namespace Go.Proofs.YtfkhljmiehdgmaaGreatDoor
open Go.RowKit

theorem SxAt.alloc {w : World} {g : Nat} {s : Pl.Sx} (h : SxAt w g s) (hg : g < w.heap.size) (o : Obj) : SxAt (w.alloc o) g s := h.kept ((Below.refl _ w).alloc (Nat.le_refl _) o) hg
theorem SxAt.setMode {w : World} {g : Nat} {s : Pl.Sx} (h : SxAt w g s) (m : Nat) (z : Int) (hz : z = (m : Int)) : SxAt (w.setCell ⟨g, 0, none⟩ (.int .u8 z)) g ⟨⟨m, s.st.name, s.st.elem, s.st.kind, s.st.read, s.st.esc⟩, ⟨s.ma.ref, s.ma.hex, s.ma.pct, s.ma.far⟩⟩ :=
  ⟨(World.cell?_setCell_same _ _ _ h.mode).trans (by rw [hz]), (World.cell?_setCell_other _ _ _ _ (by simp)).trans h.name, (World.cell?_setCell_other _ _ _ _ (by simp)).trans h.elem, (World.cell?_setCell_other _ _ _ _ (by simp)).trans h.kind, (World.cell?_setCell_other _ _ _ _ (by simp)).trans h.read, (World.cell?_setCell_other _ _ _ _ (by simp)).trans h.ref, (World.cell?_setCell_other _ _ _ _ (by simp)).trans h.esc, (World.cell?_setCell_other _ _ _ _ (by simp)).trans h.hex, (World.cell?_setCell_other _ _ _ _ (by simp)).trans h.pct, (World.cell?_setCell_other _ _ _ _ (by simp)).trans h.far⟩
theorem SxAt.setName {w : World} {g : Nat} {s : Pl.Sx} (h : SxAt w g s) (n : List UInt8) : SxAt (w.setCell ⟨g, 1, none⟩ (.string ⟨n.toArray⟩)) g ⟨⟨s.st.mode, n, s.st.elem, s.st.kind, s.st.read, s.st.esc⟩, ⟨s.ma.ref, s.ma.hex, s.ma.pct, s.ma.far⟩⟩ :=
  ⟨(World.cell?_setCell_other _ _ _ _ (by simp)).trans h.mode, World.cell?_setCell_same _ _ _ h.name, (World.cell?_setCell_other _ _ _ _ (by simp)).trans h.elem, (World.cell?_setCell_other _ _ _ _ (by simp)).trans h.kind, (World.cell?_setCell_other _ _ _ _ (by simp)).trans h.read, (World.cell?_setCell_other _ _ _ _ (by simp)).trans h.ref, (World.cell?_setCell_other _ _ _ _ (by simp)).trans h.esc, (World.cell?_setCell_other _ _ _ _ (by simp)).trans h.hex, (World.cell?_setCell_other _ _ _ _ (by simp)).trans h.pct, (World.cell?_setCell_other _ _ _ _ (by simp)).trans h.far⟩
theorem SxAt.setKind {w : World} {g : Nat} {s : Pl.Sx} (h : SxAt w g s) (k : Int) : SxAt (w.setCell ⟨g, 3, none⟩ (.int .i64 k)) g ⟨⟨s.st.mode, s.st.name, s.st.elem, k, s.st.read, s.st.esc⟩, ⟨s.ma.ref, s.ma.hex, s.ma.pct, s.ma.far⟩⟩ :=
  ⟨(World.cell?_setCell_other _ _ _ _ (by simp)).trans h.mode, (World.cell?_setCell_other _ _ _ _ (by simp)).trans h.name, (World.cell?_setCell_other _ _ _ _ (by simp)).trans h.elem, World.cell?_setCell_same _ _ _ h.kind, (World.cell?_setCell_other _ _ _ _ (by simp)).trans h.read, (World.cell?_setCell_other _ _ _ _ (by simp)).trans h.ref, (World.cell?_setCell_other _ _ _ _ (by simp)).trans h.esc, (World.cell?_setCell_other _ _ _ _ (by simp)).trans h.hex, (World.cell?_setCell_other _ _ _ _ (by simp)).trans h.pct, (World.cell?_setCell_other _ _ _ _ (by simp)).trans h.far⟩
theorem SxAt.setRead {w : World} {g : Nat} {s : Pl.Sx} (h : SxAt w g s) (r : Nat) : SxAt (w.setCell ⟨g, 4, none⟩ (.int .i64 (r : Int))) g ⟨⟨s.st.mode, s.st.name, s.st.elem, s.st.kind, r, s.st.esc⟩, ⟨s.ma.ref, s.ma.hex, s.ma.pct, s.ma.far⟩⟩ :=
  ⟨(World.cell?_setCell_other _ _ _ _ (by simp)).trans h.mode, (World.cell?_setCell_other _ _ _ _ (by simp)).trans h.name, (World.cell?_setCell_other _ _ _ _ (by simp)).trans h.elem, (World.cell?_setCell_other _ _ _ _ (by simp)).trans h.kind, World.cell?_setCell_same _ _ _ h.read, (World.cell?_setCell_other _ _ _ _ (by simp)).trans h.ref, (World.cell?_setCell_other _ _ _ _ (by simp)).trans h.esc, (World.cell?_setCell_other _ _ _ _ (by simp)).trans h.hex, (World.cell?_setCell_other _ _ _ _ (by simp)).trans h.pct, (World.cell?_setCell_other _ _ _ _ (by simp)).trans h.far⟩
theorem SxAt.setRef {w : World} {g : Nat} {s : Pl.Sx} (h : SxAt w g s) (r : Bool) : SxAt (w.setCell ⟨g, 5, none⟩ (.bool r)) g ⟨⟨s.st.mode, s.st.name, s.st.elem, s.st.kind, s.st.read, s.st.esc⟩, ⟨r, s.ma.hex, s.ma.pct, s.ma.far⟩⟩ :=
  ⟨(World.cell?_setCell_other _ _ _ _ (by simp)).trans h.mode, (World.cell?_setCell_other _ _ _ _ (by simp)).trans h.name, (World.cell?_setCell_other _ _ _ _ (by simp)).trans h.elem, (World.cell?_setCell_other _ _ _ _ (by simp)).trans h.kind, (World.cell?_setCell_other _ _ _ _ (by simp)).trans h.read, World.cell?_setCell_same _ _ _ h.ref, (World.cell?_setCell_other _ _ _ _ (by simp)).trans h.esc, (World.cell?_setCell_other _ _ _ _ (by simp)).trans h.hex, (World.cell?_setCell_other _ _ _ _ (by simp)).trans h.pct, (World.cell?_setCell_other _ _ _ _ (by simp)).trans h.far⟩
theorem SxAt.setEsc {w : World} {g : Nat} {s : Pl.Sx} (h : SxAt w g s) (e : Bool) : SxAt (w.setCell ⟨g, 6, none⟩ (.bool e)) g ⟨⟨s.st.mode, s.st.name, s.st.elem, s.st.kind, s.st.read, e⟩, ⟨s.ma.ref, s.ma.hex, s.ma.pct, s.ma.far⟩⟩ :=
  ⟨(World.cell?_setCell_other _ _ _ _ (by simp)).trans h.mode, (World.cell?_setCell_other _ _ _ _ (by simp)).trans h.name, (World.cell?_setCell_other _ _ _ _ (by simp)).trans h.elem, (World.cell?_setCell_other _ _ _ _ (by simp)).trans h.kind, (World.cell?_setCell_other _ _ _ _ (by simp)).trans h.read, (World.cell?_setCell_other _ _ _ _ (by simp)).trans h.ref, World.cell?_setCell_same _ _ _ h.esc, (World.cell?_setCell_other _ _ _ _ (by simp)).trans h.hex, (World.cell?_setCell_other _ _ _ _ (by simp)).trans h.pct, (World.cell?_setCell_other _ _ _ _ (by simp)).trans h.far⟩
theorem SxAt.setHex {w : World} {g : Nat} {s : Pl.Sx} (h : SxAt w g s) (r : Int) : SxAt (w.setCell ⟨g, 7, none⟩ (.int .i64 r)) g ⟨⟨s.st.mode, s.st.name, s.st.elem, s.st.kind, s.st.read, s.st.esc⟩, ⟨s.ma.ref, r, s.ma.pct, s.ma.far⟩⟩ :=
  ⟨(World.cell?_setCell_other _ _ _ _ (by simp)).trans h.mode, (World.cell?_setCell_other _ _ _ _ (by simp)).trans h.name, (World.cell?_setCell_other _ _ _ _ (by simp)).trans h.elem, (World.cell?_setCell_other _ _ _ _ (by simp)).trans h.kind, (World.cell?_setCell_other _ _ _ _ (by simp)).trans h.read, (World.cell?_setCell_other _ _ _ _ (by simp)).trans h.ref, (World.cell?_setCell_other _ _ _ _ (by simp)).trans h.esc, World.cell?_setCell_same _ _ _ h.hex, (World.cell?_setCell_other _ _ _ _ (by simp)).trans h.pct, (World.cell?_setCell_other _ _ _ _ (by simp)).trans h.far⟩
theorem SxAt.setPct {w : World} {g : Nat} {s : Pl.Sx} (h : SxAt w g s) (r : Int) : SxAt (w.setCell ⟨g, 8, none⟩ (.int .i64 r)) g ⟨⟨s.st.mode, s.st.name, s.st.elem, s.st.kind, s.st.read, s.st.esc⟩, ⟨s.ma.ref, s.ma.hex, r, s.ma.far⟩⟩ :=
  ⟨(World.cell?_setCell_other _ _ _ _ (by simp)).trans h.mode, (World.cell?_setCell_other _ _ _ _ (by simp)).trans h.name, (World.cell?_setCell_other _ _ _ _ (by simp)).trans h.elem, (World.cell?_setCell_other _ _ _ _ (by simp)).trans h.kind, (World.cell?_setCell_other _ _ _ _ (by simp)).trans h.read, (World.cell?_setCell_other _ _ _ _ (by simp)).trans h.ref, (World.cell?_setCell_other _ _ _ _ (by simp)).trans h.esc, (World.cell?_setCell_other _ _ _ _ (by simp)).trans h.hex, World.cell?_setCell_same _ _ _ h.pct, (World.cell?_setCell_other _ _ _ _ (by simp)).trans h.far⟩
theorem SxAt.setFar {w : World} {g : Nat} {s : Pl.Sx} (h : SxAt w g s) (r : Int) : SxAt (w.setCell ⟨g, 9, none⟩ (.int .i64 r)) g ⟨⟨s.st.mode, s.st.name, s.st.elem, s.st.kind, s.st.read, s.st.esc⟩, ⟨s.ma.ref, s.ma.hex, s.ma.pct, r⟩⟩ :=
  ⟨(World.cell?_setCell_other _ _ _ _ (by simp)).trans h.mode, (World.cell?_setCell_other _ _ _ _ (by simp)).trans h.name, (World.cell?_setCell_other _ _ _ _ (by simp)).trans h.elem, (World.cell?_setCell_other _ _ _ _ (by simp)).trans h.kind, (World.cell?_setCell_other _ _ _ _ (by simp)).trans h.read, (World.cell?_setCell_other _ _ _ _ (by simp)).trans h.ref, (World.cell?_setCell_other _ _ _ _ (by simp)).trans h.esc, (World.cell?_setCell_other _ _ _ _ (by simp)).trans h.hex, (World.cell?_setCell_other _ _ _ _ (by simp)).trans h.pct, World.cell?_setCell_same _ _ _ h.far⟩

/-- all that is known while a state is turned: the state at g, the answer's slot behind it, the tables -/
structure Mid (w0 w : World) (g : Nat) (s : Pl.Sx) : Prop where
  eq : w0.heap.size = g
  tabs0 : PTabs w0
  below : Below w0.heap.size w0 w
  at' : SxAt w g s
  slot : SlotN 10 w g
  res : SlotN 10 w (g + 1)
theorem Mid.tabs {w0 w : World} {g : Nat} {s : Pl.Sx} (h : Mid w0 w g s) : PTabs w := h.tabs0.kept h.below
theorem Mid.start {w0 : World} (s : Pl.Sx) (ht : PTabs w0) (cs : Array Value) (t t' : TypeId) (hc : cs.size = 10) : Mid w0 ((w0.alloc (.cells (sxCells s) t)).alloc (.cells cs t')) w0.heap.size s :=
  ⟨rfl, ht, ((Below.refl _ _).alloc (Nat.le_refl _) _).alloc (by simp) _, (sxAt_alloc w0 s t).alloc (by simp) _, (slotN_new 10 w0 _ _ _ rfl rfl).alloc _, slotN_new 10 _ _ _ _ (by simp) hc⟩
theorem Mid.kept {w0 w w' : World} {g : Nat} {s : Pl.Sx} (h : Mid w0 w g s) (hb : Below w.heap.size w w') : Mid w0 w' g s :=
  ⟨h.eq, h.tabs0, h.below.trans (hb.mono h.below.size), h.at'.kept hb h.slot.lt, h.slot.kept hb h.slot.lt, h.res.kept hb h.res.lt⟩
theorem Mid.alloc {w0 w : World} {g : Nat} {s : Pl.Sx} (h : Mid w0 w g s) (o : Obj) : Mid w0 (w.alloc o) g s := h.kept ((Below.refl _ w).alloc (Nat.le_refl _) o)
theorem Mid.drew {w0 w : World} {g : Nat} {s : Pl.Sx} (h : Mid w0 w g s) : Mid w0 w.drew g s := h.kept (Below.refl _ w).drew
theorem Mid.setMode {w0 w : World} {g : Nat} {s : Pl.Sx} (h : Mid w0 w g s) (m : Nat) (z : Int) (hz : z = (m : Int)) : Mid w0 (w.setCell ⟨g, 0, none⟩ (.int .u8 z)) g ⟨⟨m, s.st.name, s.st.elem, s.st.kind, s.st.read, s.st.esc⟩, ⟨s.ma.ref, s.ma.hex, s.ma.pct, s.ma.far⟩⟩ :=
  ⟨h.eq, h.tabs0, h.below.setCell (p := ⟨g, 0, none⟩) (Nat.le_of_eq h.eq) _, h.at'.setMode m z hz, h.slot.set _ _, h.res.set _ _⟩
theorem Mid.setName {w0 w : World} {g : Nat} {s : Pl.Sx} (h : Mid w0 w g s) (n : List UInt8) : Mid w0 (w.setCell ⟨g, 1, none⟩ (.string ⟨n.toArray⟩)) g ⟨⟨s.st.mode, n, s.st.elem, s.st.kind, s.st.read, s.st.esc⟩, ⟨s.ma.ref, s.ma.hex, s.ma.pct, s.ma.far⟩⟩ :=
  ⟨h.eq, h.tabs0, h.below.setCell (p := ⟨g, 1, none⟩) (Nat.le_of_eq h.eq) _, h.at'.setName n, h.slot.set _ _, h.res.set _ _⟩
theorem Mid.setKind {w0 w : World} {g : Nat} {s : Pl.Sx} (h : Mid w0 w g s) (k : Int) : Mid w0 (w.setCell ⟨g, 3, none⟩ (.int .i64 k)) g ⟨⟨s.st.mode, s.st.name, s.st.elem, k, s.st.read, s.st.esc⟩, ⟨s.ma.ref, s.ma.hex, s.ma.pct, s.ma.far⟩⟩ :=
  ⟨h.eq, h.tabs0, h.below.setCell (p := ⟨g, 3, none⟩) (Nat.le_of_eq h.eq) _, h.at'.setKind k, h.slot.set _ _, h.res.set _ _⟩
theorem Mid.setRead {w0 w : World} {g : Nat} {s : Pl.Sx} (h : Mid w0 w g s) (r : Nat) : Mid w0 (w.setCell ⟨g, 4, none⟩ (.int .i64 (r : Int))) g ⟨⟨s.st.mode, s.st.name, s.st.elem, s.st.kind, r, s.st.esc⟩, ⟨s.ma.ref, s.ma.hex, s.ma.pct, s.ma.far⟩⟩ :=
  ⟨h.eq, h.tabs0, h.below.setCell (p := ⟨g, 4, none⟩) (Nat.le_of_eq h.eq) _, h.at'.setRead r, h.slot.set _ _, h.res.set _ _⟩
theorem Mid.setRef {w0 w : World} {g : Nat} {s : Pl.Sx} (h : Mid w0 w g s) (r : Bool) : Mid w0 (w.setCell ⟨g, 5, none⟩ (.bool r)) g ⟨⟨s.st.mode, s.st.name, s.st.elem, s.st.kind, s.st.read, s.st.esc⟩, ⟨r, s.ma.hex, s.ma.pct, s.ma.far⟩⟩ :=
  ⟨h.eq, h.tabs0, h.below.setCell (p := ⟨g, 5, none⟩) (Nat.le_of_eq h.eq) _, h.at'.setRef r, h.slot.set _ _, h.res.set _ _⟩
theorem Mid.setEsc {w0 w : World} {g : Nat} {s : Pl.Sx} (h : Mid w0 w g s) (e : Bool) : Mid w0 (w.setCell ⟨g, 6, none⟩ (.bool e)) g ⟨⟨s.st.mode, s.st.name, s.st.elem, s.st.kind, s.st.read, e⟩, ⟨s.ma.ref, s.ma.hex, s.ma.pct, s.ma.far⟩⟩ :=
  ⟨h.eq, h.tabs0, h.below.setCell (p := ⟨g, 6, none⟩) (Nat.le_of_eq h.eq) _, h.at'.setEsc e, h.slot.set _ _, h.res.set _ _⟩
theorem Mid.setHex {w0 w : World} {g : Nat} {s : Pl.Sx} (h : Mid w0 w g s) (r : Int) : Mid w0 (w.setCell ⟨g, 7, none⟩ (.int .i64 r)) g ⟨⟨s.st.mode, s.st.name, s.st.elem, s.st.kind, s.st.read, s.st.esc⟩, ⟨s.ma.ref, r, s.ma.pct, s.ma.far⟩⟩ :=
  ⟨h.eq, h.tabs0, h.below.setCell (p := ⟨g, 7, none⟩) (Nat.le_of_eq h.eq) _, h.at'.setHex r, h.slot.set _ _, h.res.set _ _⟩
theorem Mid.setPct {w0 w : World} {g : Nat} {s : Pl.Sx} (h : Mid w0 w g s) (r : Int) : Mid w0 (w.setCell ⟨g, 8, none⟩ (.int .i64 r)) g ⟨⟨s.st.mode, s.st.name, s.st.elem, s.st.kind, s.st.read, s.st.esc⟩, ⟨s.ma.ref, s.ma.hex, r, s.ma.far⟩⟩ :=
  ⟨h.eq, h.tabs0, h.below.setCell (p := ⟨g, 8, none⟩) (Nat.le_of_eq h.eq) _, h.at'.setPct r, h.slot.set _ _, h.res.set _ _⟩
theorem Mid.setFar {w0 w : World} {g : Nat} {s : Pl.Sx} (h : Mid w0 w g s) (r : Int) : Mid w0 (w.setCell ⟨g, 9, none⟩ (.int .i64 r)) g ⟨⟨s.st.mode, s.st.name, s.st.elem, s.st.kind, s.st.read, s.st.esc⟩, ⟨s.ma.ref, s.ma.hex, s.ma.pct, r⟩⟩ :=
  ⟨h.eq, h.tabs0, h.below.setCell (p := ⟨g, 9, none⟩) (Nat.le_of_eq h.eq) _, h.at'.setFar r, h.slot.set _ _, h.res.set _ _⟩
theorem Mid.setMarks {w0 w : World} {g : Nat} {s : Pl.Sx} (h : Mid w0 w g s) (e : Bool) (k : Pl.Mk) : Mid w0 (setM w g (.bool k.ref) (.bool e) (.int .i64 k.hex) (.int .i64 k.pct) (.int .i64 k.far)) g ⟨⟨s.st.mode, s.st.name, s.st.elem, s.st.kind, s.st.read, e⟩, k⟩ :=
  ((((h.setRef k.ref).setEsc e).setHex k.hex).setPct k.pct).setFar k.far

end Go.Proofs.YtfkhljmiehdgmaaGreatDoor

/-
  The walks of package markup: the state behind a byte that leads to the mode in which one is.
-/
namespace Go.Proofs.YtfkhljmiehdgmaaGreatDoor
open Go.RowKit

set_option maxRecDepth 100000 in
set_option maxHeartbeats 3200000 in
theorem led_same3f (s : Pl.St) (k : Pl.Mk) (b : UInt8) (w : World) (ht : PTabs w) (hx : -1000 ≤ k.hex ∧ k.hex ≤ 1000) (hy : -1000 ≤ k.pct ∧ k.pct ≤ 1000) (he : s.esc = false) (hm : s.mode = 3) (h9 : s.name.length = 9) :
    Calls Tryz.prog 96 #[sxVal ⟨s, k⟩, .int .u8 3, .int .u8 b.toNat] w fun e w' => e = .returned (sxVal (Pl.Sx.led ⟨s, k⟩ 3 b)) ∧ Below w.heap.size w w' := by
  have HV : Hid (Pl.Sx.led ⟨s, k⟩ 3 b = ⟨⟨3, Pl.longer s.name b, s.elem, s.kind, s.read, false⟩, Pl.stayedMk s.kind s.mode k b⟩) := by
    show Pl.Sx.mk _ _ = _
    have h1 : s.led 3 b = ⟨3, Pl.longer s.name b, s.elem, s.kind, s.read, s.esc⟩ := by unfold Pl.St.led; rw [if_pos hm.symm]; rfl
    have h2 : Pl.ledMk s k 3 b = Pl.stayedMk s.kind s.mode k b := by unfold Pl.ledMk; rw [if_pos ⟨hm.symm, by omega⟩]
    show Pl.Sx.mk (s.led 3 b) (Pl.ledMk s k 3 b) = _
    rw [h1, h2, he]
  rw [HV.out]
  have hS := fun w => stayed_any ⟨s, k⟩ b w hx hy
  have HM := fun t t' cs hc => Mid.start ⟨s, k⟩ ht cs t t' hc
  generalize Pl.stayedMk s.kind s.mode k b = K at hS ⊢
  unfold mkVal mkCells at hS
  unfold sxVal at hS ⊢
  unfold sxCells bs at hS HM ⊢
  simp only at hS HM ⊢
  rw [he, hm] at hS HM ⊢
  have HS := (show Hid _ from hS)
  have HMM := (show Hid _ from HM)
  clear hS HV HM ht hx hy
  go_enter Tryz.func96, Tryz.ntmps96
  go_wp2_with fail
  refine (HS.out _).mono ?_
  rintro e w1 ⟨rfl, hb1⟩
  have mid := (HMM.out _ _ _ rfl).kept hb1
  clear hb1 HS HMM
  have q0 := mid.at'.mode
  have q1 := mid.at'.name
  have q2 := mid.at'.elem
  have q3 := mid.at'.kind
  have q4 := mid.at'.read
  have q5 := mid.at'.ref
  have q6 := mid.at'.esc
  have q7 := mid.at'.hex
  have q8 := mid.at'.pct
  have q9 := mid.at'.far
  have f0 := mid.slot.thaw 0
  have f1 := mid.slot.thaw 1
  have f2 := mid.slot.thaw 2
  have f3 := mid.slot.thaw 3
  have f4 := mid.slot.thaw 4
  have f5 := mid.slot.thaw 5
  have f6 := mid.slot.thaw 6
  have f7 := mid.slot.thaw 7
  have f8 := mid.slot.thaw 8
  have f9 := mid.slot.thaw 9
  go_wp2_with fail
  clear q0 q1 q2 q3 q4 q5 q6 q7 q8 q9 f0 f1 f2 f3 f4 f5 f6 f7 f8 f9
  have mid2 := (((((mid.setRef K.ref).setEsc false).setHex K.hex).setPct K.pct).setFar K.far).setMode 3 3 rfl
  clear mid
  generalize (World.setCell _ _ _) = w2 at mid2 ⊢
  have mid := mid2
  clear mid2
  have q0 := mid.at'.mode
  have q1 := mid.at'.name
  have q2 := mid.at'.elem
  have q3 := mid.at'.kind
  have q4 := mid.at'.read
  have q5 := mid.at'.ref
  have q6 := mid.at'.esc
  have q7 := mid.at'.hex
  have q8 := mid.at'.pct
  have q9 := mid.at'.far
  have f0 := mid.slot.thaw 0
  have f1 := mid.slot.thaw 1
  have f2 := mid.slot.thaw 2
  have f3 := mid.slot.thaw 3
  have f4 := mid.slot.thaw 4
  have f5 := mid.slot.thaw 5
  have f6 := mid.slot.thaw 6
  have f7 := mid.slot.thaw 7
  have f8 := mid.slot.thaw 8
  have f9 := mid.slot.thaw 9
  refine (longer_full s.name b _ h9).mono ?_
  rintro e w' ⟨rfl, rfl⟩
  obtain ⟨v0, p0⟩ := mid.res.cell 0 (by omega)
  obtain ⟨v1, p1⟩ := mid.res.cell 1 (by omega)
  obtain ⟨v2, p2⟩ := mid.res.cell 2 (by omega)
  obtain ⟨v3, p3⟩ := mid.res.cell 3 (by omega)
  obtain ⟨v4, p4⟩ := mid.res.cell 4 (by omega)
  obtain ⟨v5, p5⟩ := mid.res.cell 5 (by omega)
  obtain ⟨v6, p6⟩ := mid.res.cell 6 (by omega)
  obtain ⟨v7, p7⟩ := mid.res.cell 7 (by omega)
  obtain ⟨v8, p8⟩ := mid.res.cell 8 (by omega)
  obtain ⟨v9, p9⟩ := mid.res.cell 9 (by omega)
  have g0 := mid.res.thaw 0
  have g1 := mid.res.thaw 1
  have g2 := mid.res.thaw 2
  have g3 := mid.res.thaw 3
  have g4 := mid.res.thaw 4
  have g5 := mid.res.thaw 5
  have g6 := mid.res.thaw 6
  have g7 := mid.res.thaw 7
  have g8 := mid.res.thaw 8
  have g9 := mid.res.thaw 9
  go_wp2_with fail
  have mid := (mid.setName (Pl.longer s.name b))
  refine bodyPost_set10 Tryz.results96 (w.heap.size + 1) _ Tryz.underlying162 rfl (by kernel_rfl) rfl mid.res rfl _ _ _ _ _ _ _ _ _ _ ?_
  exact ⟨rfl, below_set10 mid.below (by simp) _ _ _ _ _ _ _ _ _ _⟩

set_option maxRecDepth 100000 in
set_option maxHeartbeats 3200000 in
theorem led_same3m (s : Pl.St) (k : Pl.Mk) (b : UInt8) (w : World) (ht : PTabs w) (hx : -1000 ≤ k.hex ∧ k.hex ≤ 1000) (hy : -1000 ≤ k.pct ∧ k.pct ≤ 1000) (he : s.esc = false) (hm : s.mode = 3) (hn : s.name.length ≤ 9) (h9 : ¬ s.name.length = 9) :
    Calls Tryz.prog 96 #[sxVal ⟨s, k⟩, .int .u8 3, .int .u8 b.toNat] w fun e w' => e = .returned (sxVal (Pl.Sx.led ⟨s, k⟩ 3 b)) ∧ Below w.heap.size w w' := by
  have HV : Hid (Pl.Sx.led ⟨s, k⟩ 3 b = ⟨⟨3, Pl.longer s.name b, s.elem, s.kind, s.read, false⟩, Pl.stayedMk s.kind s.mode k b⟩) := by
    show Pl.Sx.mk _ _ = _
    have h1 : s.led 3 b = ⟨3, Pl.longer s.name b, s.elem, s.kind, s.read, s.esc⟩ := by unfold Pl.St.led; rw [if_pos hm.symm]; rfl
    have h2 : Pl.ledMk s k 3 b = Pl.stayedMk s.kind s.mode k b := by unfold Pl.ledMk; rw [if_pos ⟨hm.symm, by omega⟩]
    show Pl.Sx.mk (s.led 3 b) (Pl.ledMk s k 3 b) = _
    rw [h1, h2, he]
  rw [HV.out]
  have hS := fun w => stayed_any ⟨s, k⟩ b w hx hy
  have HM := fun t t' cs hc => Mid.start ⟨s, k⟩ ht cs t t' hc
  generalize Pl.stayedMk s.kind s.mode k b = K at hS ⊢
  unfold mkVal mkCells at hS
  unfold sxVal at hS ⊢
  unfold sxCells bs at hS HM ⊢
  simp only at hS HM ⊢
  rw [he, hm] at hS HM ⊢
  have HS := (show Hid _ from hS)
  have HMM := (show Hid _ from HM)
  clear hS HV HM ht hx hy
  go_enter Tryz.func96, Tryz.ntmps96
  go_wp2_with fail
  refine (HS.out _).mono ?_
  rintro e w1 ⟨rfl, hb1⟩
  have mid := (HMM.out _ _ _ rfl).kept hb1
  clear hb1 HS HMM
  have q0 := mid.at'.mode
  have q1 := mid.at'.name
  have q2 := mid.at'.elem
  have q3 := mid.at'.kind
  have q4 := mid.at'.read
  have q5 := mid.at'.ref
  have q6 := mid.at'.esc
  have q7 := mid.at'.hex
  have q8 := mid.at'.pct
  have q9 := mid.at'.far
  have f0 := mid.slot.thaw 0
  have f1 := mid.slot.thaw 1
  have f2 := mid.slot.thaw 2
  have f3 := mid.slot.thaw 3
  have f4 := mid.slot.thaw 4
  have f5 := mid.slot.thaw 5
  have f6 := mid.slot.thaw 6
  have f7 := mid.slot.thaw 7
  have f8 := mid.slot.thaw 8
  have f9 := mid.slot.thaw 9
  go_wp2_with fail
  clear q0 q1 q2 q3 q4 q5 q6 q7 q8 q9 f0 f1 f2 f3 f4 f5 f6 f7 f8 f9
  have mid2 := (((((mid.setRef K.ref).setEsc false).setHex K.hex).setPct K.pct).setFar K.far).setMode 3 3 rfl
  clear mid
  generalize (World.setCell _ _ _) = w2 at mid2 ⊢
  have mid := mid2
  clear mid2
  have q0 := mid.at'.mode
  have q1 := mid.at'.name
  have q2 := mid.at'.elem
  have q3 := mid.at'.kind
  have q4 := mid.at'.read
  have q5 := mid.at'.ref
  have q6 := mid.at'.esc
  have q7 := mid.at'.hex
  have q8 := mid.at'.pct
  have q9 := mid.at'.far
  have f0 := mid.slot.thaw 0
  have f1 := mid.slot.thaw 1
  have f2 := mid.slot.thaw 2
  have f3 := mid.slot.thaw 3
  have f4 := mid.slot.thaw 4
  have f5 := mid.slot.thaw 5
  have f6 := mid.slot.thaw 6
  have f7 := mid.slot.thaw 7
  have f8 := mid.slot.thaw 8
  have f9 := mid.slot.thaw 9
  refine (longer_more s.name b _ hn h9).mono ?_
  rintro e w' ⟨rfl, rfl⟩
  clear q0 q1 q2 q3 q4 q5 q6 q7 q8 q9 f0 f1 f2 f3 f4 f5 f6 f7 f8 f9
  have mid2 := mid.alloc (.cells #[.int .u8 (Pl.small b).toNat] 5)
  clear mid
  generalize (w2.alloc (.cells #[.int .u8 (Pl.small b).toNat] 5)) = w3 at mid2 ⊢
  have mid := mid2
  clear mid2
  have q0 := mid.at'.mode
  have q1 := mid.at'.name
  have q2 := mid.at'.elem
  have q3 := mid.at'.kind
  have q4 := mid.at'.read
  have q5 := mid.at'.ref
  have q6 := mid.at'.esc
  have q7 := mid.at'.hex
  have q8 := mid.at'.pct
  have q9 := mid.at'.far
  have f0 := mid.slot.thaw 0
  have f1 := mid.slot.thaw 1
  have f2 := mid.slot.thaw 2
  have f3 := mid.slot.thaw 3
  have f4 := mid.slot.thaw 4
  have f5 := mid.slot.thaw 5
  have f6 := mid.slot.thaw 6
  have f7 := mid.slot.thaw 7
  have f8 := mid.slot.thaw 8
  have f9 := mid.slot.thaw 9
  obtain ⟨v0, p0⟩ := mid.res.cell 0 (by omega)
  obtain ⟨v1, p1⟩ := mid.res.cell 1 (by omega)
  obtain ⟨v2, p2⟩ := mid.res.cell 2 (by omega)
  obtain ⟨v3, p3⟩ := mid.res.cell 3 (by omega)
  obtain ⟨v4, p4⟩ := mid.res.cell 4 (by omega)
  obtain ⟨v5, p5⟩ := mid.res.cell 5 (by omega)
  obtain ⟨v6, p6⟩ := mid.res.cell 6 (by omega)
  obtain ⟨v7, p7⟩ := mid.res.cell 7 (by omega)
  obtain ⟨v8, p8⟩ := mid.res.cell 8 (by omega)
  obtain ⟨v9, p9⟩ := mid.res.cell 9 (by omega)
  have g0 := mid.res.thaw 0
  have g1 := mid.res.thaw 1
  have g2 := mid.res.thaw 2
  have g3 := mid.res.thaw 3
  have g4 := mid.res.thaw 4
  have g5 := mid.res.thaw 5
  have g6 := mid.res.thaw 6
  have g7 := mid.res.thaw 7
  have g8 := mid.res.thaw 8
  have g9 := mid.res.thaw 9
  go_wp2_with fail
  have mid := (mid.setName (Pl.longer s.name b))
  refine bodyPost_set10 Tryz.results96 (w.heap.size + 1) _ Tryz.underlying162 rfl (by kernel_rfl) rfl mid.res rfl _ _ _ _ _ _ _ _ _ _ ?_
  exact ⟨rfl, below_set10 mid.below (by simp) _ _ _ _ _ _ _ _ _ _⟩

set_option maxRecDepth 100000 in
set_option maxHeartbeats 3200000 in
theorem led_same5f (s : Pl.St) (k : Pl.Mk) (b : UInt8) (w : World) (ht : PTabs w) (hx : -1000 ≤ k.hex ∧ k.hex ≤ 1000) (hy : -1000 ≤ k.pct ∧ k.pct ≤ 1000) (he : s.esc = false) (hm : s.mode = 5) (h9 : s.name.length = 9) :
    Calls Tryz.prog 96 #[sxVal ⟨s, k⟩, .int .u8 5, .int .u8 b.toNat] w fun e w' => e = .returned (sxVal (Pl.Sx.led ⟨s, k⟩ 5 b)) ∧ Below w.heap.size w w' := by
  have HV : Hid (Pl.Sx.led ⟨s, k⟩ 5 b = ⟨⟨5, Pl.longer s.name b, s.elem, 0, s.read, false⟩, Pl.stayedMk s.kind s.mode k b⟩) := by
    show Pl.Sx.mk _ _ = _
    have h1 : s.led 5 b = ⟨5, Pl.longer s.name b, s.elem, 0, s.read, s.esc⟩ := by unfold Pl.St.led; rw [if_pos hm.symm]; rfl
    have h2 : Pl.ledMk s k 5 b = Pl.stayedMk s.kind s.mode k b := by unfold Pl.ledMk; rw [if_pos ⟨hm.symm, by omega⟩]
    show Pl.Sx.mk (s.led 5 b) (Pl.ledMk s k 5 b) = _
    rw [h1, h2, he]
  rw [HV.out]
  have hS := fun w => stayed_any ⟨s, k⟩ b w hx hy
  have HM := fun t t' cs hc => Mid.start ⟨s, k⟩ ht cs t t' hc
  generalize Pl.stayedMk s.kind s.mode k b = K at hS ⊢
  unfold mkVal mkCells at hS
  unfold sxVal at hS ⊢
  unfold sxCells bs at hS HM ⊢
  simp only at hS HM ⊢
  rw [he, hm] at hS HM ⊢
  have HS := (show Hid _ from hS)
  have HMM := (show Hid _ from HM)
  clear hS HV HM ht hx hy
  go_enter Tryz.func96, Tryz.ntmps96
  go_wp2_with fail
  refine (HS.out _).mono ?_
  rintro e w1 ⟨rfl, hb1⟩
  have mid := (HMM.out _ _ _ rfl).kept hb1
  clear hb1 HS HMM
  have q0 := mid.at'.mode
  have q1 := mid.at'.name
  have q2 := mid.at'.elem
  have q3 := mid.at'.kind
  have q4 := mid.at'.read
  have q5 := mid.at'.ref
  have q6 := mid.at'.esc
  have q7 := mid.at'.hex
  have q8 := mid.at'.pct
  have q9 := mid.at'.far
  have f0 := mid.slot.thaw 0
  have f1 := mid.slot.thaw 1
  have f2 := mid.slot.thaw 2
  have f3 := mid.slot.thaw 3
  have f4 := mid.slot.thaw 4
  have f5 := mid.slot.thaw 5
  have f6 := mid.slot.thaw 6
  have f7 := mid.slot.thaw 7
  have f8 := mid.slot.thaw 8
  have f9 := mid.slot.thaw 9
  go_wp2_with fail
  clear q0 q1 q2 q3 q4 q5 q6 q7 q8 q9 f0 f1 f2 f3 f4 f5 f6 f7 f8 f9
  have mid2 := (((((mid.setRef K.ref).setEsc false).setHex K.hex).setPct K.pct).setFar K.far).setMode 5 5 rfl
  clear mid
  generalize (World.setCell _ _ _) = w2 at mid2 ⊢
  have mid := mid2
  clear mid2
  have q0 := mid.at'.mode
  have q1 := mid.at'.name
  have q2 := mid.at'.elem
  have q3 := mid.at'.kind
  have q4 := mid.at'.read
  have q5 := mid.at'.ref
  have q6 := mid.at'.esc
  have q7 := mid.at'.hex
  have q8 := mid.at'.pct
  have q9 := mid.at'.far
  have f0 := mid.slot.thaw 0
  have f1 := mid.slot.thaw 1
  have f2 := mid.slot.thaw 2
  have f3 := mid.slot.thaw 3
  have f4 := mid.slot.thaw 4
  have f5 := mid.slot.thaw 5
  have f6 := mid.slot.thaw 6
  have f7 := mid.slot.thaw 7
  have f8 := mid.slot.thaw 8
  have f9 := mid.slot.thaw 9
  refine (longer_full s.name b _ h9).mono ?_
  rintro e w' ⟨rfl, rfl⟩
  obtain ⟨v0, p0⟩ := mid.res.cell 0 (by omega)
  obtain ⟨v1, p1⟩ := mid.res.cell 1 (by omega)
  obtain ⟨v2, p2⟩ := mid.res.cell 2 (by omega)
  obtain ⟨v3, p3⟩ := mid.res.cell 3 (by omega)
  obtain ⟨v4, p4⟩ := mid.res.cell 4 (by omega)
  obtain ⟨v5, p5⟩ := mid.res.cell 5 (by omega)
  obtain ⟨v6, p6⟩ := mid.res.cell 6 (by omega)
  obtain ⟨v7, p7⟩ := mid.res.cell 7 (by omega)
  obtain ⟨v8, p8⟩ := mid.res.cell 8 (by omega)
  obtain ⟨v9, p9⟩ := mid.res.cell 9 (by omega)
  have g0 := mid.res.thaw 0
  have g1 := mid.res.thaw 1
  have g2 := mid.res.thaw 2
  have g3 := mid.res.thaw 3
  have g4 := mid.res.thaw 4
  have g5 := mid.res.thaw 5
  have g6 := mid.res.thaw 6
  have g7 := mid.res.thaw 7
  have g8 := mid.res.thaw 8
  have g9 := mid.res.thaw 9
  go_wp2_with fail
  have mid := ((mid.setName (Pl.longer s.name b)).setKind 0)
  refine bodyPost_set10 Tryz.results96 (w.heap.size + 1) _ Tryz.underlying162 rfl (by kernel_rfl) rfl mid.res rfl _ _ _ _ _ _ _ _ _ _ ?_
  exact ⟨rfl, below_set10 mid.below (by simp) _ _ _ _ _ _ _ _ _ _⟩

set_option maxRecDepth 100000 in
set_option maxHeartbeats 3200000 in
theorem led_same5m (s : Pl.St) (k : Pl.Mk) (b : UInt8) (w : World) (ht : PTabs w) (hx : -1000 ≤ k.hex ∧ k.hex ≤ 1000) (hy : -1000 ≤ k.pct ∧ k.pct ≤ 1000) (he : s.esc = false) (hm : s.mode = 5) (hn : s.name.length ≤ 9) (h9 : ¬ s.name.length = 9) :
    Calls Tryz.prog 96 #[sxVal ⟨s, k⟩, .int .u8 5, .int .u8 b.toNat] w fun e w' => e = .returned (sxVal (Pl.Sx.led ⟨s, k⟩ 5 b)) ∧ Below w.heap.size w w' := by
  have HV : Hid (Pl.Sx.led ⟨s, k⟩ 5 b = ⟨⟨5, Pl.longer s.name b, s.elem, 0, s.read, false⟩, Pl.stayedMk s.kind s.mode k b⟩) := by
    show Pl.Sx.mk _ _ = _
    have h1 : s.led 5 b = ⟨5, Pl.longer s.name b, s.elem, 0, s.read, s.esc⟩ := by unfold Pl.St.led; rw [if_pos hm.symm]; rfl
    have h2 : Pl.ledMk s k 5 b = Pl.stayedMk s.kind s.mode k b := by unfold Pl.ledMk; rw [if_pos ⟨hm.symm, by omega⟩]
    show Pl.Sx.mk (s.led 5 b) (Pl.ledMk s k 5 b) = _
    rw [h1, h2, he]
  rw [HV.out]
  have hS := fun w => stayed_any ⟨s, k⟩ b w hx hy
  have HM := fun t t' cs hc => Mid.start ⟨s, k⟩ ht cs t t' hc
  generalize Pl.stayedMk s.kind s.mode k b = K at hS ⊢
  unfold mkVal mkCells at hS
  unfold sxVal at hS ⊢
  unfold sxCells bs at hS HM ⊢
  simp only at hS HM ⊢
  rw [he, hm] at hS HM ⊢
  have HS := (show Hid _ from hS)
  have HMM := (show Hid _ from HM)
  clear hS HV HM ht hx hy
  go_enter Tryz.func96, Tryz.ntmps96
  go_wp2_with fail
  refine (HS.out _).mono ?_
  rintro e w1 ⟨rfl, hb1⟩
  have mid := (HMM.out _ _ _ rfl).kept hb1
  clear hb1 HS HMM
  have q0 := mid.at'.mode
  have q1 := mid.at'.name
  have q2 := mid.at'.elem
  have q3 := mid.at'.kind
  have q4 := mid.at'.read
  have q5 := mid.at'.ref
  have q6 := mid.at'.esc
  have q7 := mid.at'.hex
  have q8 := mid.at'.pct
  have q9 := mid.at'.far
  have f0 := mid.slot.thaw 0
  have f1 := mid.slot.thaw 1
  have f2 := mid.slot.thaw 2
  have f3 := mid.slot.thaw 3
  have f4 := mid.slot.thaw 4
  have f5 := mid.slot.thaw 5
  have f6 := mid.slot.thaw 6
  have f7 := mid.slot.thaw 7
  have f8 := mid.slot.thaw 8
  have f9 := mid.slot.thaw 9
  go_wp2_with fail
  clear q0 q1 q2 q3 q4 q5 q6 q7 q8 q9 f0 f1 f2 f3 f4 f5 f6 f7 f8 f9
  have mid2 := (((((mid.setRef K.ref).setEsc false).setHex K.hex).setPct K.pct).setFar K.far).setMode 5 5 rfl
  clear mid
  generalize (World.setCell _ _ _) = w2 at mid2 ⊢
  have mid := mid2
  clear mid2
  have q0 := mid.at'.mode
  have q1 := mid.at'.name
  have q2 := mid.at'.elem
  have q3 := mid.at'.kind
  have q4 := mid.at'.read
  have q5 := mid.at'.ref
  have q6 := mid.at'.esc
  have q7 := mid.at'.hex
  have q8 := mid.at'.pct
  have q9 := mid.at'.far
  have f0 := mid.slot.thaw 0
  have f1 := mid.slot.thaw 1
  have f2 := mid.slot.thaw 2
  have f3 := mid.slot.thaw 3
  have f4 := mid.slot.thaw 4
  have f5 := mid.slot.thaw 5
  have f6 := mid.slot.thaw 6
  have f7 := mid.slot.thaw 7
  have f8 := mid.slot.thaw 8
  have f9 := mid.slot.thaw 9
  refine (longer_more s.name b _ hn h9).mono ?_
  rintro e w' ⟨rfl, rfl⟩
  clear q0 q1 q2 q3 q4 q5 q6 q7 q8 q9 f0 f1 f2 f3 f4 f5 f6 f7 f8 f9
  have mid2 := mid.alloc (.cells #[.int .u8 (Pl.small b).toNat] 5)
  clear mid
  generalize (w2.alloc (.cells #[.int .u8 (Pl.small b).toNat] 5)) = w3 at mid2 ⊢
  have mid := mid2
  clear mid2
  have q0 := mid.at'.mode
  have q1 := mid.at'.name
  have q2 := mid.at'.elem
  have q3 := mid.at'.kind
  have q4 := mid.at'.read
  have q5 := mid.at'.ref
  have q6 := mid.at'.esc
  have q7 := mid.at'.hex
  have q8 := mid.at'.pct
  have q9 := mid.at'.far
  have f0 := mid.slot.thaw 0
  have f1 := mid.slot.thaw 1
  have f2 := mid.slot.thaw 2
  have f3 := mid.slot.thaw 3
  have f4 := mid.slot.thaw 4
  have f5 := mid.slot.thaw 5
  have f6 := mid.slot.thaw 6
  have f7 := mid.slot.thaw 7
  have f8 := mid.slot.thaw 8
  have f9 := mid.slot.thaw 9
  obtain ⟨v0, p0⟩ := mid.res.cell 0 (by omega)
  obtain ⟨v1, p1⟩ := mid.res.cell 1 (by omega)
  obtain ⟨v2, p2⟩ := mid.res.cell 2 (by omega)
  obtain ⟨v3, p3⟩ := mid.res.cell 3 (by omega)
  obtain ⟨v4, p4⟩ := mid.res.cell 4 (by omega)
  obtain ⟨v5, p5⟩ := mid.res.cell 5 (by omega)
  obtain ⟨v6, p6⟩ := mid.res.cell 6 (by omega)
  obtain ⟨v7, p7⟩ := mid.res.cell 7 (by omega)
  obtain ⟨v8, p8⟩ := mid.res.cell 8 (by omega)
  obtain ⟨v9, p9⟩ := mid.res.cell 9 (by omega)
  have g0 := mid.res.thaw 0
  have g1 := mid.res.thaw 1
  have g2 := mid.res.thaw 2
  have g3 := mid.res.thaw 3
  have g4 := mid.res.thaw 4
  have g5 := mid.res.thaw 5
  have g6 := mid.res.thaw 6
  have g7 := mid.res.thaw 7
  have g8 := mid.res.thaw 8
  have g9 := mid.res.thaw 9
  go_wp2_with fail
  have mid := ((mid.setName (Pl.longer s.name b)).setKind 0)
  refine bodyPost_set10 Tryz.results96 (w.heap.size + 1) _ Tryz.underlying162 rfl (by kernel_rfl) rfl mid.res rfl _ _ _ _ _ _ _ _ _ _ ?_
  exact ⟨rfl, below_set10 mid.below (by simp) _ _ _ _ _ _ _ _ _ _⟩

set_option maxRecDepth 100000 in
set_option maxHeartbeats 3200000 in
theorem led_same4 (s : Pl.St) (k : Pl.Mk) (b : UInt8) (w : World) (ht : PTabs w) (hx : -1000 ≤ k.hex ∧ k.hex ≤ 1000) (hy : -1000 ≤ k.pct ∧ k.pct ≤ 1000) (he : s.esc = false) (hm : s.mode = 4) :
    Calls Tryz.prog 96 #[sxVal ⟨s, k⟩, .int .u8 4, .int .u8 b.toNat] w fun e w' => e = .returned (sxVal (Pl.Sx.led ⟨s, k⟩ 4 b)) ∧ Below w.heap.size w w' := by
  have HV : Hid (Pl.Sx.led ⟨s, k⟩ 4 b = ⟨⟨4, s.name, s.elem, 0, s.read, false⟩, Pl.stayedMk s.kind s.mode k b⟩) := by
    show Pl.Sx.mk _ _ = _
    have h1 : s.led 4 b = ⟨4, s.name, s.elem, 0, s.read, s.esc⟩ := by unfold Pl.St.led; rw [if_pos hm.symm]; rfl
    have h2 : Pl.ledMk s k 4 b = Pl.stayedMk s.kind s.mode k b := by unfold Pl.ledMk; rw [if_pos ⟨hm.symm, by omega⟩]
    show Pl.Sx.mk (s.led 4 b) (Pl.ledMk s k 4 b) = _
    rw [h1, h2, he]
  rw [HV.out]
  have hS := fun w => stayed_any ⟨s, k⟩ b w hx hy
  have HM := fun t t' cs hc => Mid.start ⟨s, k⟩ ht cs t t' hc
  generalize Pl.stayedMk s.kind s.mode k b = K at hS ⊢
  unfold mkVal mkCells at hS
  unfold sxVal at hS ⊢
  unfold sxCells bs at hS HM ⊢
  simp only at hS HM ⊢
  rw [he, hm] at hS HM ⊢
  have HS := (show Hid _ from hS)
  have HMM := (show Hid _ from HM)
  clear hS HV HM ht hx hy
  go_enter Tryz.func96, Tryz.ntmps96
  go_wp2_with fail
  refine (HS.out _).mono ?_
  rintro e w1 ⟨rfl, hb1⟩
  have mid := (HMM.out _ _ _ rfl).kept hb1
  clear hb1 HS HMM
  have q0 := mid.at'.mode
  have q1 := mid.at'.name
  have q2 := mid.at'.elem
  have q3 := mid.at'.kind
  have q4 := mid.at'.read
  have q5 := mid.at'.ref
  have q6 := mid.at'.esc
  have q7 := mid.at'.hex
  have q8 := mid.at'.pct
  have q9 := mid.at'.far
  have f0 := mid.slot.thaw 0
  have f1 := mid.slot.thaw 1
  have f2 := mid.slot.thaw 2
  have f3 := mid.slot.thaw 3
  have f4 := mid.slot.thaw 4
  have f5 := mid.slot.thaw 5
  have f6 := mid.slot.thaw 6
  have f7 := mid.slot.thaw 7
  have f8 := mid.slot.thaw 8
  have f9 := mid.slot.thaw 9
  obtain ⟨v0, p0⟩ := mid.res.cell 0 (by omega)
  obtain ⟨v1, p1⟩ := mid.res.cell 1 (by omega)
  obtain ⟨v2, p2⟩ := mid.res.cell 2 (by omega)
  obtain ⟨v3, p3⟩ := mid.res.cell 3 (by omega)
  obtain ⟨v4, p4⟩ := mid.res.cell 4 (by omega)
  obtain ⟨v5, p5⟩ := mid.res.cell 5 (by omega)
  obtain ⟨v6, p6⟩ := mid.res.cell 6 (by omega)
  obtain ⟨v7, p7⟩ := mid.res.cell 7 (by omega)
  obtain ⟨v8, p8⟩ := mid.res.cell 8 (by omega)
  obtain ⟨v9, p9⟩ := mid.res.cell 9 (by omega)
  have g0 := mid.res.thaw 0
  have g1 := mid.res.thaw 1
  have g2 := mid.res.thaw 2
  have g3 := mid.res.thaw 3
  have g4 := mid.res.thaw 4
  have g5 := mid.res.thaw 5
  have g6 := mid.res.thaw 6
  have g7 := mid.res.thaw 7
  have g8 := mid.res.thaw 8
  have g9 := mid.res.thaw 9
  go_wp2_with fail
  have mid := (((((((mid.setRef K.ref).setEsc false).setHex K.hex).setPct K.pct).setFar K.far).setMode 4 4 rfl).setKind 0)
  refine bodyPost_set10 Tryz.results96 (w.heap.size + 1) _ Tryz.underlying162 rfl (by kernel_rfl) rfl mid.res rfl _ _ _ _ _ _ _ _ _ _ ?_
  exact ⟨rfl, below_set10 mid.below (by simp) _ _ _ _ _ _ _ _ _ _⟩

set_option maxRecDepth 100000 in
set_option maxHeartbeats 3200000 in
theorem led_same10 (s : Pl.St) (k : Pl.Mk) (b : UInt8) (w : World) (ht : PTabs w) (hx : -1000 ≤ k.hex ∧ k.hex ≤ 1000) (hy : -1000 ≤ k.pct ∧ k.pct ≤ 1000) (he : s.esc = false) (hm : s.mode = 10) :
    Calls Tryz.prog 96 #[sxVal ⟨s, k⟩, .int .u8 10, .int .u8 b.toNat] w fun e w' => e = .returned (sxVal (Pl.Sx.led ⟨s, k⟩ 10 b)) ∧ Below w.heap.size w w' := by
  have HV : Hid (Pl.Sx.led ⟨s, k⟩ 10 b = ⟨⟨10, s.name, s.elem, 0, s.read, false⟩, Pl.stayedMk s.kind s.mode k b⟩) := by
    show Pl.Sx.mk _ _ = _
    have h1 : s.led 10 b = ⟨10, s.name, s.elem, 0, s.read, s.esc⟩ := by unfold Pl.St.led; rw [if_pos hm.symm]; rfl
    have h2 : Pl.ledMk s k 10 b = Pl.stayedMk s.kind s.mode k b := by unfold Pl.ledMk; rw [if_pos ⟨hm.symm, by omega⟩]
    show Pl.Sx.mk (s.led 10 b) (Pl.ledMk s k 10 b) = _
    rw [h1, h2, he]
  rw [HV.out]
  have hS := fun w => stayed_any ⟨s, k⟩ b w hx hy
  have HM := fun t t' cs hc => Mid.start ⟨s, k⟩ ht cs t t' hc
  generalize Pl.stayedMk s.kind s.mode k b = K at hS ⊢
  unfold mkVal mkCells at hS
  unfold sxVal at hS ⊢
  unfold sxCells bs at hS HM ⊢
  simp only at hS HM ⊢
  rw [he, hm] at hS HM ⊢
  have HS := (show Hid _ from hS)
  have HMM := (show Hid _ from HM)
  clear hS HV HM ht hx hy
  go_enter Tryz.func96, Tryz.ntmps96
  go_wp2_with fail
  refine (HS.out _).mono ?_
  rintro e w1 ⟨rfl, hb1⟩
  have mid := (HMM.out _ _ _ rfl).kept hb1
  clear hb1 HS HMM
  have q0 := mid.at'.mode
  have q1 := mid.at'.name
  have q2 := mid.at'.elem
  have q3 := mid.at'.kind
  have q4 := mid.at'.read
  have q5 := mid.at'.ref
  have q6 := mid.at'.esc
  have q7 := mid.at'.hex
  have q8 := mid.at'.pct
  have q9 := mid.at'.far
  have f0 := mid.slot.thaw 0
  have f1 := mid.slot.thaw 1
  have f2 := mid.slot.thaw 2
  have f3 := mid.slot.thaw 3
  have f4 := mid.slot.thaw 4
  have f5 := mid.slot.thaw 5
  have f6 := mid.slot.thaw 6
  have f7 := mid.slot.thaw 7
  have f8 := mid.slot.thaw 8
  have f9 := mid.slot.thaw 9
  obtain ⟨v0, p0⟩ := mid.res.cell 0 (by omega)
  obtain ⟨v1, p1⟩ := mid.res.cell 1 (by omega)
  obtain ⟨v2, p2⟩ := mid.res.cell 2 (by omega)
  obtain ⟨v3, p3⟩ := mid.res.cell 3 (by omega)
  obtain ⟨v4, p4⟩ := mid.res.cell 4 (by omega)
  obtain ⟨v5, p5⟩ := mid.res.cell 5 (by omega)
  obtain ⟨v6, p6⟩ := mid.res.cell 6 (by omega)
  obtain ⟨v7, p7⟩ := mid.res.cell 7 (by omega)
  obtain ⟨v8, p8⟩ := mid.res.cell 8 (by omega)
  obtain ⟨v9, p9⟩ := mid.res.cell 9 (by omega)
  have g0 := mid.res.thaw 0
  have g1 := mid.res.thaw 1
  have g2 := mid.res.thaw 2
  have g3 := mid.res.thaw 3
  have g4 := mid.res.thaw 4
  have g5 := mid.res.thaw 5
  have g6 := mid.res.thaw 6
  have g7 := mid.res.thaw 7
  have g8 := mid.res.thaw 8
  have g9 := mid.res.thaw 9
  go_wp2_with fail
  have mid := (((((((mid.setRef K.ref).setEsc false).setHex K.hex).setPct K.pct).setFar K.far).setMode 10 10 rfl).setKind 0)
  refine bodyPost_set10 Tryz.results96 (w.heap.size + 1) _ Tryz.underlying162 rfl (by kernel_rfl) rfl mid.res rfl _ _ _ _ _ _ _ _ _ _ ?_
  exact ⟨rfl, below_set10 mid.below (by simp) _ _ _ _ _ _ _ _ _ _⟩

set_option maxRecDepth 100000 in
set_option maxHeartbeats 3200000 in
theorem led_sameo (s : Pl.St) (k : Pl.Mk) (b : UInt8) (w : World) (ht : PTabs w) (hx : -1000 ≤ k.hex ∧ k.hex ≤ 1000) (hy : -1000 ≤ k.pct ∧ k.pct ≤ 1000) (he : s.esc = false) (tq : Nat) (hm : s.mode = tq) (h3 : ¬ tq = 3) (h5 : ¬ tq = 5) (h4 : ¬ tq = 4) (h10 : ¬ tq = 10) (h34 : ¬ tq = 34) :
    Calls Tryz.prog 96 #[sxVal ⟨s, k⟩, .int .u8 tq, .int .u8 b.toNat] w fun e w' => e = .returned (sxVal (Pl.Sx.led ⟨s, k⟩ tq b)) ∧ Below w.heap.size w w' := by
  have HV : Hid (Pl.Sx.led ⟨s, k⟩ tq b = ⟨⟨tq, s.name, s.elem, s.kind, s.read, false⟩, Pl.stayedMk s.kind s.mode k b⟩) := by
    show Pl.Sx.mk _ _ = _
    have h1 : s.led tq b = ⟨tq, s.name, s.elem, s.kind, s.read, s.esc⟩ := by unfold Pl.St.led; rw [if_pos hm.symm]; unfold Pl.St.led1; rw [if_neg h3, if_neg h5, if_neg (by omega), if_neg h34]
    have h2 : Pl.ledMk s k tq b = Pl.stayedMk s.kind s.mode k b := by unfold Pl.ledMk; rw [if_pos ⟨hm.symm, by omega⟩]
    show Pl.Sx.mk (s.led tq b) (Pl.ledMk s k tq b) = _
    rw [h1, h2, he]
  rw [HV.out]
  have hS := fun w => stayed_any ⟨s, k⟩ b w hx hy
  have HM := fun t t' cs hc => Mid.start ⟨s, k⟩ ht cs t t' hc
  generalize Pl.stayedMk s.kind s.mode k b = K at hS ⊢
  unfold mkVal mkCells at hS
  unfold sxVal at hS ⊢
  unfold sxCells bs at hS HM ⊢
  simp only at hS HM ⊢
  rw [he, hm] at hS HM ⊢
  have HS := (show Hid _ from hS)
  have HMM := (show Hid _ from HM)
  clear hS HV HM ht hx hy
  have q3 : ((tq : Int) == 3) = false := by rw [beq_eq_false_iff_ne]; omega
  have q5 : ((tq : Int) == 5) = false := by rw [beq_eq_false_iff_ne]; omega
  have q4 : ((tq : Int) == 4) = false := by rw [beq_eq_false_iff_ne]; omega
  have q10 : ((tq : Int) == 10) = false := by rw [beq_eq_false_iff_ne]; omega
  have q34 : ((tq : Int) == 34) = false := by rw [beq_eq_false_iff_ne]; omega
  clear h3 h5 h4 h10 h34
  go_enter Tryz.func96, Tryz.ntmps96
  go_wp2_with fail
  refine (HS.out _).mono ?_
  rintro e w1 ⟨rfl, hb1⟩
  have mid := (HMM.out _ _ _ rfl).kept hb1
  clear hb1 HS HMM
  have q0 := mid.at'.mode
  have q1 := mid.at'.name
  have q2 := mid.at'.elem
  have q3 := mid.at'.kind
  have q4 := mid.at'.read
  have q5 := mid.at'.ref
  have q6 := mid.at'.esc
  have q7 := mid.at'.hex
  have q8 := mid.at'.pct
  have q9 := mid.at'.far
  have f0 := mid.slot.thaw 0
  have f1 := mid.slot.thaw 1
  have f2 := mid.slot.thaw 2
  have f3 := mid.slot.thaw 3
  have f4 := mid.slot.thaw 4
  have f5 := mid.slot.thaw 5
  have f6 := mid.slot.thaw 6
  have f7 := mid.slot.thaw 7
  have f8 := mid.slot.thaw 8
  have f9 := mid.slot.thaw 9
  obtain ⟨v0, p0⟩ := mid.res.cell 0 (by omega)
  obtain ⟨v1, p1⟩ := mid.res.cell 1 (by omega)
  obtain ⟨v2, p2⟩ := mid.res.cell 2 (by omega)
  obtain ⟨v3, p3⟩ := mid.res.cell 3 (by omega)
  obtain ⟨v4, p4⟩ := mid.res.cell 4 (by omega)
  obtain ⟨v5, p5⟩ := mid.res.cell 5 (by omega)
  obtain ⟨v6, p6⟩ := mid.res.cell 6 (by omega)
  obtain ⟨v7, p7⟩ := mid.res.cell 7 (by omega)
  obtain ⟨v8, p8⟩ := mid.res.cell 8 (by omega)
  obtain ⟨v9, p9⟩ := mid.res.cell 9 (by omega)
  have g0 := mid.res.thaw 0
  have g1 := mid.res.thaw 1
  have g2 := mid.res.thaw 2
  have g3 := mid.res.thaw 3
  have g4 := mid.res.thaw 4
  have g5 := mid.res.thaw 5
  have g6 := mid.res.thaw 6
  have g7 := mid.res.thaw 7
  have g8 := mid.res.thaw 8
  have g9 := mid.res.thaw 9
  go_wp2_with fail
  have mid := ((((((mid.setRef K.ref).setEsc false).setHex K.hex).setPct K.pct).setFar K.far).setMode tq tq rfl)
  refine bodyPost_set10 Tryz.results96 (w.heap.size + 1) _ Tryz.underlying162 rfl (by kernel_rfl) rfl mid.res rfl _ _ _ _ _ _ _ _ _ _ ?_
  exact ⟨rfl, below_set10 mid.below (by simp) _ _ _ _ _ _ _ _ _ _⟩

end Go.Proofs.YtfkhljmiehdgmaaGreatDoor

/-
  The walks of package markup: the state behind a byte that leads to another mode.
-/
namespace Go.Proofs.YtfkhljmiehdgmaaGreatDoor
open Go.RowKit

set_option maxRecDepth 100000 in
set_option maxHeartbeats 3200000 in
theorem led_ne3 (s : Pl.St) (k : Pl.Mk) (b : UInt8) (w : World) (ht : PTabs w) (he : s.esc = false) (hm : ¬ 3 = s.mode) :
    Calls Tryz.prog 96 #[sxVal ⟨s, k⟩, .int .u8 3, .int .u8 b.toNat] w fun e w' => e = .returned (sxVal (Pl.Sx.led ⟨s, k⟩ 3 b)) ∧ Below w.heap.size w w' := by
  have qn : ((3 : Int) == (s.mode : Int)) = false := by rw [beq_eq_false_iff_ne]; omega
  have hN : ∀ w, PTabs w → _ := fun w h => named_any ⟨s, k⟩ w h
  have hl : Pl.Sx.led ⟨s, k⟩ 3 b = ⟨s.named.led1 3 b, Pl.Mk.none⟩ := by
    show Pl.Sx.mk (s.led 3 b) (Pl.ledMk s k 3 b) = _
    have h1 : s.led 3 b = s.named.led1 3 b := by unfold Pl.St.led; rw [if_neg hm]
    have h2 : Pl.ledMk s k 3 b = Pl.Mk.none := by unfold Pl.ledMk; rw [if_neg (fun q => hm q.1)]
    rw [h1, h2]
  rw [hl]
  clear hl hm
  have hn : s.named.name = [] := rfl
  have hen : s.named.esc = false := he
  simp only at hN
  generalize s.named = n at hN hn hen ⊢
  obtain ⟨m', n', e', k', r', x'⟩ := n
  simp only at hn hen
  subst hn hen
  have HV : Hid ((⟨m', [], e', k', r', false⟩ : Pl.St).led1 3 b = ⟨3, Pl.longer [] b, e', k', r', false⟩) := rfl
  rw [HV.out]
  unfold sxVal sxCells bs Pl.Mk.none at *
  simp only at hN ⊢
  rw [he] at hN ⊢
  clear he
  have HN := (show Hid _ from hN)
  clear hN HV
  go_enter Tryz.func96, Tryz.ntmps96
  go_wp2_with (first | (go_at_call 134; refine (HN.out _ (by repeat (first | exact ht | apply PTabs.alloc | apply PTabs.drew))).mono ?_; rintro e w' ⟨rfl, rfl⟩) | (go_at_call 135; refine (longer_more [] b _ (by simp) (by simp)).mono ?_; rintro e w' ⟨rfl, rfl⟩))
  refine bodyPost_cell Tryz.results96 (w.heap.size + 1) _ _ Tryz.underlying162 rfl rfl (heap2_3 w _ _ _ _ _) (by kernel_rfl) rfl ?_
  exact ⟨rfl, (by repeat (first | refine Below.alloc ?_ (by simp <;> omega) _ | exact Below.refl _ _))⟩

set_option maxRecDepth 100000 in
set_option maxHeartbeats 3200000 in
theorem led_ne5 (s : Pl.St) (k : Pl.Mk) (b : UInt8) (w : World) (ht : PTabs w) (he : s.esc = false) (hm : ¬ 5 = s.mode) :
    Calls Tryz.prog 96 #[sxVal ⟨s, k⟩, .int .u8 5, .int .u8 b.toNat] w fun e w' => e = .returned (sxVal (Pl.Sx.led ⟨s, k⟩ 5 b)) ∧ Below w.heap.size w w' := by
  have qn : ((5 : Int) == (s.mode : Int)) = false := by rw [beq_eq_false_iff_ne]; omega
  have hN : ∀ w, PTabs w → _ := fun w h => named_any ⟨s, k⟩ w h
  have hl : Pl.Sx.led ⟨s, k⟩ 5 b = ⟨s.named.led1 5 b, Pl.Mk.none⟩ := by
    show Pl.Sx.mk (s.led 5 b) (Pl.ledMk s k 5 b) = _
    have h1 : s.led 5 b = s.named.led1 5 b := by unfold Pl.St.led; rw [if_neg hm]
    have h2 : Pl.ledMk s k 5 b = Pl.Mk.none := by unfold Pl.ledMk; rw [if_neg (fun q => hm q.1)]
    rw [h1, h2]
  rw [hl]
  clear hl hm
  have hn : s.named.name = [] := rfl
  have hen : s.named.esc = false := he
  simp only at hN
  generalize s.named = n at hN hn hen ⊢
  obtain ⟨m', n', e', k', r', x'⟩ := n
  simp only at hn hen
  subst hn hen
  have HV : Hid ((⟨m', [], e', k', r', false⟩ : Pl.St).led1 5 b = ⟨5, Pl.longer [] b, e', 0, r', false⟩) := rfl
  rw [HV.out]
  unfold sxVal sxCells bs Pl.Mk.none at *
  simp only at hN ⊢
  rw [he] at hN ⊢
  clear he
  have HN := (show Hid _ from hN)
  clear hN HV
  go_enter Tryz.func96, Tryz.ntmps96
  go_wp2_with (first | (go_at_call 134; refine (HN.out _ (by repeat (first | exact ht | apply PTabs.alloc | apply PTabs.drew))).mono ?_; rintro e w' ⟨rfl, rfl⟩) | (go_at_call 135; refine (longer_more [] b _ (by simp) (by simp)).mono ?_; rintro e w' ⟨rfl, rfl⟩))
  refine bodyPost_cell Tryz.results96 (w.heap.size + 1) _ _ Tryz.underlying162 rfl rfl (heap2_3 w _ _ _ _ _) (by kernel_rfl) rfl ?_
  exact ⟨rfl, (by repeat (first | refine Below.alloc ?_ (by simp <;> omega) _ | exact Below.refl _ _))⟩

set_option maxRecDepth 100000 in
set_option maxHeartbeats 3200000 in
theorem led_ne4 (s : Pl.St) (k : Pl.Mk) (b : UInt8) (w : World) (ht : PTabs w) (he : s.esc = false) (hm : ¬ 4 = s.mode) :
    Calls Tryz.prog 96 #[sxVal ⟨s, k⟩, .int .u8 4, .int .u8 b.toNat] w fun e w' => e = .returned (sxVal (Pl.Sx.led ⟨s, k⟩ 4 b)) ∧ Below w.heap.size w w' := by
  have qn : ((4 : Int) == (s.mode : Int)) = false := by rw [beq_eq_false_iff_ne]; omega
  have hN : ∀ w, PTabs w → _ := fun w h => named_any ⟨s, k⟩ w h
  have hl : Pl.Sx.led ⟨s, k⟩ 4 b = ⟨s.named.led1 4 b, Pl.Mk.none⟩ := by
    show Pl.Sx.mk (s.led 4 b) (Pl.ledMk s k 4 b) = _
    have h1 : s.led 4 b = s.named.led1 4 b := by unfold Pl.St.led; rw [if_neg hm]
    have h2 : Pl.ledMk s k 4 b = Pl.Mk.none := by unfold Pl.ledMk; rw [if_neg (fun q => hm q.1)]
    rw [h1, h2]
  rw [hl]
  clear hl hm
  have hn : s.named.name = [] := rfl
  have hen : s.named.esc = false := he
  simp only at hN
  generalize s.named = n at hN hn hen ⊢
  obtain ⟨m', n', e', k', r', x'⟩ := n
  simp only at hn hen
  subst hn hen
  have HV : Hid ((⟨m', [], e', k', r', false⟩ : Pl.St).led1 4 b = ⟨4, [], e', 0, r', false⟩) := rfl
  rw [HV.out]
  unfold sxVal sxCells bs Pl.Mk.none at *
  simp only at hN ⊢
  rw [he] at hN ⊢
  clear he
  have HN := (show Hid _ from hN)
  clear hN HV
  go_enter Tryz.func96, Tryz.ntmps96
  go_wp2_with (first | (go_at_call 134; refine (HN.out _ (by repeat (first | exact ht | apply PTabs.alloc | apply PTabs.drew))).mono ?_; rintro e w' ⟨rfl, rfl⟩))
  refine bodyPost_cell Tryz.results96 (w.heap.size + 1) _ _ Tryz.underlying162 rfl rfl (heap2_2 w _ _ _ _) (by kernel_rfl) rfl ?_
  exact ⟨rfl, (by repeat (first | refine Below.alloc ?_ (by simp <;> omega) _ | exact Below.refl _ _))⟩

set_option maxRecDepth 100000 in
set_option maxHeartbeats 3200000 in
theorem led_ne10 (s : Pl.St) (k : Pl.Mk) (b : UInt8) (w : World) (ht : PTabs w) (he : s.esc = false) (hm : ¬ 10 = s.mode) :
    Calls Tryz.prog 96 #[sxVal ⟨s, k⟩, .int .u8 10, .int .u8 b.toNat] w fun e w' => e = .returned (sxVal (Pl.Sx.led ⟨s, k⟩ 10 b)) ∧ Below w.heap.size w w' := by
  have qn : ((10 : Int) == (s.mode : Int)) = false := by rw [beq_eq_false_iff_ne]; omega
  have hN : ∀ w, PTabs w → _ := fun w h => named_any ⟨s, k⟩ w h
  have hl : Pl.Sx.led ⟨s, k⟩ 10 b = ⟨s.named.led1 10 b, Pl.Mk.none⟩ := by
    show Pl.Sx.mk (s.led 10 b) (Pl.ledMk s k 10 b) = _
    have h1 : s.led 10 b = s.named.led1 10 b := by unfold Pl.St.led; rw [if_neg hm]
    have h2 : Pl.ledMk s k 10 b = Pl.Mk.none := by unfold Pl.ledMk; rw [if_neg (fun q => hm q.1)]
    rw [h1, h2]
  rw [hl]
  clear hl hm
  have hn : s.named.name = [] := rfl
  have hen : s.named.esc = false := he
  simp only at hN
  generalize s.named = n at hN hn hen ⊢
  obtain ⟨m', n', e', k', r', x'⟩ := n
  simp only at hn hen
  subst hn hen
  have HV : Hid ((⟨m', [], e', k', r', false⟩ : Pl.St).led1 10 b = ⟨10, [], e', 0, r', false⟩) := rfl
  rw [HV.out]
  unfold sxVal sxCells bs Pl.Mk.none at *
  simp only at hN ⊢
  rw [he] at hN ⊢
  clear he
  have HN := (show Hid _ from hN)
  clear hN HV
  go_enter Tryz.func96, Tryz.ntmps96
  go_wp2_with (first | (go_at_call 134; refine (HN.out _ (by repeat (first | exact ht | apply PTabs.alloc | apply PTabs.drew))).mono ?_; rintro e w' ⟨rfl, rfl⟩))
  refine bodyPost_cell Tryz.results96 (w.heap.size + 1) _ _ Tryz.underlying162 rfl rfl (heap2_2 w _ _ _ _) (by kernel_rfl) rfl ?_
  exact ⟨rfl, (by repeat (first | refine Below.alloc ?_ (by simp <;> omega) _ | exact Below.refl _ _))⟩

set_option maxRecDepth 100000 in
set_option maxHeartbeats 3200000 in
theorem led_ne34 (s : Pl.St) (k : Pl.Mk) (b : UInt8) (w : World) (ht : PTabs w) (he : s.esc = false) (hm : ¬ 34 = s.mode) :
    Calls Tryz.prog 96 #[sxVal ⟨s, k⟩, .int .u8 34, .int .u8 b.toNat] w fun e w' => e = .returned (sxVal (Pl.Sx.led ⟨s, k⟩ 34 b)) ∧ Below w.heap.size w w' := by
  have qn : ((34 : Int) == (s.mode : Int)) = false := by rw [beq_eq_false_iff_ne]; omega
  have hN : ∀ w, PTabs w → _ := fun w h => named_any ⟨s, k⟩ w h
  have hl : Pl.Sx.led ⟨s, k⟩ 34 b = ⟨s.named.led1 34 b, Pl.Mk.none⟩ := by
    show Pl.Sx.mk (s.led 34 b) (Pl.ledMk s k 34 b) = _
    have h1 : s.led 34 b = s.named.led1 34 b := by unfold Pl.St.led; rw [if_neg hm]
    have h2 : Pl.ledMk s k 34 b = Pl.Mk.none := by unfold Pl.ledMk; rw [if_neg (fun q => hm q.1)]
    rw [h1, h2]
  rw [hl]
  clear hl hm
  have hn : s.named.name = [] := rfl
  have hen : s.named.esc = false := he
  simp only at hN
  generalize s.named = n at hN hn hen ⊢
  obtain ⟨m', n', e', k', r', x'⟩ := n
  simp only at hn hen
  subst hn hen
  have HV : Hid ((⟨m', [], e', k', r', false⟩ : Pl.St).led1 34 b = Pl.within e') := rfl
  rw [HV.out]
  have hW : ∀ w, PTabs w → _ := fun w h => within_any e' w h
  generalize Pl.within e' = v at hW HV ⊢
  obtain ⟨m2, n2, e2, k2, r2, x2⟩ := v
  unfold sxVal sxCells bs Pl.Mk.none at hW
  simp only at hW
  have HW := (show Hid _ from hW)
  clear hW
  unfold sxVal sxCells bs Pl.Mk.none at *
  simp only at hN ⊢
  rw [he] at hN ⊢
  clear he
  have HN := (show Hid _ from hN)
  clear hN HV
  go_enter Tryz.func96, Tryz.ntmps96
  go_wp2_with (first | (go_at_call 134; refine (HN.out _ (by repeat (first | exact ht | apply PTabs.alloc | apply PTabs.drew))).mono ?_; rintro e w' ⟨rfl, rfl⟩) | (go_at_call 136; refine (HW.out _ (by repeat (first | exact ht | apply PTabs.alloc | apply PTabs.drew))).mono ?_; rintro e w' ⟨rfl, rfl⟩))
  refine bodyPost_cell Tryz.results96 (w.heap.size + 1) _ _ Tryz.underlying162 rfl rfl (heap2_3 w _ _ _ _ _) (by kernel_rfl) rfl ?_
  exact ⟨rfl, (by repeat (first | refine Below.alloc ?_ (by simp <;> omega) _ | exact Below.refl _ _))⟩

set_option maxRecDepth 100000 in
set_option maxHeartbeats 3200000 in
theorem led_neo (s : Pl.St) (k : Pl.Mk) (b : UInt8) (w : World) (ht : PTabs w) (he : s.esc = false) (tq : Nat) (h3 : ¬ tq = 3) (h5 : ¬ tq = 5) (h4 : ¬ tq = 4) (h10 : ¬ tq = 10) (h34 : ¬ tq = 34) (hm : ¬ tq = s.mode) :
    Calls Tryz.prog 96 #[sxVal ⟨s, k⟩, .int .u8 (tq : Nat), .int .u8 b.toNat] w fun e w' => e = .returned (sxVal (Pl.Sx.led ⟨s, k⟩ tq b)) ∧ Below w.heap.size w w' := by
  have qn : (((tq : Nat) : Int) == (s.mode : Int)) = false := by rw [beq_eq_false_iff_ne]; omega
  have q3 : ((tq : Int) == 3) = false := by rw [beq_eq_false_iff_ne]; omega
  have q5 : ((tq : Int) == 5) = false := by rw [beq_eq_false_iff_ne]; omega
  have q4 : ((tq : Int) == 4) = false := by rw [beq_eq_false_iff_ne]; omega
  have q10 : ((tq : Int) == 10) = false := by rw [beq_eq_false_iff_ne]; omega
  have q34 : ((tq : Int) == 34) = false := by rw [beq_eq_false_iff_ne]; omega
  have hN : ∀ w, PTabs w → _ := fun w h => named_any ⟨s, k⟩ w h
  have hl : Pl.Sx.led ⟨s, k⟩ tq b = ⟨s.named.led1 tq b, Pl.Mk.none⟩ := by
    show Pl.Sx.mk (s.led tq b) (Pl.ledMk s k tq b) = _
    have h1 : s.led tq b = s.named.led1 tq b := by unfold Pl.St.led; rw [if_neg hm]
    have h2 : Pl.ledMk s k tq b = Pl.Mk.none := by unfold Pl.ledMk; rw [if_neg (fun q => hm q.1)]
    rw [h1, h2]
  rw [hl]
  clear hl hm
  have hn : s.named.name = [] := rfl
  have hen : s.named.esc = false := he
  simp only at hN
  generalize s.named = n at hN hn hen ⊢
  obtain ⟨m', n', e', k', r', x'⟩ := n
  simp only at hn hen
  subst hn hen
  have HV : Hid ((⟨m', [], e', k', r', false⟩ : Pl.St).led1 tq b = ⟨tq, [], e', k', r', false⟩) := (by show _ = _; unfold Pl.St.led1; rw [if_neg h3, if_neg h5, if_neg (by omega), if_neg h34])
  rw [HV.out]
  clear h3 h5 h4 h10 h34
  unfold sxVal sxCells bs Pl.Mk.none at *
  simp only at hN ⊢
  rw [he] at hN ⊢
  clear he
  have HN := (show Hid _ from hN)
  clear hN HV
  go_enter Tryz.func96, Tryz.ntmps96
  go_wp2_with (first | (go_at_call 134; refine (HN.out _ (by repeat (first | exact ht | apply PTabs.alloc | apply PTabs.drew))).mono ?_; rintro e w' ⟨rfl, rfl⟩))
  refine bodyPost_cell Tryz.results96 (w.heap.size + 1) _ _ Tryz.underlying162 rfl rfl (heap2_2 w _ _ _ _) (by kernel_rfl) rfl ?_
  exact ⟨rfl, (by repeat (first | refine Below.alloc ?_ (by simp <;> omega) _ | exact Below.refl _ _))⟩

theorem led_any (x : Pl.Sx) (tq : Nat) (b : UInt8) (w : World) (ht : PTabs w) (hn : x.st.name.length ≤ 9) (hm : x.st.mode ≤ 33) (he : x.st.esc = false) (hx : -1000 ≤ x.ma.hex ∧ x.ma.hex ≤ 1000) (hy : -1000 ≤ x.ma.pct ∧ x.ma.pct ≤ 1000) :
    Calls Tryz.prog 96 #[sxVal x, .int .u8 tq, .int .u8 b.toNat] w fun e w' => e = .returned (sxVal (x.led tq b)) ∧ Below w.heap.size w w' := by
  obtain ⟨s, k⟩ := x
  simp only at hn hm he hx hy
  by_cases hs : s.mode = tq
  · subst hs
    by_cases h3 : s.mode = 3
    · by_cases h9 : s.name.length = 9
      · have := led_same3f s k b w ht hx hy he h3 h9
        rw [h3]; exact this
      · have := led_same3m s k b w ht hx hy he h3 hn h9
        rw [h3]; exact this
    by_cases h5 : s.mode = 5
    · by_cases h9 : s.name.length = 9
      · have := led_same5f s k b w ht hx hy he h5 h9
        rw [h5]; exact this
      · have := led_same5m s k b w ht hx hy he h5 hn h9
        rw [h5]; exact this
    by_cases h4 : s.mode = 4
    · have := led_same4 s k b w ht hx hy he h4
      rw [h4]; exact this
    by_cases h10 : s.mode = 10
    · have := led_same10 s k b w ht hx hy he h10
      rw [h10]; exact this
    exact led_sameo s k b w ht hx hy he s.mode rfl h3 h5 h4 h10 (by omega)
  · have he' : ¬ tq = s.mode := fun e => hs e.symm
    by_cases h3 : tq = 3
    · subst h3; exact led_ne3 s k b w ht he he'
    by_cases h5 : tq = 5
    · subst h5; exact led_ne5 s k b w ht he he'
    by_cases h4 : tq = 4
    · subst h4; exact led_ne4 s k b w ht he he'
    by_cases h10 : tq = 10
    · subst h10; exact led_ne10 s k b w ht he he'
    by_cases h34 : tq = 34
    · subst h34; exact led_ne34 s k b w ht he he'
    exact led_neo s k b w ht he tq h3 h5 h4 h10 h34 he'

end Go.Proofs.YtfkhljmiehdgmaaGreatDoor
