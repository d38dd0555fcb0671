/-
  The walks of package markup: a name is over; the state behind a byte that leads to a mode.
-/
import Derived.Test.YtbagkoemaalnmaaDoorPgWC
import Derived.Test.YtbagkoemaalnmaaDoorPgWD
namespace Go.Proofs.YtbagkoemaalnmaaDoor
open Go.RowKit

theorem named_three {s : Pl.St} (h : s.mode = 3) : s.named = ⟨3, [], Pl.elementOf s.name, s.kind, s.read, s.esc⟩ := by
  unfold Pl.St.named; rw [if_pos h, if_neg (by omega), h]
theorem named_five {s : Pl.St} (h : s.mode = 5) : s.named = ⟨5, [], s.elem, Pl.kindOf s.name, s.read, s.esc⟩ := by
  unfold Pl.St.named; rw [if_neg (by omega), if_pos h, h]
theorem named_other {s : Pl.St} (h : ¬ s.mode = 3) (h' : ¬ s.mode = 5) : s.named = ⟨s.mode, [], s.elem, s.kind, s.read, s.esc⟩ := by
  unfold Pl.St.named; rw [if_neg h, if_neg h']

theorem heap_new_at (w : World) (o : Obj) (g : Nat) (h : w.heap.size = g) : (w.alloc o).heap[g]? = some o := by rw [← h]; exact heap_alloc_new w o

set_option maxRecDepth 100000 in
set_option maxHeartbeats 3200000 in
theorem named_any (s : Pl.St) (w : World) (ht : PTabs w) :
    Calls Tryd.prog 88 #[stVal s] w fun e w' => e = .returned (stVal s.named) ∧ (w.alloc (.cells (stCells s.named) 69)).alloc (.cells (stCells s.named) 69) = w' := by
  unfold stVal stCells bs
  by_cases h3 : s.mode = 3
  · have HV : Hid (s.named = _) := named_three h3
    rw [h3]
    go_enter Tryd.func88, Tryd.ntmps88
    go_wp2_with (go_at_call 99; refine (elementOf_any s.name _ (by repeat (first | exact ht | apply PTabs.alloc | apply PTabs.drew))).mono ?_; rintro e w' ⟨rfl, rfl⟩)
    refine bodyPost_cell Tryd.results88 (w.heap.size + 1) _ _ Tryd.underlying69 rfl rfl (heap_new_at _ _ _ (by simp)) (by kernel_rfl) rfl ?_
    rw [HV.out]
    exact ⟨rfl, rfl⟩
  by_cases h5 : s.mode = 5
  · have HV : Hid (s.named = _) := named_five h5
    rw [h5]
    go_enter Tryd.func88, Tryd.ntmps88
    go_wp2_with (go_at_call 100; refine (kindOf_any s.name _ (by repeat (first | exact ht | apply PTabs.alloc | apply PTabs.drew))).mono ?_; rintro e w' ⟨rfl, rfl⟩)
    refine bodyPost_cell Tryd.results88 (w.heap.size + 1) _ _ Tryd.underlying69 rfl rfl (heap_new_at _ _ _ (by simp)) (by kernel_rfl) rfl ?_
    rw [HV.out]
    exact ⟨rfl, rfl⟩
  have h3' : ((s.mode : Int) == 3) = false := by rw [beq_eq_false_iff_ne]; omega
  have h5' : ((s.mode : Int) == 5) = false := by rw [beq_eq_false_iff_ne]; omega
  have HV : Hid (s.named = _) := named_other h3 h5
  clear h3 h5 ht
  go_enter Tryd.func88, Tryd.ntmps88
  go_wp2_with fail
  refine bodyPost_cell Tryd.results88 (w.heap.size + 1) _ _ Tryd.underlying69 rfl rfl (heap_new_at _ _ _ (by simp)) (by kernel_rfl) rfl ?_
  rw [HV.out]
  exact ⟨rfl, rfl⟩

end Go.Proofs.YtbagkoemaalnmaaDoor
