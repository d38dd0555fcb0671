/-
  The walks of package markup: the state behind a byte that leads to the mode in which one is.
-/
import Derived.Test.YtbagkoemaalnmaaDoorPgWE
namespace Go.Proofs.YtbagkoemaalnmaaDoor
open Go.RowKit

theorem heap2_0 (w : World) (a b : Obj) : ((w.alloc a).alloc b).heap[w.heap.size + 1]? = some b := heap_new_at _ _ _ (by simp)
theorem heap2_1 (w : World) (a b c : Obj) : (((w.alloc a).alloc b).alloc c).heap[w.heap.size + 1]? = some b := (heap_alloc_old _ _ (by simp)).trans (heap2_0 w a b)
theorem heap2_2 (w : World) (a b c d : Obj) : ((((w.alloc a).alloc b).alloc c).alloc d).heap[w.heap.size + 1]? = some b := (heap_alloc_old _ _ (by simp)).trans (heap2_1 w a b c)
theorem heap2_3 (w : World) (a b c d e : Obj) : (((((w.alloc a).alloc b).alloc c).alloc d).alloc e).heap[w.heap.size + 1]? = some b := (heap_alloc_old _ _ (by simp)).trans (heap2_2 w a b c d)
theorem heap2_4 (w : World) (a b c d e f : Obj) : ((((((w.alloc a).alloc b).alloc c).alloc d).alloc e).alloc f).heap[w.heap.size + 1]? = some b := (heap_alloc_old _ _ (by simp)).trans (heap2_3 w a b c d e)

set_option maxRecDepth 100000 in
set_option maxHeartbeats 3200000 in
theorem led_same3f (s : Pl.St) (b : UInt8) (w : World) (hm : s.mode = 3) (h9 : s.name.length = 9) :
    Calls Tryd.prog 67 #[stVal s, .int .u8 3, .int .u8 b.toNat] w fun e w' => e = .returned (stVal (s.led 3 b)) ∧ Below w.heap.size w w' := by
  have HV : Hid (s.led 3 b = _) := (show s.led 3 b = ⟨3, Pl.longer s.name b, s.elem, s.kind, s.read, s.esc⟩ by unfold Pl.St.led; rw [if_pos hm.symm]; rfl)
  unfold stVal stCells bs
  rw [hm]
  go_enter Tryd.func67, Tryd.ntmps67
  go_wp2_with (first | (go_at_call 89; refine (longer_full s.name b _ h9).mono ?_; rintro e w' ⟨rfl, rfl⟩))
  refine bodyPost_cell Tryd.results67 (w.heap.size + 1) _ _ Tryd.underlying69 rfl rfl (by first | exact heap2_0 w _ _ | exact heap2_1 w _ _ _ | exact heap2_2 w _ _ _ _ | exact heap2_3 w _ _ _ _ _ | exact heap2_4 w _ _ _ _ _ _) (by kernel_rfl) rfl ?_
  rw [HV.out]
  exact ⟨rfl, (by repeat (first | exact Below.refl _ _ | refine Below.alloc ?_ (by simp <;> omega) _ | apply Below.drew))⟩

set_option maxRecDepth 100000 in
set_option maxHeartbeats 3200000 in
theorem led_same3m (s : Pl.St) (b : UInt8) (w : World) (hm : s.mode = 3) (hn : s.name.length ≤ 9) (h9 : ¬ s.name.length = 9) :
    Calls Tryd.prog 67 #[stVal s, .int .u8 3, .int .u8 b.toNat] w fun e w' => e = .returned (stVal (s.led 3 b)) ∧ Below w.heap.size w w' := by
  have HV : Hid (s.led 3 b = _) := (show s.led 3 b = ⟨3, Pl.longer s.name b, s.elem, s.kind, s.read, s.esc⟩ by unfold Pl.St.led; rw [if_pos hm.symm]; rfl)
  unfold stVal stCells bs
  rw [hm]
  go_enter Tryd.func67, Tryd.ntmps67
  go_wp2_with (first | (go_at_call 89; refine (longer_more s.name b _ hn h9).mono ?_; rintro e w' ⟨rfl, rfl⟩))
  refine bodyPost_cell Tryd.results67 (w.heap.size + 1) _ _ Tryd.underlying69 rfl rfl (by first | exact heap2_0 w _ _ | exact heap2_1 w _ _ _ | exact heap2_2 w _ _ _ _ | exact heap2_3 w _ _ _ _ _ | exact heap2_4 w _ _ _ _ _ _) (by kernel_rfl) rfl ?_
  rw [HV.out]
  exact ⟨rfl, (by repeat (first | exact Below.refl _ _ | refine Below.alloc ?_ (by simp <;> omega) _ | apply Below.drew))⟩

set_option maxRecDepth 100000 in
set_option maxHeartbeats 3200000 in
theorem led_same5f (s : Pl.St) (b : UInt8) (w : World) (hm : s.mode = 5) (h9 : s.name.length = 9) :
    Calls Tryd.prog 67 #[stVal s, .int .u8 5, .int .u8 b.toNat] w fun e w' => e = .returned (stVal (s.led 5 b)) ∧ Below w.heap.size w w' := by
  have HV : Hid (s.led 5 b = _) := (show s.led 5 b = ⟨5, Pl.longer s.name b, s.elem, 0, s.read, s.esc⟩ by unfold Pl.St.led; rw [if_pos hm.symm]; rfl)
  unfold stVal stCells bs
  rw [hm]
  go_enter Tryd.func67, Tryd.ntmps67
  go_wp2_with (first | (go_at_call 89; refine (longer_full s.name b _ h9).mono ?_; rintro e w' ⟨rfl, rfl⟩))
  refine bodyPost_cell Tryd.results67 (w.heap.size + 1) _ _ Tryd.underlying69 rfl rfl (by first | exact heap2_0 w _ _ | exact heap2_1 w _ _ _ | exact heap2_2 w _ _ _ _ | exact heap2_3 w _ _ _ _ _ | exact heap2_4 w _ _ _ _ _ _) (by kernel_rfl) rfl ?_
  rw [HV.out]
  exact ⟨rfl, (by repeat (first | exact Below.refl _ _ | refine Below.alloc ?_ (by simp <;> omega) _ | apply Below.drew))⟩

set_option maxRecDepth 100000 in
set_option maxHeartbeats 3200000 in
theorem led_same5m (s : Pl.St) (b : UInt8) (w : World) (hm : s.mode = 5) (hn : s.name.length ≤ 9) (h9 : ¬ s.name.length = 9) :
    Calls Tryd.prog 67 #[stVal s, .int .u8 5, .int .u8 b.toNat] w fun e w' => e = .returned (stVal (s.led 5 b)) ∧ Below w.heap.size w w' := by
  have HV : Hid (s.led 5 b = _) := (show s.led 5 b = ⟨5, Pl.longer s.name b, s.elem, 0, s.read, s.esc⟩ by unfold Pl.St.led; rw [if_pos hm.symm]; rfl)
  unfold stVal stCells bs
  rw [hm]
  go_enter Tryd.func67, Tryd.ntmps67
  go_wp2_with (first | (go_at_call 89; refine (longer_more s.name b _ hn h9).mono ?_; rintro e w' ⟨rfl, rfl⟩))
  refine bodyPost_cell Tryd.results67 (w.heap.size + 1) _ _ Tryd.underlying69 rfl rfl (by first | exact heap2_0 w _ _ | exact heap2_1 w _ _ _ | exact heap2_2 w _ _ _ _ | exact heap2_3 w _ _ _ _ _ | exact heap2_4 w _ _ _ _ _ _) (by kernel_rfl) rfl ?_
  rw [HV.out]
  exact ⟨rfl, (by repeat (first | exact Below.refl _ _ | refine Below.alloc ?_ (by simp <;> omega) _ | apply Below.drew))⟩

set_option maxRecDepth 100000 in
set_option maxHeartbeats 3200000 in
theorem led_same4 (s : Pl.St) (b : UInt8) (w : World) (hm : s.mode = 4) :
    Calls Tryd.prog 67 #[stVal s, .int .u8 4, .int .u8 b.toNat] w fun e w' => e = .returned (stVal (s.led 4 b)) ∧ Below w.heap.size w w' := by
  have HV : Hid (s.led 4 b = _) := (show s.led 4 b = ⟨4, s.name, s.elem, 0, s.read, s.esc⟩ by unfold Pl.St.led; rw [if_pos hm.symm]; rfl)
  unfold stVal stCells bs
  rw [hm]
  go_enter Tryd.func67, Tryd.ntmps67
  go_wp2_with (first | fail)
  refine bodyPost_cell Tryd.results67 (w.heap.size + 1) _ _ Tryd.underlying69 rfl rfl (by first | exact heap2_0 w _ _ | exact heap2_1 w _ _ _ | exact heap2_2 w _ _ _ _ | exact heap2_3 w _ _ _ _ _ | exact heap2_4 w _ _ _ _ _ _) (by kernel_rfl) rfl ?_
  rw [HV.out]
  exact ⟨rfl, (by repeat (first | exact Below.refl _ _ | refine Below.alloc ?_ (by simp <;> omega) _ | apply Below.drew))⟩

set_option maxRecDepth 100000 in
set_option maxHeartbeats 3200000 in
theorem led_same10 (s : Pl.St) (b : UInt8) (w : World) (hm : s.mode = 10) :
    Calls Tryd.prog 67 #[stVal s, .int .u8 10, .int .u8 b.toNat] w fun e w' => e = .returned (stVal (s.led 10 b)) ∧ Below w.heap.size w w' := by
  have HV : Hid (s.led 10 b = _) := (show s.led 10 b = ⟨10, s.name, s.elem, 0, s.read, s.esc⟩ by unfold Pl.St.led; rw [if_pos hm.symm]; rfl)
  unfold stVal stCells bs
  rw [hm]
  go_enter Tryd.func67, Tryd.ntmps67
  go_wp2_with (first | fail)
  refine bodyPost_cell Tryd.results67 (w.heap.size + 1) _ _ Tryd.underlying69 rfl rfl (by first | exact heap2_0 w _ _ | exact heap2_1 w _ _ _ | exact heap2_2 w _ _ _ _ | exact heap2_3 w _ _ _ _ _ | exact heap2_4 w _ _ _ _ _ _) (by kernel_rfl) rfl ?_
  rw [HV.out]
  exact ⟨rfl, (by repeat (first | exact Below.refl _ _ | refine Below.alloc ?_ (by simp <;> omega) _ | apply Below.drew))⟩

set_option maxRecDepth 100000 in
set_option maxHeartbeats 3200000 in
theorem led_sameo (s : Pl.St) (b : UInt8) (w : World) (to : Nat) (hm : s.mode = to) (h3 : ¬ to = 3) (h5 : ¬ to = 5) (h4 : ¬ to = 4) (h10 : ¬ to = 10) (h34 : ¬ to = 34) :
    Calls Tryd.prog 67 #[stVal s, .int .u8 (to : Nat), .int .u8 b.toNat] w fun e w' => e = .returned (stVal (s.led to b)) ∧ Below w.heap.size w w' := by
  have HV : Hid (s.led to b = _) := (show s.led to b = ⟨to, s.name, s.elem, s.kind, s.read, s.esc⟩ by unfold Pl.St.led; rw [if_pos hm.symm]; unfold Pl.St.led1; rw [if_neg h3, if_neg h5, if_neg (by omega), if_neg h34])
  unfold stVal stCells bs
  rw [hm]
  have q3 : ((to : Int) == 3) = false := by rw [beq_eq_false_iff_ne]; omega
  have q5 : ((to : Int) == 5) = false := by rw [beq_eq_false_iff_ne]; omega
  have q4 : ((to : Int) == 4) = false := by rw [beq_eq_false_iff_ne]; omega
  have q10 : ((to : Int) == 10) = false := by rw [beq_eq_false_iff_ne]; omega
  have q34 : ((to : Int) == 34) = false := by rw [beq_eq_false_iff_ne]; omega
  clear h3 h5 h4 h10 h34 hm
  go_enter Tryd.func67, Tryd.ntmps67
  go_wp2_with (first | fail)
  refine bodyPost_cell Tryd.results67 (w.heap.size + 1) _ _ Tryd.underlying69 rfl rfl (by first | exact heap2_0 w _ _ | exact heap2_1 w _ _ _ | exact heap2_2 w _ _ _ _ | exact heap2_3 w _ _ _ _ _ | exact heap2_4 w _ _ _ _ _ _) (by kernel_rfl) rfl ?_
  rw [HV.out]
  exact ⟨rfl, (by repeat (first | exact Below.refl _ _ | refine Below.alloc ?_ (by simp <;> omega) _ | apply Below.drew))⟩


end Go.Proofs.YtbagkoemaalnmaaDoor
