/-
  The walks of package markup: the state behind a byte that leads to another mode.
-/
import Derived.Test.YtbagkoemaalnmaaDoorPgWF
namespace Go.Proofs.YtbagkoemaalnmaaDoor
open Go.RowKit

set_option maxRecDepth 100000 in
set_option maxHeartbeats 3200000 in
theorem led_ne3 (s : Pl.St) (b : UInt8) (w : World) (ht : PTabs w) (hm : ¬ 3 = s.mode) :
    Calls Tryd.prog 67 #[stVal s, .int .u8 3, .int .u8 b.toNat] w fun e w' => e = .returned (stVal (s.led 3 b)) ∧ Below w.heap.size w w' := by
  have qn : ((3 : Int) != (s.mode : Int)) = true := by rw [bne_iff_ne]; omega
  have hN : ∀ w, PTabs w → _ := fun w h => named_any s w h
  have hl : s.led 3 b = s.named.led1 3 b := by unfold Pl.St.led; rw [if_neg hm]
  rw [hl]
  clear hl hm
  have hn : s.named.name = [] := rfl
  generalize s.named = n at hN hn ⊢
  obtain ⟨m', n', e', k', r', x'⟩ := n
  simp only at hn
  subst hn
  have HV : Hid ((⟨m', [], e', k', r', x'⟩ : Pl.St).led1 3 b = ⟨3, Pl.longer [] b, e', k', r', x'⟩) := rfl
  unfold stVal stCells bs at hN ⊢
  simp only at hN
  have HN : Hid _ := hN
  clear hN
  go_enter Tryd.func67, Tryd.ntmps67
  go_wp2_with (first | (go_at_call 88; refine (HN.out _ (by repeat (first | exact ht | apply PTabs.alloc | apply PTabs.drew))).mono ?_; rintro e w' ⟨rfl, rfl⟩) | (go_at_call 89; refine (longer_more [] b _ (by simp) (by simp)).mono ?_; rintro e w' ⟨rfl, rfl⟩))
  refine bodyPost_cell Tryd.results67 (w.heap.size + 1) _ _ Tryd.underlying69 rfl rfl (by first | exact heap2_0 w _ _ | exact heap2_1 w _ _ _ | exact heap2_2 w _ _ _ _ | exact heap2_3 w _ _ _ _ _ | exact heap2_4 w _ _ _ _ _ _) (by kernel_rfl) rfl ?_
  rw [HV.out]
  exact ⟨rfl, (by repeat (first | exact Below.refl _ _ | refine Below.alloc ?_ (by simp <;> omega) _ | apply Below.drew))⟩

set_option maxRecDepth 100000 in
set_option maxHeartbeats 3200000 in
theorem led_ne5 (s : Pl.St) (b : UInt8) (w : World) (ht : PTabs w) (hm : ¬ 5 = s.mode) :
    Calls Tryd.prog 67 #[stVal s, .int .u8 5, .int .u8 b.toNat] w fun e w' => e = .returned (stVal (s.led 5 b)) ∧ Below w.heap.size w w' := by
  have qn : ((5 : Int) != (s.mode : Int)) = true := by rw [bne_iff_ne]; omega
  have hN : ∀ w, PTabs w → _ := fun w h => named_any s w h
  have hl : s.led 5 b = s.named.led1 5 b := by unfold Pl.St.led; rw [if_neg hm]
  rw [hl]
  clear hl hm
  have hn : s.named.name = [] := rfl
  generalize s.named = n at hN hn ⊢
  obtain ⟨m', n', e', k', r', x'⟩ := n
  simp only at hn
  subst hn
  have HV : Hid ((⟨m', [], e', k', r', x'⟩ : Pl.St).led1 5 b = ⟨5, Pl.longer [] b, e', 0, r', x'⟩) := rfl
  unfold stVal stCells bs at hN ⊢
  simp only at hN
  have HN : Hid _ := hN
  clear hN
  go_enter Tryd.func67, Tryd.ntmps67
  go_wp2_with (first | (go_at_call 88; refine (HN.out _ (by repeat (first | exact ht | apply PTabs.alloc | apply PTabs.drew))).mono ?_; rintro e w' ⟨rfl, rfl⟩) | (go_at_call 89; refine (longer_more [] b _ (by simp) (by simp)).mono ?_; rintro e w' ⟨rfl, rfl⟩))
  refine bodyPost_cell Tryd.results67 (w.heap.size + 1) _ _ Tryd.underlying69 rfl rfl (by first | exact heap2_0 w _ _ | exact heap2_1 w _ _ _ | exact heap2_2 w _ _ _ _ | exact heap2_3 w _ _ _ _ _ | exact heap2_4 w _ _ _ _ _ _) (by kernel_rfl) rfl ?_
  rw [HV.out]
  exact ⟨rfl, (by repeat (first | exact Below.refl _ _ | refine Below.alloc ?_ (by simp <;> omega) _ | apply Below.drew))⟩

set_option maxRecDepth 100000 in
set_option maxHeartbeats 3200000 in
theorem led_ne4 (s : Pl.St) (b : UInt8) (w : World) (ht : PTabs w) (hm : ¬ 4 = s.mode) :
    Calls Tryd.prog 67 #[stVal s, .int .u8 4, .int .u8 b.toNat] w fun e w' => e = .returned (stVal (s.led 4 b)) ∧ Below w.heap.size w w' := by
  have qn : ((4 : Int) != (s.mode : Int)) = true := by rw [bne_iff_ne]; omega
  have hN : ∀ w, PTabs w → _ := fun w h => named_any s w h
  have hl : s.led 4 b = s.named.led1 4 b := by unfold Pl.St.led; rw [if_neg hm]
  rw [hl]
  clear hl hm
  have hn : s.named.name = [] := rfl
  generalize s.named = n at hN hn ⊢
  obtain ⟨m', n', e', k', r', x'⟩ := n
  simp only at hn
  subst hn
  have HV : Hid ((⟨m', [], e', k', r', x'⟩ : Pl.St).led1 4 b = ⟨4, [], e', 0, r', x'⟩) := rfl
  unfold stVal stCells bs at hN ⊢
  simp only at hN
  have HN : Hid _ := hN
  clear hN
  go_enter Tryd.func67, Tryd.ntmps67
  go_wp2_with (first | (go_at_call 88; refine (HN.out _ (by repeat (first | exact ht | apply PTabs.alloc | apply PTabs.drew))).mono ?_; rintro e w' ⟨rfl, rfl⟩))
  refine bodyPost_cell Tryd.results67 (w.heap.size + 1) _ _ Tryd.underlying69 rfl rfl (by first | exact heap2_0 w _ _ | exact heap2_1 w _ _ _ | exact heap2_2 w _ _ _ _ | exact heap2_3 w _ _ _ _ _ | exact heap2_4 w _ _ _ _ _ _) (by kernel_rfl) rfl ?_
  rw [HV.out]
  exact ⟨rfl, (by repeat (first | exact Below.refl _ _ | refine Below.alloc ?_ (by simp <;> omega) _ | apply Below.drew))⟩

set_option maxRecDepth 100000 in
set_option maxHeartbeats 3200000 in
theorem led_ne10 (s : Pl.St) (b : UInt8) (w : World) (ht : PTabs w) (hm : ¬ 10 = s.mode) :
    Calls Tryd.prog 67 #[stVal s, .int .u8 10, .int .u8 b.toNat] w fun e w' => e = .returned (stVal (s.led 10 b)) ∧ Below w.heap.size w w' := by
  have qn : ((10 : Int) != (s.mode : Int)) = true := by rw [bne_iff_ne]; omega
  have hN : ∀ w, PTabs w → _ := fun w h => named_any s w h
  have hl : s.led 10 b = s.named.led1 10 b := by unfold Pl.St.led; rw [if_neg hm]
  rw [hl]
  clear hl hm
  have hn : s.named.name = [] := rfl
  generalize s.named = n at hN hn ⊢
  obtain ⟨m', n', e', k', r', x'⟩ := n
  simp only at hn
  subst hn
  have HV : Hid ((⟨m', [], e', k', r', x'⟩ : Pl.St).led1 10 b = ⟨10, [], e', 0, r', x'⟩) := rfl
  unfold stVal stCells bs at hN ⊢
  simp only at hN
  have HN : Hid _ := hN
  clear hN
  go_enter Tryd.func67, Tryd.ntmps67
  go_wp2_with (first | (go_at_call 88; refine (HN.out _ (by repeat (first | exact ht | apply PTabs.alloc | apply PTabs.drew))).mono ?_; rintro e w' ⟨rfl, rfl⟩))
  refine bodyPost_cell Tryd.results67 (w.heap.size + 1) _ _ Tryd.underlying69 rfl rfl (by first | exact heap2_0 w _ _ | exact heap2_1 w _ _ _ | exact heap2_2 w _ _ _ _ | exact heap2_3 w _ _ _ _ _ | exact heap2_4 w _ _ _ _ _ _) (by kernel_rfl) rfl ?_
  rw [HV.out]
  exact ⟨rfl, (by repeat (first | exact Below.refl _ _ | refine Below.alloc ?_ (by simp <;> omega) _ | apply Below.drew))⟩

set_option maxRecDepth 100000 in
set_option maxHeartbeats 3200000 in
theorem led_ne34 (s : Pl.St) (b : UInt8) (w : World) (ht : PTabs w) (hm : ¬ 34 = s.mode) :
    Calls Tryd.prog 67 #[stVal s, .int .u8 34, .int .u8 b.toNat] w fun e w' => e = .returned (stVal (s.led 34 b)) ∧ Below w.heap.size w w' := by
  have qn : ((34 : Int) != (s.mode : Int)) = true := by rw [bne_iff_ne]; omega
  have hN : ∀ w, PTabs w → _ := fun w h => named_any s w h
  have hl : s.led 34 b = s.named.led1 34 b := by unfold Pl.St.led; rw [if_neg hm]
  rw [hl]
  clear hl hm
  have hn : s.named.name = [] := rfl
  generalize s.named = n at hN hn ⊢
  obtain ⟨m', n', e', k', r', x'⟩ := n
  simp only at hn
  subst hn
  have hW : ∀ w, PTabs w → _ := fun w h => within_any e' w h
  have hwi : (⟨m', [], e', k', r', x'⟩ : Pl.St).led1 34 b = Pl.within e' := rfl
  generalize Pl.within e' = v at hW hwi
  obtain ⟨m2, n2, e2, k2, r2, x2⟩ := v
  have HV : Hid ((⟨m', [], e', k', r', x'⟩ : Pl.St).led1 34 b = ⟨m2, n2, e2, k2, r2, x2⟩) := hwi
  unfold stVal stCells bs at hN ⊢
  simp only at hN
  unfold stVal stCells bs at hW
  simp only at hW
  have HW : Hid _ := hW
  clear hW hwi
  have HN : Hid _ := hN
  clear hN
  go_enter Tryd.func67, Tryd.ntmps67
  go_wp2_with (first | (go_at_call 88; refine (HN.out _ (by repeat (first | exact ht | apply PTabs.alloc | apply PTabs.drew))).mono ?_; rintro e w' ⟨rfl, rfl⟩) | (go_at_call 90; refine (HW.out _ (by repeat (first | exact ht | apply PTabs.alloc | apply PTabs.drew))).mono ?_; rintro e w' ⟨rfl, rfl⟩))
  refine bodyPost_cell Tryd.results67 (w.heap.size + 1) _ _ Tryd.underlying69 rfl rfl (by first | exact heap2_0 w _ _ | exact heap2_1 w _ _ _ | exact heap2_2 w _ _ _ _ | exact heap2_3 w _ _ _ _ _ | exact heap2_4 w _ _ _ _ _ _) (by kernel_rfl) rfl ?_
  rw [HV.out]
  exact ⟨rfl, (by repeat (first | exact Below.refl _ _ | refine Below.alloc ?_ (by simp <;> omega) _ | apply Below.drew))⟩

set_option maxRecDepth 100000 in
set_option maxHeartbeats 3200000 in
theorem led_neo (s : Pl.St) (b : UInt8) (w : World) (ht : PTabs w) (to : Nat) (h3 : ¬ to = 3) (h5 : ¬ to = 5) (h4 : ¬ to = 4) (h10 : ¬ to = 10) (h34 : ¬ to = 34) (hm : ¬ to = s.mode) :
    Calls Tryd.prog 67 #[stVal s, .int .u8 (to : Nat), .int .u8 b.toNat] w fun e w' => e = .returned (stVal (s.led to b)) ∧ Below w.heap.size w w' := by
  have qn : (((to : Nat) : Int) != (s.mode : Int)) = true := by rw [bne_iff_ne]; omega
  have q3 : ((to : Int) == 3) = false := by rw [beq_eq_false_iff_ne]; omega
  have q5 : ((to : Int) == 5) = false := by rw [beq_eq_false_iff_ne]; omega
  have q4 : ((to : Int) == 4) = false := by rw [beq_eq_false_iff_ne]; omega
  have q10 : ((to : Int) == 10) = false := by rw [beq_eq_false_iff_ne]; omega
  have q34 : ((to : Int) == 34) = false := by rw [beq_eq_false_iff_ne]; omega
  have hN : ∀ w, PTabs w → _ := fun w h => named_any s w h
  have hl : s.led to b = s.named.led1 to b := by unfold Pl.St.led; rw [if_neg hm]
  rw [hl]
  clear hl hm
  have hn : s.named.name = [] := rfl
  generalize s.named = n at hN hn ⊢
  obtain ⟨m', n', e', k', r', x'⟩ := n
  simp only at hn
  subst hn
  have HV : Hid ((⟨m', [], e', k', r', x'⟩ : Pl.St).led1 to b = ⟨to, [], e', k', r', x'⟩) := (by show _ = _; unfold Pl.St.led1; rw [if_neg h3, if_neg h5, if_neg (by omega), if_neg h34])
  clear h3 h5 h4 h10 h34
  unfold stVal stCells bs at hN ⊢
  simp only at hN
  have HN : Hid _ := hN
  clear hN
  go_enter Tryd.func67, Tryd.ntmps67
  go_wp2_with (first | (go_at_call 88; refine (HN.out _ (by repeat (first | exact ht | apply PTabs.alloc | apply PTabs.drew))).mono ?_; rintro e w' ⟨rfl, rfl⟩))
  refine bodyPost_cell Tryd.results67 (w.heap.size + 1) _ _ Tryd.underlying69 rfl rfl (by first | exact heap2_0 w _ _ | exact heap2_1 w _ _ _ | exact heap2_2 w _ _ _ _ | exact heap2_3 w _ _ _ _ _ | exact heap2_4 w _ _ _ _ _ _) (by kernel_rfl) rfl ?_
  rw [HV.out]
  exact ⟨rfl, (by repeat (first | exact Below.refl _ _ | refine Below.alloc ?_ (by simp <;> omega) _ | apply Below.drew))⟩

theorem led_any (s : Pl.St) (to : Nat) (b : UInt8) (w : World) (ht : PTabs w) (hn : s.name.length ≤ 9) (hm : s.mode ≤ 33) :
    Calls Tryd.prog 67 #[stVal s, .int .u8 to, .int .u8 b.toNat] w fun e w' => e = .returned (stVal (s.led to b)) ∧ Below w.heap.size w w' := by
  by_cases he : s.mode = to
  · subst he
    by_cases h3 : s.mode = 3
    · by_cases h9 : s.name.length = 9
      · have := led_same3f s b w h3 h9
        rw [h3]; exact this
      · have := led_same3m s b w h3 hn h9
        rw [h3]; exact this
    by_cases h5 : s.mode = 5
    · by_cases h9 : s.name.length = 9
      · have := led_same5f s b w h5 h9
        rw [h5]; exact this
      · have := led_same5m s b w h5 hn h9
        rw [h5]; exact this
    by_cases h4 : s.mode = 4
    · have := led_same4 s b w h4
      rw [h4]; exact this
    by_cases h10 : s.mode = 10
    · have := led_same10 s b w h10
      rw [h10]; exact this
    exact led_sameo s b w s.mode rfl h3 h5 h4 h10 (by omega)
  · have he' : ¬ to = s.mode := fun e => he e.symm
    by_cases h3 : to = 3
    · subst h3; exact led_ne3 s b w ht he'
    by_cases h5 : to = 5
    · subst h5; exact led_ne5 s b w ht he'
    by_cases h4 : to = 4
    · subst h4; exact led_ne4 s b w ht he'
    by_cases h10 : to = 10
    · subst h10; exact led_ne10 s b w ht he'
    by_cases h34 : to = 34
    · subst h34; exact led_ne34 s b w ht he'
    exact led_neo s b w ht to h3 h5 h4 h10 h34 he'

end Go.Proofs.YtbagkoemaalnmaaDoor
