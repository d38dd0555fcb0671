/-
  The walks of package markup: names.
-/
import Derived.Test.YtfkhljmiehdgmaaGreatDoorWalkA
import Derived.Test.YtfkhljmiehdgmaaGreatDoorPgTabs
import Derived.Test.YtfkhljmiehdgmaaGreatDoorMhC
import Derived.RegionTactic
import Derived.BigRegion
import Derived.Deep.RegionWith
import Derived.BigQuiet
import Derived.Deep.QuietTactic
namespace Go.Proofs.YtfkhljmiehdgmaaGreatDoor
open Go.RowKit

set_option maxHeartbeats 400000 in
theorem SmallByte_any (b : UInt8) (w : World) :
    Calls Tryz.prog 131 #[.int .u8 b.toNat] w fun e w' => e = .returned (.int .u8 (Pl.small b).toNat) ∧ w = w' := by
  by_cases h1 : Pl.isUpper b = true
  · have H : Hid ((Pl.small b).toNat = (b.toNat : Int) + 32) := by
      show _ = _
      unfold Pl.small; rw [if_pos h1]
      simp only [Pl.isUpper, Bool.and_eq_true, decide_eq_true_eq] at h1
      exact add8 b h1.2
    have hb : b.toNat ≤ 90 := by simp only [Pl.isUpper, Bool.and_eq_true, decide_eq_true_eq] at h1; exact h1.2
    have hw : IntKind.u8.wrap ((b.toNat : Int) + 32) = (b.toNat : Int) + 32 := by rw [IntKind.wrap_u8]; omega
    go_enter Tryz.func131, Tryz.ntmps131
    go_wp2_with (go_at_call 181; refine (upper_any b _).mono ?_; rintro e w' ⟨rfl, rfl⟩)
    go_ret
    exact ⟨ret_int (by rw [H.out]), rfl⟩
  · have h1 : Pl.isUpper b = false := Bool.eq_false_iff.2 h1
    have H : Hid (Pl.small b = b) := by show _ = _; unfold Pl.small; rw [h1]; rfl
    go_enter Tryz.func131, Tryz.ntmps131
    go_wp2_with (go_at_call 181; refine (upper_any b _).mono ?_; rintro e w' ⟨rfl, rfl⟩)
    go_ret
    exact ⟨ret_int (by rw [H.out]), rfl⟩

theorem one_back (x : UInt8) (w : World) : (convert 82 9 (.slice (some ⟨w.heap.size, 0, none⟩) 1 1)).run Tryz.prog (w.alloc (.cells #[.int .u8 x.toNat] 5)) = .ok (.string ⟨#[x]⟩) (w.alloc (.cells #[.int .u8 x.toNat] 5)) := by
  refine run_convert_bytes_back _ 82 9 5 ⟨w.heap.size, 0, none⟩ 1 [x] Tryz.underlying82 Tryz.underlying5 Tryz.underlying9 ?_
  intro j hj
  match j, hj with
  | 0, _ => simp [Addr.add]

set_option maxRecDepth 100000 in
set_option maxHeartbeats 800000 in
theorem longer_full (n : List UInt8) (b : UInt8) (w : World) (h9 : n.length = 9) :
    Calls Tryz.prog 135 #[.string ⟨n.toArray⟩, .int .u8 b.toNat] w fun e w' => e = .returned (.string ⟨(Pl.longer n b).toArray⟩) ∧ w = w' := by
  have hz : (ByteArray.mk n.toArray).size = n.length := by simp [ByteArray.size]
  have H : Hid (Pl.longer n b = n) := by show _ = _; unfold Pl.longer; rw [if_pos h9]
  go_enter Tryz.func135, Tryz.ntmps135
  go_wp2
  go_ret
  exact ⟨ret_str (by rw [H.out]), rfl⟩
set_option maxRecDepth 100000 in
set_option maxHeartbeats 800000 in
theorem longer_more (n : List UInt8) (b : UInt8) (w : World) (hn : n.length ≤ 9) (h9 : ¬ n.length = 9) :
    Calls Tryz.prog 135 #[.string ⟨n.toArray⟩, .int .u8 b.toNat] w fun e w' => e = .returned (.string ⟨(Pl.longer n b).toArray⟩) ∧ w.alloc (.cells #[.int .u8 (Pl.small b).toNat] 5) = w' := by
  have hz : (ByteArray.mk n.toArray).size = n.length := by simp [ByteArray.size]
  have H : Hid (Pl.longer n b = n ++ [Pl.small b]) := by show _ = _; unfold Pl.longer; rw [if_neg h9]
  have hcv := one_back (Pl.small b) w
  go_enter Tryz.func135, Tryz.ntmps135
  go_wp2_with (go_at_call 131; refine (SmallByte_any b _).mono ?_; rintro e w' ⟨rfl, rfl⟩)
  go_ret
  exact ⟨ret_str (by rw [H.out]; apply ByteArray.ext; simp), rfl⟩

theorem elementOf_yes {n l : List UInt8} (h : (l == n) = true) (hl : l = Pl.titleN ∨ l = Pl.areaN ∨ l = Pl.scriptN ∨ l = Pl.styleN) : Pl.elementOf n = n := by
  rw [beq_iff_eq] at h
  subst h
  unfold Pl.elementOf
  rw [if_pos hl]
theorem elementOf_no {n : List UInt8} (h1 : (Pl.titleN == n) = false) (h2 : (Pl.areaN == n) = false) (h3 : (Pl.scriptN == n) = false) (h4 : (Pl.styleN == n) = false) : Pl.elementOf n = [] := by
  rw [beq_eq_false_iff_ne] at h1 h2 h3 h4
  unfold Pl.elementOf
  rw [if_neg]
  rintro (e | e | e | e)
  · exact h1 e.symm
  · exact h2 e.symm
  · exact h3 e.symm
  · exact h4 e.symm

set_option maxRecDepth 100000 in
set_option maxHeartbeats 1600000 in
theorem elementOf_any (n : List UInt8) (w : World) (ht : PTabs w) :
    Calls Tryz.prog 185 #[.string ⟨n.toArray⟩] w fun e w' => e = .returned (.string ⟨(Pl.elementOf n).toArray⟩) ∧ w = w' := by
  have c0 := (elems_at ht.el 0 _ rfl).1
  have c1 := (elems_at ht.el 1 _ rfl).1
  have c2 := (elems_at ht.el 2 _ rfl).1
  have c3 := (elems_at ht.el 3 _ rfl).1
  simp only [bs, Pl.titleN, Pl.areaN, Pl.scriptN, Pl.styleN, Nat.mul_zero, Nat.reduceMul] at c0 c1 c2 c3
  clear ht
  go_enter Tryz.func185, Tryz.ntmps185
  go_wp2
  go_loop [3, 4] (fun _ i => ∃ k : Nat, k ≤ 4 ∧ i = .int .i64 k ∧ (1 ≤ k → (Pl.titleN == n) = false) ∧ (2 ≤ k → (Pl.areaN == n) = false) ∧ (3 ≤ k → (Pl.scriptN == n) = false) ∧ (4 ≤ k → (Pl.styleN == n) = false)) (fun _ i => 4 - (intOf i).toNat)
  case atStart => exact ⟨0, by omega, rfl, by omega, by omega, by omega, by omega⟩
  case round =>
    obtain ⟨k, hk, rfl, h1, h2, h3, h4⟩ := hrel
    have H1 : Hid (1 ≤ k → (Pl.titleN == n) = false) := h1
    have H2 : Hid (2 ≤ k → (Pl.areaN == n) = false) := h2
    have H3 : Hid (3 ≤ k → (Pl.scriptN == n) = false) := h3
    have H4 : Hid (4 ≤ k → (Pl.styleN == n) = false) := h4
    clear h1 h2 h3 h4
    rcases (show k = 0 ∨ k = 1 ∨ k = 2 ∨ k = 3 ∨ k = 4 by omega) with rfl | rfl | rfl | rfl | rfl
    · by_cases hq : ([116, 105, 116, 108, 101] == n) = true
      · have HV : Hid (Pl.elementOf n = n) := elementOf_yes hq (.inl rfl)
        go_wp2
        go_ret
        exact ⟨ret_str (by rw [HV.out]), rfl⟩
      · have hq := Bool.eq_false_iff.2 hq
        have HQ : Hid ((Pl.titleN == n) = false) := hq
        go_wp2
        go_round
        case rel => exact ⟨1, by omega, rfl, fun _ => HQ.out, by omega, by omega, by omega⟩
        case measure => simp [intOf]
    · by_cases hq : ([116, 101, 120, 116, 97, 114, 101, 97] == n) = true
      · have HV : Hid (Pl.elementOf n = n) := elementOf_yes hq (.inr (.inl rfl))
        go_wp2
        go_ret
        exact ⟨ret_str (by rw [HV.out]), rfl⟩
      · have hq := Bool.eq_false_iff.2 hq
        have HQ : Hid ((Pl.areaN == n) = false) := hq
        go_wp2
        go_round
        case rel => exact ⟨2, by omega, rfl, fun _ => H1.out (by omega), fun _ => HQ.out, by omega, by omega⟩
        case measure => simp [intOf]
    · by_cases hq : ([115, 99, 114, 105, 112, 116] == n) = true
      · have HV : Hid (Pl.elementOf n = n) := elementOf_yes hq (.inr (.inr (.inl rfl)))
        go_wp2
        go_ret
        exact ⟨ret_str (by rw [HV.out]), rfl⟩
      · have hq := Bool.eq_false_iff.2 hq
        have HQ : Hid ((Pl.scriptN == n) = false) := hq
        go_wp2
        go_round
        case rel => exact ⟨3, by omega, rfl, fun _ => H1.out (by omega), fun _ => H2.out (by omega), fun _ => HQ.out, by omega⟩
        case measure => simp [intOf]
    · by_cases hq : ([115, 116, 121, 108, 101] == n) = true
      · have HV : Hid (Pl.elementOf n = n) := elementOf_yes hq (.inr (.inr (.inr rfl)))
        go_wp2
        go_ret
        exact ⟨ret_str (by rw [HV.out]), rfl⟩
      · have hq := Bool.eq_false_iff.2 hq
        have HQ : Hid ((Pl.styleN == n) = false) := hq
        go_wp2
        go_round
        case rel => exact ⟨4, by omega, rfl, fun _ => H1.out (by omega), fun _ => H2.out (by omega), fun _ => H3.out (by omega), fun _ => HQ.out⟩
        case measure => simp [intOf]
    · have HV : Hid (Pl.elementOf n = []) := elementOf_no (H1.out (by omega)) (H2.out (by omega)) (H3.out (by omega)) (H4.out (by omega))
      go_wp2
      go_ret
      exact ⟨ret_str (by rw [HV.out]), rfl⟩

theorem within_yes0 {n : List UInt8} (h : (Pl.titleN == n) = true) : Pl.within n = ⟨19, [], n, 0, 0, false⟩ := by
  rw [beq_iff_eq] at h; subst h; rfl
theorem within_yes1 {n : List UInt8} (h : (Pl.areaN == n) = true) : Pl.within n = ⟨19, [], n, 0, 0, false⟩ := by
  rw [beq_iff_eq] at h; subst h; rfl
theorem within_yes2 {n : List UInt8} (h : (Pl.scriptN == n) = true) : Pl.within n = ⟨20, [], n, 0, 0, false⟩ := by
  rw [beq_iff_eq] at h; subst h; rfl
theorem within_yes3 {n : List UInt8} (h : (Pl.styleN == n) = true) : Pl.within n = ⟨28, [], n, 0, 0, false⟩ := by
  rw [beq_iff_eq] at h; subst h; rfl
theorem within_no {n : List UInt8} (h1 : (Pl.titleN == n) = false) (h2 : (Pl.areaN == n) = false) (h3 : (Pl.scriptN == n) = false) (h4 : (Pl.styleN == n) = false) : Pl.within n = ⟨1, [], [], 0, 0, false⟩ := by
  rw [beq_eq_false_iff_ne] at h1 h2 h3 h4
  have : Pl.contentOf n = 1 := by unfold Pl.contentOf; rw [if_neg (Ne.symm h1), if_neg (Ne.symm h2), if_neg (Ne.symm h3), if_neg (Ne.symm h4)]
  unfold Pl.within; rw [if_pos this]

/-- a state of the program, as a value -/
def sxCells (x : Pl.Sx) : Array Value := #[.int .u8 (x.st.mode : Int), bs x.st.name, bs x.st.elem, .int .i64 x.st.kind, .int .i64 (x.st.read : Int), .bool x.ma.ref, .bool x.st.esc, .int .i64 x.ma.hex, .int .i64 x.ma.pct, .int .i64 x.ma.far]
def sxVal (x : Pl.Sx) : Value := .agg (sxCells x)
/-- the marks, as a value -/
def mkCells (k : Pl.Mk) (esc : Bool) : Array Value := #[.bool k.ref, .bool esc, .int .i64 k.hex, .int .i64 k.pct, .int .i64 k.far]
def mkVal (k : Pl.Mk) (esc : Bool) : Value := .agg (mkCells k esc)

set_option maxRecDepth 100000 in
set_option maxHeartbeats 1600000 in
theorem within_any (n : List UInt8) (w : World) (ht : PTabs w) :
    Calls Tryz.prog 136 #[.string ⟨n.toArray⟩] w fun e w' => e = .returned (sxVal ⟨Pl.within n, Pl.Mk.none⟩) ∧ w.alloc (.cells (sxCells ⟨Pl.within n, Pl.Mk.none⟩) 162) = w' := by
  have ht' := fun o => ht.kept ((Below.refl _ w).alloc (Nat.le_refl _) o)
  have c0 := fun o => (elems_at (ht' o).el 0 _ rfl).1
  have c1 := fun o => (elems_at (ht' o).el 1 _ rfl).1
  have c2 := fun o => (elems_at (ht' o).el 2 _ rfl).1
  have c3 := fun o => (elems_at (ht' o).el 3 _ rfl).1
  have d0 := fun o => (elems_at (ht' o).el 0 _ rfl).2
  have d1 := fun o => (elems_at (ht' o).el 1 _ rfl).2
  have d2 := fun o => (elems_at (ht' o).el 2 _ rfl).2
  have d3 := fun o => (elems_at (ht' o).el 3 _ rfl).2
  simp only [bs, Pl.titleN, Pl.areaN, Pl.scriptN, Pl.styleN, Nat.mul_zero, Nat.reduceMul, Nat.reduceAdd] at c0 c1 c2 c3 d0 d1 d2 d3
  clear ht ht'
  go_enter Tryz.func136, Tryz.ntmps136
  go_wp2
  go_loop [3, 4] (fun _ i => ∃ k : Nat, k ≤ 4 ∧ i = .int .i64 k ∧ (1 ≤ k → (Pl.titleN == n) = false) ∧ (2 ≤ k → (Pl.areaN == n) = false) ∧ (3 ≤ k → (Pl.scriptN == n) = false) ∧ (4 ≤ k → (Pl.styleN == n) = false)) (fun _ i => 4 - (intOf i).toNat)
  case atStart => exact ⟨0, by omega, rfl, by omega, by omega, by omega, by omega⟩
  case round =>
    obtain ⟨k, hk, rfl, h1, h2, h3, h4⟩ := hrel
    have H1 : Hid (1 ≤ k → (Pl.titleN == n) = false) := h1
    have H2 : Hid (2 ≤ k → (Pl.areaN == n) = false) := h2
    have H3 : Hid (3 ≤ k → (Pl.scriptN == n) = false) := h3
    have H4 : Hid (4 ≤ k → (Pl.styleN == n) = false) := h4
    clear h1 h2 h3 h4
    rcases (show k = 0 ∨ k = 1 ∨ k = 2 ∨ k = 3 ∨ k = 4 by omega) with rfl | rfl | rfl | rfl | rfl
    · by_cases hq : ([116, 105, 116, 108, 101] == n) = true
      · have HV : Hid (Pl.within n = ⟨19, [], n, 0, 0, false⟩) := within_yes0 hq
        go_wp2
        refine bodyPost_cell Tryz.results136 w.heap.size _ _ Tryz.underlying162 rfl rfl (heap_alloc_new _ _) (by kernel_rfl) rfl ?_
        exact ⟨congrArg Ending.returned (by rw [HV.out]; rfl), by rw [HV.out]; rfl⟩
      · have hq := Bool.eq_false_iff.2 hq
        have HQ : Hid ((Pl.titleN == n) = false) := hq
        go_wp2
        go_round
        case rel => exact ⟨1, by omega, rfl, fun _ => HQ.out, by omega, by omega, by omega⟩
        case measure => simp [intOf]
    · by_cases hq : ([116, 101, 120, 116, 97, 114, 101, 97] == n) = true
      · have HV : Hid (Pl.within n = ⟨19, [], n, 0, 0, false⟩) := within_yes1 hq
        go_wp2
        refine bodyPost_cell Tryz.results136 w.heap.size _ _ Tryz.underlying162 rfl rfl (heap_alloc_new _ _) (by kernel_rfl) rfl ?_
        exact ⟨congrArg Ending.returned (by rw [HV.out]; rfl), by rw [HV.out]; rfl⟩
      · have hq := Bool.eq_false_iff.2 hq
        have HQ : Hid ((Pl.areaN == n) = false) := hq
        go_wp2
        go_round
        case rel => exact ⟨2, by omega, rfl, fun _ => H1.out (by omega), fun _ => HQ.out, by omega, by omega⟩
        case measure => simp [intOf]
    · by_cases hq : ([115, 99, 114, 105, 112, 116] == n) = true
      · have HV : Hid (Pl.within n = ⟨20, [], n, 0, 0, false⟩) := within_yes2 hq
        go_wp2
        refine bodyPost_cell Tryz.results136 w.heap.size _ _ Tryz.underlying162 rfl rfl (heap_alloc_new _ _) (by kernel_rfl) rfl ?_
        exact ⟨congrArg Ending.returned (by rw [HV.out]; rfl), by rw [HV.out]; rfl⟩
      · have hq := Bool.eq_false_iff.2 hq
        have HQ : Hid ((Pl.scriptN == n) = false) := hq
        go_wp2
        go_round
        case rel => exact ⟨3, by omega, rfl, fun _ => H1.out (by omega), fun _ => H2.out (by omega), fun _ => HQ.out, by omega⟩
        case measure => simp [intOf]
    · by_cases hq : ([115, 116, 121, 108, 101] == n) = true
      · have HV : Hid (Pl.within n = ⟨28, [], n, 0, 0, false⟩) := within_yes3 hq
        go_wp2
        refine bodyPost_cell Tryz.results136 w.heap.size _ _ Tryz.underlying162 rfl rfl (heap_alloc_new _ _) (by kernel_rfl) rfl ?_
        exact ⟨congrArg Ending.returned (by rw [HV.out]; rfl), by rw [HV.out]; rfl⟩
      · have hq := Bool.eq_false_iff.2 hq
        have HQ : Hid ((Pl.styleN == n) = false) := hq
        go_wp2
        go_round
        case rel => exact ⟨4, by omega, rfl, fun _ => H1.out (by omega), fun _ => H2.out (by omega), fun _ => H3.out (by omega), fun _ => HQ.out⟩
        case measure => simp [intOf]
    · have HV : Hid (Pl.within n = ⟨1, [], [], 0, 0, false⟩) := within_no (H1.out (by omega)) (H2.out (by omega)) (H3.out (by omega)) (H4.out (by omega))
      go_wp2
      refine bodyPost_cell Tryz.results136 w.heap.size _ _ Tryz.underlying162 rfl rfl (heap_alloc_new _ _) (by kernel_rfl) rfl ?_
      exact ⟨congrArg Ending.returned (by rw [HV.out]; rfl), by rw [HV.out]; rfl⟩

end Go.Proofs.YtfkhljmiehdgmaaGreatDoor
