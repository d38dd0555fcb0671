/-
  Several texts laid together: each opens with its own remark.
-/
import Derived.Test.YtfkhljmiehdgmaaGreatDoorMhG
import Derived.Test.YtfkhljmiehdgmaaGreatDoorMhD
import Derived.Test.YtfkhljmiehdgmaaGreatDoorMhC

/-
  The walks of package markup: holes.
-/
namespace Go.Proofs.YtfkhljmiehdgmaaGreatDoor
open Go.RowKit

set_option maxHeartbeats 1600000 in
theorem none_any (x : Pl.Sx) (w : World) :
    Calls Tryz.prog 111 #[sxVal x] w fun e w' => e = .returned (.bool (x.st.mode == 0)) ∧ w.alloc (.cells (sxCells x) 162) = w' := by
  unfold sxVal sxCells bs
  by_cases h : x.st.mode = 0
  · have hb : (x.st.mode == 0) = true := beq_iff_eq.2 h
    rw [hb, h]
    clear hb
    go_enter Tryz.func111, Tryz.ntmps111
    go_wp2
    go_ret
    exact ⟨rfl, rfl⟩
  · have hb : (x.st.mode == 0) = false := beq_eq_false_iff_ne.2 h
    have hi : ((x.st.mode : Int) == 0) = false := by rw [beq_eq_false_iff_ne]; omega
    rw [hb]
    clear hb
    go_enter Tryz.func111, Tryz.ntmps111
    go_wp2
    go_ret
    exact ⟨rfl, rfl⟩

set_option maxHeartbeats 3200000 in
theorem halfway_any (x : Pl.Sx) (w : World) :
    Calls Tryz.prog 155 #[sxVal x] w fun e w' => e = .returned (.bool x.halfway) ∧ w.alloc (.cells (sxCells x) 162) = w' := by
  have HV : Hid (x.halfway = (x.ma.ref || (x.st.esc || (decide (0 < x.ma.hex) || (decide (0 < x.ma.pct) || decide ((0 : Int) < (x.st.read : Int))))))) := by
    show _ = _
    unfold Pl.Sx.halfway
    congr 4
    exact decide_eq_decide.2 (by omega)
  rw [HV.out]
  clear HV
  unfold sxVal sxCells bs
  generalize x.ma.ref = r
  generalize x.st.esc = z
  generalize x.ma.hex = h
  generalize x.ma.pct = p
  generalize (x.st.read : Int) = d
  cases r with
  | true =>
    go_enter Tryz.func155, Tryz.ntmps155
    go_wp2
    go_ret
    exact ⟨rfl, rfl⟩
  | false =>
    cases z with
    | true =>
      go_enter Tryz.func155, Tryz.ntmps155
      go_wp2
      go_ret
      exact ⟨rfl, rfl⟩
    | false =>
      by_cases c1 : 0 < h
      · rw [decide_eq_true c1]
        go_enter Tryz.func155, Tryz.ntmps155
        go_wp2
        go_ret
        exact ⟨rfl, rfl⟩
      · rw [decide_eq_false c1]
        have c1 : h ≤ 0 := by omega
        by_cases c2 : 0 < p
        · rw [decide_eq_true c2]
          go_enter Tryz.func155, Tryz.ntmps155
          go_wp2
          go_ret
          exact ⟨rfl, rfl⟩
        · rw [decide_eq_false c2]
          have c2 : p ≤ 0 := by omega
          by_cases c3 : 0 < d
          · rw [decide_eq_true c3]
            go_enter Tryz.func155, Tryz.ntmps155
            go_wp2
            go_ret
            exact ⟨rfl, rfl⟩
          · rw [decide_eq_false c3]
            have c3 : d ≤ 0 := by omega
            go_enter Tryz.func155, Tryz.ntmps155
            go_wp2
            go_ret
            exact ⟨rfl, rfl⟩

end Go.Proofs.YtfkhljmiehdgmaaGreatDoor

/-
  The walks of package markup: Hole.
-/
namespace Go.Proofs.YtfkhljmiehdgmaaGreatDoor
open Go.RowKit

/-- two values that a function hands back -/
theorem bodyPost_two {P : Program} {fn : Func} {R : Ending → World → Prop} {a : Act} {w : World} {t u : Tmp} (h : fn.results = #[.tmp t, .tmp u]) (hdf : a.defers = []) (x y : Value) (hx : a.tmps.getD t undef = x) (hy : a.tmps.getD u undef = y) (hR : R (.returned (.tuple #[x, y])) w) : bodyPost P fn R .ret a w := by
  subst hx hy
  refine bodyPost_ret ?_ hdf hR
  simp [results, h]

set_option maxHeartbeats 3200000 in
theorem holeP_0 (x : Pl.Sx) (w : World) (h0 : Pl.writtenAs x.st.mode = 0) :
    Calls Tryz.prog 108 #[sxVal x] w fun e w' => e = .returned (.tuple #[.int .i64 x.hole.1, .int .i64 x.hole.2]) ∧ Below w.heap.size w w' := by
  have hW := fun w => writtenAs_any x.st.mode w
  have hH := fun w => halfway_any x w
  have hI := fun w => inLink_any x w
  have HV : Hid (x.hole = (0, 10)) := by
    show _ = _
    unfold Pl.Sx.hole
    rw [if_pos h0]
  rw [HV.out]
  clear HV
  rw [h0] at hW
  clear h0
  unfold sxVal sxCells bs at hH hI ⊢
  have HW := (show Hid _ from hW)
  have HH := (show Hid _ from hH)
  have HI := (show Hid _ from hI)
  clear hW hH hI
  go_enter Tryz.func108, Tryz.ntmps108
  go_wp2_with (first
    | (go_at_call 154; refine (HW.out _).mono ?_; rintro e w' ⟨rfl, rfl⟩)
    | (go_at_call 155; refine (HH.out _).mono ?_; rintro e w' ⟨rfl, rfl⟩)
    | (go_at_call 153; refine (HI.out _).mono ?_; rintro e w' ⟨rfl, rfl⟩))
  refine bodyPost_two Tryz.results108 rfl _ _ rfl rfl ?_
  exact ⟨rfl, by repeat (first | exact Below.refl _ _ | refine Below.alloc ?_ (by simp <;> omega) _)⟩

set_option maxHeartbeats 3200000 in
theorem holeP_1 (x : Pl.Sx) (w : World) (h0 : ¬ Pl.writtenAs x.st.mode = 0) (h1 : x.st.kind = 2) :
    Calls Tryz.prog 108 #[sxVal x] w fun e w' => e = .returned (.tuple #[.int .i64 x.hole.1, .int .i64 x.hole.2]) ∧ Below w.heap.size w w' := by
  have hW := fun w => writtenAs_any x.st.mode w
  have hH := fun w => halfway_any x w
  have hI := fun w => inLink_any x w
  have HV : Hid (x.hole = (0, 11)) := by
    show _ = _
    unfold Pl.Sx.hole
    rw [if_neg h0, if_pos h1]
  rw [HV.out]
  clear HV
  have c0 : ((Pl.writtenAs x.st.mode : Int) == 0) = false := by rw [beq_eq_false_iff_ne]; omega
  unfold sxVal sxCells bs
  rw [h1]
  unfold sxVal sxCells bs at hH hI
  rw [h1] at hH hI
  clear h0 h1
  generalize (Pl.writtenAs x.st.mode : Int) = a at hW c0
  have HW := (show Hid _ from hW)
  have HH := (show Hid _ from hH)
  have HI := (show Hid _ from hI)
  clear hW hH hI
  go_enter Tryz.func108, Tryz.ntmps108
  go_wp2_with (first
    | (go_at_call 154; refine (HW.out _).mono ?_; rintro e w' ⟨rfl, rfl⟩)
    | (go_at_call 155; refine (HH.out _).mono ?_; rintro e w' ⟨rfl, rfl⟩)
    | (go_at_call 153; refine (HI.out _).mono ?_; rintro e w' ⟨rfl, rfl⟩))
  refine bodyPost_two Tryz.results108 rfl _ _ rfl rfl ?_
  exact ⟨rfl, by repeat (first | exact Below.refl _ _ | refine Below.alloc ?_ (by simp <;> omega) _)⟩

set_option maxHeartbeats 3200000 in
theorem holeP_2 (x : Pl.Sx) (w : World) (h0 : ¬ Pl.writtenAs x.st.mode = 0) (h1 : ¬ x.st.kind = 2) (h2 : x.halfway = true) :
    Calls Tryz.prog 108 #[sxVal x] w fun e w' => e = .returned (.tuple #[.int .i64 x.hole.1, .int .i64 x.hole.2]) ∧ Below w.heap.size w w' := by
  have hW := fun w => writtenAs_any x.st.mode w
  have hH := fun w => halfway_any x w
  have hI := fun w => inLink_any x w
  have HV : Hid (x.hole = (0, 12)) := by
    show _ = _
    unfold Pl.Sx.hole
    rw [if_neg h0, if_neg h1, if_pos h2]
  rw [HV.out]
  clear HV
  have c0 : ((Pl.writtenAs x.st.mode : Int) == 0) = false := by rw [beq_eq_false_iff_ne]; omega
  have c1 : ((x.st.kind : Int) == 2) = false := by rw [beq_eq_false_iff_ne]; exact h1
  rw [h2] at hH
  clear h0 h1 h2
  generalize (Pl.writtenAs x.st.mode : Int) = a at hW c0
  unfold sxVal sxCells bs at hH hI ⊢
  have HW := (show Hid _ from hW)
  have HH := (show Hid _ from hH)
  have HI := (show Hid _ from hI)
  clear hW hH hI
  go_enter Tryz.func108, Tryz.ntmps108
  go_wp2_with (first
    | (go_at_call 154; refine (HW.out _).mono ?_; rintro e w' ⟨rfl, rfl⟩)
    | (go_at_call 155; refine (HH.out _).mono ?_; rintro e w' ⟨rfl, rfl⟩)
    | (go_at_call 153; refine (HI.out _).mono ?_; rintro e w' ⟨rfl, rfl⟩))
  refine bodyPost_two Tryz.results108 rfl _ _ rfl rfl ?_
  exact ⟨rfl, by repeat (first | exact Below.refl _ _ | refine Below.alloc ?_ (by simp <;> omega) _)⟩

set_option maxHeartbeats 3200000 in
theorem holeP_3 (x : Pl.Sx) (w : World) (h0 : ¬ Pl.writtenAs x.st.mode = 0) (h1 : ¬ x.st.kind = 2) (h2 : ¬ x.halfway = true) (h3 : Pl.inLink x.st.kind x.st.mode = true) (h4 : x.ma.far = 0) :
    Calls Tryz.prog 108 #[sxVal x] w fun e w' => e = .returned (.tuple #[.int .i64 x.hole.1, .int .i64 x.hole.2]) ∧ Below w.heap.size w w' := by
  have hW := fun w => writtenAs_any x.st.mode w
  have hH := fun w => halfway_any x w
  have hI := fun w => inLink_any x w
  have HV : Hid (x.hole = (2, 0)) := by
    show _ = _
    unfold Pl.Sx.hole
    rw [if_neg h0, if_neg h1, if_neg h2, if_pos ⟨h3, h4⟩]
  rw [HV.out]
  clear HV
  have c0 : ((Pl.writtenAs x.st.mode : Int) == 0) = false := by rw [beq_eq_false_iff_ne]; omega
  have c1 : ((x.st.kind : Int) == 2) = false := by rw [beq_eq_false_iff_ne]; exact h1
  rw [Bool.eq_false_iff.2 h2] at hH
  rw [h3] at hI
  unfold sxVal sxCells bs at hH hI ⊢
  rw [h4] at hH hI ⊢
  clear h0 h1 h2 h3 h4
  generalize (Pl.writtenAs x.st.mode : Int) = a at hW c0
  have HW := (show Hid _ from hW)
  have HH := (show Hid _ from hH)
  have HI := (show Hid _ from hI)
  clear hW hH hI
  go_enter Tryz.func108, Tryz.ntmps108
  go_wp2_with (first
    | (go_at_call 154; refine (HW.out _).mono ?_; rintro e w' ⟨rfl, rfl⟩)
    | (go_at_call 155; refine (HH.out _).mono ?_; rintro e w' ⟨rfl, rfl⟩)
    | (go_at_call 153; refine (HI.out _).mono ?_; rintro e w' ⟨rfl, rfl⟩))
  refine bodyPost_two Tryz.results108 rfl _ _ rfl rfl ?_
  exact ⟨rfl, by repeat (first | exact Below.refl _ _ | refine Below.alloc ?_ (by simp <;> omega) _)⟩

set_option maxHeartbeats 3200000 in
theorem holeP_4 (x : Pl.Sx) (w : World) (h0 : ¬ Pl.writtenAs x.st.mode = 0) (h1 : ¬ x.st.kind = 2) (h2 : ¬ x.halfway = true) (h3 : Pl.inLink x.st.kind x.st.mode = true) (h4 : ¬ x.ma.far = 0) :
    Calls Tryz.prog 108 #[sxVal x] w fun e w' => e = .returned (.tuple #[.int .i64 x.hole.1, .int .i64 x.hole.2]) ∧ Below w.heap.size w w' := by
  have hW := fun w => writtenAs_any x.st.mode w
  have hH := fun w => halfway_any x w
  have hI := fun w => inLink_any x w
  have HV : Hid (x.hole = (3, 0)) := by
    show _ = _
    unfold Pl.Sx.hole
    rw [if_neg h0, if_neg h1, if_neg h2, if_neg (fun q => h4 q.2), if_pos h3]
  rw [HV.out]
  clear HV
  have c0 : ((Pl.writtenAs x.st.mode : Int) == 0) = false := by rw [beq_eq_false_iff_ne]; omega
  have c1 : ((x.st.kind : Int) == 2) = false := by rw [beq_eq_false_iff_ne]; exact h1
  rw [Bool.eq_false_iff.2 h2] at hH
  have c4 : ((x.ma.far : Int) == 0) = false := by rw [beq_eq_false_iff_ne]; exact h4
  rw [h3] at hI
  clear h0 h1 h2 h3 h4
  generalize (Pl.writtenAs x.st.mode : Int) = a at hW c0
  unfold sxVal sxCells bs at hH hI ⊢
  have HW := (show Hid _ from hW)
  have HH := (show Hid _ from hH)
  have HI := (show Hid _ from hI)
  clear hW hH hI
  go_enter Tryz.func108, Tryz.ntmps108
  go_wp2_with (first
    | (go_at_call 154; refine (HW.out _).mono ?_; rintro e w' ⟨rfl, rfl⟩)
    | (go_at_call 155; refine (HH.out _).mono ?_; rintro e w' ⟨rfl, rfl⟩)
    | (go_at_call 153; refine (HI.out _).mono ?_; rintro e w' ⟨rfl, rfl⟩))
  refine bodyPost_two Tryz.results108 rfl _ _ rfl rfl ?_
  exact ⟨rfl, by repeat (first | exact Below.refl _ _ | refine Below.alloc ?_ (by simp <;> omega) _)⟩

set_option maxHeartbeats 3200000 in
theorem holeP_5 (x : Pl.Sx) (w : World) (h0 : ¬ Pl.writtenAs x.st.mode = 0) (h1 : ¬ x.st.kind = 2) (h2 : ¬ x.halfway = true) (h3 : ¬ Pl.inLink x.st.kind x.st.mode = true) :
    Calls Tryz.prog 108 #[sxVal x] w fun e w' => e = .returned (.tuple #[.int .i64 x.hole.1, .int .i64 x.hole.2]) ∧ Below w.heap.size w w' := by
  have hW := fun w => writtenAs_any x.st.mode w
  have hH := fun w => halfway_any x w
  have hI := fun w => inLink_any x w
  have HV : Hid (x.hole = (Pl.writtenAs x.st.mode, 0)) := by
    show _ = _
    unfold Pl.Sx.hole
    rw [if_neg h0, if_neg h1, if_neg h2, if_neg (fun q => h3 q.1), if_neg h3]
  rw [HV.out]
  clear HV
  have c0 : ((Pl.writtenAs x.st.mode : Int) == 0) = false := by rw [beq_eq_false_iff_ne]; omega
  have c1 : ((x.st.kind : Int) == 2) = false := by rw [beq_eq_false_iff_ne]; exact h1
  rw [Bool.eq_false_iff.2 h2] at hH
  rw [Bool.eq_false_iff.2 h3] at hI
  clear h0 h1 h2 h3
  simp only
  generalize (Pl.writtenAs x.st.mode : Int) = a at hW c0 ⊢
  unfold sxVal sxCells bs at hH hI ⊢
  have HW := (show Hid _ from hW)
  have HH := (show Hid _ from hH)
  have HI := (show Hid _ from hI)
  clear hW hH hI
  go_enter Tryz.func108, Tryz.ntmps108
  go_wp2_with (first
    | (go_at_call 154; refine (HW.out _).mono ?_; rintro e w' ⟨rfl, rfl⟩)
    | (go_at_call 155; refine (HH.out _).mono ?_; rintro e w' ⟨rfl, rfl⟩)
    | (go_at_call 153; refine (HI.out _).mono ?_; rintro e w' ⟨rfl, rfl⟩))
  refine bodyPost_two Tryz.results108 rfl _ _ rfl rfl ?_
  exact ⟨rfl, by repeat (first | exact Below.refl _ _ | refine Below.alloc ?_ (by simp <;> omega) _)⟩

theorem holeP_any (x : Pl.Sx) (w : World) :
    Calls Tryz.prog 108 #[sxVal x] w fun e w' => e = .returned (.tuple #[.int .i64 x.hole.1, .int .i64 x.hole.2]) ∧ Below w.heap.size w w' := by
  by_cases h0 : Pl.writtenAs x.st.mode = 0
  · exact holeP_0 x w h0
  by_cases h1 : x.st.kind = 2
  · exact holeP_1 x w h0 h1
  by_cases h2 : x.halfway = true
  · exact holeP_2 x w h0 h1 h2
  by_cases h3 : Pl.inLink x.st.kind x.st.mode = true
  · by_cases h4 : x.ma.far = 0
    · exact holeP_3 x w h0 h1 h2 h3 h4
    · exact holeP_4 x w h0 h1 h2 h3 h4
  · exact holeP_5 x w h0 h1 h2 h3

end Go.Proofs.YtfkhljmiehdgmaaGreatDoor

/-
  The walks of package markup: the state behind a hole.
-/
namespace Go.Proofs.YtfkhljmiehdgmaaGreatDoor
open Go.RowKit

set_option maxRecDepth 100000 in
set_option maxHeartbeats 3200000 in
theorem behindHoleP_0 (x : Pl.Sx) (w : World) (h3 : ¬ Pl.inLink x.st.kind x.st.mode = true) :
    Calls Tryz.prog 109 #[sxVal x] w fun e w' => e = .returned (sxVal x.behindHole) ∧ Below w.heap.size w w' := by
  have hI := fun w => inLink_any x w
  have HV : Hid (x.behindHole = x) := by
    show _ = _
    unfold Pl.Sx.behindHole
    rw [if_neg (fun q => h3 q.1)]
  rw [HV.out]
  clear HV
  rw [Bool.eq_false_iff.2 h3] at hI
  unfold sxVal sxCells bs at hI ⊢
  have HI := (show Hid _ from hI)
  clear hI h3
  go_enter Tryz.func109, Tryz.ntmps109
  go_wp2_with (go_at_call 153; refine (HI.out _).mono ?_; rintro e w' ⟨rfl, rfl⟩)
  refine bodyPost_ret (results_cell Tryz.results109 _ _ (w.heap.size + 1) _ _ rfl (cells_at_block ((heap_alloc_old _ _ (by simp)).trans (heap_new_at (w.alloc _) _ _ (by simp)))) Tryz.underlying162 rfl (by kernel_rfl)) rfl ?_
  exact ⟨rfl, by repeat (first | exact Below.refl _ _ | refine Below.alloc ?_ (by simp <;> omega) _)⟩

set_option maxRecDepth 100000 in
set_option maxHeartbeats 3200000 in
theorem behindHoleP_1 (x : Pl.Sx) (w : World) (h3 : Pl.inLink x.st.kind x.st.mode = true) (h4 : ¬ x.ma.far < 2) :
    Calls Tryz.prog 109 #[sxVal x] w fun e w' => e = .returned (sxVal x.behindHole) ∧ Below w.heap.size w w' := by
  have hI := fun w => inLink_any x w
  have HV : Hid (x.behindHole = x) := by
    show _ = _
    unfold Pl.Sx.behindHole
    rw [if_neg (fun q => h4 q.2)]
  rw [HV.out]
  clear HV
  rw [h3] at hI
  unfold sxVal sxCells bs at hI ⊢
  have HI := (show Hid _ from hI)
  have c4 : 2 ≤ x.ma.far := by omega
  clear hI h3 h4
  go_enter Tryz.func109, Tryz.ntmps109
  go_wp2_with (go_at_call 153; refine (HI.out _).mono ?_; rintro e w' ⟨rfl, rfl⟩)
  refine bodyPost_ret (results_cell Tryz.results109 _ _ (w.heap.size + 1) _ _ rfl (cells_at_block ((heap_alloc_old _ _ (by simp)).trans (heap_new_at (w.alloc _) _ _ (by simp)))) Tryz.underlying162 rfl (by kernel_rfl)) rfl ?_
  exact ⟨rfl, by repeat (first | exact Below.refl _ _ | refine Below.alloc ?_ (by simp <;> omega) _)⟩

set_option maxRecDepth 100000 in
set_option maxHeartbeats 3200000 in
theorem behindHoleP_2 (x : Pl.Sx) (w : World) (h3 : Pl.inLink x.st.kind x.st.mode = true) (h4 : x.ma.far < 2) :
    Calls Tryz.prog 109 #[sxVal x] w fun e w' => e = .returned (sxVal x.behindHole) ∧ Below w.heap.size w w' := by
  have hI := fun w => inLink_any x w
  have HV : Hid (x.behindHole = ⟨x.st, ⟨x.ma.ref, x.ma.hex, x.ma.pct, 2⟩⟩) := by
    show _ = _
    unfold Pl.Sx.behindHole
    rw [if_pos ⟨h3, h4⟩]
  rw [HV.out]
  clear HV
  rw [h3] at hI
  unfold sxVal sxCells bs at hI ⊢
  have HI := (show Hid _ from hI)
  clear hI h3
  go_enter Tryz.func109, Tryz.ntmps109
  go_wp2_with (go_at_call 153; refine (HI.out _).mono ?_; rintro e w' ⟨rfl, rfl⟩)
  refine bodyPost_ret (results_cell Tryz.results109 _ _ (w.heap.size + 1) _ _ rfl (cells_at_block ((heap_alloc_old _ _ (by simp)).trans (heap_new_at (w.alloc _) _ _ (by simp)))) Tryz.underlying162 rfl (by kernel_rfl)) rfl ?_
  exact ⟨rfl, by repeat (first | exact Below.refl _ _ | refine Below.alloc ?_ (by simp <;> omega) _)⟩

theorem behindHoleP_any (x : Pl.Sx) (w : World) :
    Calls Tryz.prog 109 #[sxVal x] w fun e w' => e = .returned (sxVal x.behindHole) ∧ Below w.heap.size w w' := by
  by_cases h3 : Pl.inLink x.st.kind x.st.mode = true
  · by_cases h4 : x.ma.far < 2
    · exact behindHoleP_2 x w h3 h4
    · exact behindHoleP_1 x w h3 h4
  · exact behindHoleP_0 x w h3

end Go.Proofs.YtfkhljmiehdgmaaGreatDoor
