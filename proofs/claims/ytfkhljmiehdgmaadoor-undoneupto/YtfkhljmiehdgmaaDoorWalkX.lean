/-
  The walk under Undone: the escapes of a place undone.
-/
import Derived.Test.YtfkhljmiehdgmaaDoorWalkS
import Derived.Test.YtfkhljmiehdgmaaDoorWalkT
import Derived.Test.YtfkhljmiehdgmaaDoorWalkU
import Derived.Test.YtfkhljmiehdgmaaDoorWalkV
namespace Go.Proofs.YtfkhljmiehdgmaaDoor
open Go.RowKit

set_option maxRecDepth 100000 in
set_option maxHeartbeats 3200000 in
theorem undone_any (kd : Int) (s : ByteArray) (w : World) (hs : s.size ≤ 1000000000) :
    Calls Tryd.prog 12 #[.int .i64 kd, .string s] w fun e w' => e = .returned (.string ⟨(Pl.undo kd s.data.toList).toArray⟩) ∧ Below w.heap.size w w' := by
  unfold Pl.undo
  by_cases h1 : kd = 1
  · subst h1
    go_enter Tryd.func12, Tryd.ntmps12
    go_wp2_with fail
    refine (references_any s _ hs).mono ?_
    rintro e w' ⟨rfl, hb⟩
    go_wp2_with fail
    go_ret
    exact ⟨rfl, hb⟩
  rw [if_neg h1]
  by_cases h4 : kd = 4
  · subst h4
    go_enter Tryd.func12, Tryd.ntmps12
    go_wp2_with fail
    refine (strokes_any s _ hs).mono ?_
    rintro e w' ⟨rfl, hb⟩
    go_wp2_with fail
    go_ret
    exact ⟨rfl, hb⟩
  rw [if_neg h4]
  by_cases h5 : kd = 5
  · subst h5
    go_enter Tryd.func12, Tryd.ntmps12
    go_wp2_with fail
    refine (sheets_any s _ hs).mono ?_
    rintro e w' ⟨rfl, hb⟩
    go_wp2_with fail
    go_ret
    exact ⟨rfl, hb⟩
  rw [if_neg h5]
  have t1 : (kd == 1) = false := beq_eq_false_iff_ne.2 h1
  have t4 : (kd == 4) = false := beq_eq_false_iff_ne.2 h4
  have t5 : (kd == 5) = false := beq_eq_false_iff_ne.2 h5
  clear h1 h4 h5
  go_enter Tryd.func12, Tryd.ntmps12
  go_wp2_with fail
  refine (percents_any s _ hs).mono ?_
  rintro e w' ⟨rfl, hb⟩
  go_wp2_with fail
  go_ret
  exact ⟨rfl, hb⟩

end Go.Proofs.YtfkhljmiehdgmaaDoor
