/-
  The walks of the statement Escapes.
-/
import Derived.Test.YtfkhljmiehdgmaaDoorWalkQ
import Derived.Test.YtfkhljmiehdgmaaDoorWalkJ
import Derived.BigQuiet
import Derived.Deep.QuietTactic
namespace Go.Proofs.YtfkhljmiehdgmaaDoor
open Go.RowKit

set_option maxRecDepth 100000 in
set_option maxHeartbeats 3200000 in
theorem escaped_any (kd : Int) (s : ByteArray) (w : World) (ht : Tabs w) (hs : s.size ≤ 10000000) :
    Calls Tryd.prog 7 #[.int .i64 kd, .string s] w fun e w' => e = .returned (.bool true) ∧ Below w.heap.size w w' := by
  have hB := ht.lt
  have HC := Clean_any s
  have HR := refClean_any s
  have HE := Escape_any kd s
  have HF := refEscape_any kd s
  generalize Pl.clean s.data.toList = c at HC HR
  generalize Pl.escape kd s.data.toList = x at HE HF
  generalize Pl.escErr kd = r at HE HF
  have HC : Hid (∀ (w : World), s.size ≤ 100000000 → Calls Tryd.prog 10 #[.string s] w fun e w' => e = .returned (.string ⟨c.toArray⟩) ∧ Below w.heap.size w w') := HC
  have HR : Hid (∀ (w : World), s.size ≤ 100000000 → Calls Tryd.prog 17 #[.string s] w fun e w' => e = .returned (.string ⟨c.toArray⟩) ∧ w = w') := HR
  have HE : Hid (∀ (w : World), Tabs w → s.size ≤ 10000000 → Calls Tryd.prog 9 #[.int .i64 kd, .string s] w fun e w' => e = .returned (.tuple #[.string ⟨x.toArray⟩, .int .i64 r]) ∧ Below w.heap.size w w') := HE
  have HF : Hid (∀ (w : World), s.size ≤ 10000000 → Calls Tryd.prog 18 #[.int .i64 kd, .string s] w fun e w' => e = .returned (.tuple #[.string ⟨x.toArray⟩, .int .i64 r]) ∧ Below w.heap.size w w') := HF
  go_enter Tryd.func7, Tryd.ntmps7
  go_wp2_with fail
  refine (HC.out _ (by omega)).mono ?_
  rintro e w1 ⟨rfl, hb1⟩
  have hz1 := hb1.size
  have ht1 := ht.kept hb1 hB
  go_wp2_with fail
  refine (HE.out _ ht1 hs).mono ?_
  rintro e w2 ⟨rfl, hb2⟩
  have hbw2 := hb1.trans (hb2.mono hz1)
  have hz2 := hbw2.size
  clear hb1 hb2 ht1
  go_wp2_with fail
  refine (HR.out _ (by omega)).mono ?_
  rintro e w' ⟨rfl, rfl⟩
  go_wp2_with fail
  refine (HF.out _ hs).mono ?_
  rintro e w3 ⟨rfl, hb3⟩
  have hbw3 := hbw2.trans (hb3.mono hz2)
  go_wp2_with (go_at_call 19; refine (num_any _ _).mono ?_; rintro e w' ⟨rfl, rfl⟩)
  go_ret
  exact ⟨rfl, hbw3⟩

set_option maxRecDepth 100000 in
set_option maxHeartbeats 3200000 in
theorem Escapes_any (kd : Int) (s : ByteArray) (w : World) (ht : Tabs w) (hs : s.size ≤ 10000000) :
    Calls Tryd.prog 3 #[.int .i64 kd, .string s] w fun e w' => e = .returned (.bool true) ∧ Below w.heap.size w w' := by
  have hB := ht.lt
  go_enter Tryd.func3, Tryd.ntmps3
  go_wp2_with fail
  refine (escaped_any 1 _ _ ht (by decide)).mono ?_
  rintro e w1 ⟨rfl, hb1⟩
  have hz1 := hb1.size
  have ht1 := ht.kept hb1 hB
  go_wp2_with fail
  refine (escaped_any 2 _ _ ht1 (by decide)).mono ?_
  rintro e w2 ⟨rfl, hb2⟩
  have hbw2 := hb1.trans (hb2.mono hz1)
  have hz2 := hbw2.size
  have ht2 := ht.kept hbw2 hB
  go_wp2_with fail
  refine (escaped_any kd s _ ht2 hs).mono ?_
  rintro e w3 ⟨rfl, hb3⟩
  have hbw3 := hbw2.trans (hb3.mono hz2)
  go_wp2_with fail
  go_ret
  exact ⟨rfl, hbw3⟩

end Go.Proofs.YtfkhljmiehdgmaaDoor
