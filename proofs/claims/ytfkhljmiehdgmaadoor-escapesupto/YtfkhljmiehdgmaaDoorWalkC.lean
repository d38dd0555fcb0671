/-
  The walks on characters of UTF-8, of the document's answer.
-/
import Derived.Test.YtfkhljmiehdgmaaDoorWalkA
namespace Go.Proofs.YtfkhljmiehdgmaaDoor
open Go.RowKit

set_option maxRecDepth 100000 in
set_option maxHeartbeats 1600000 in
theorem char_none (s : ByteArray) (w : World) (hs : s.size = 0) :
    Calls Tryd.prog 30 #[.string s] w fun e w' => e = .returned (.int .i64 0) ∧ w = w' := by
  have h : ((s.size : Int) == 0) = true := by simp [hs]
  clear hs
  go_enter Tryd.func30, Tryd.ntmps30
  go_wp2
  go_ret
  exact ⟨rfl, rfl⟩

set_option maxRecDepth 100000 in
set_option maxHeartbeats 1600000 in
theorem char_one (s : ByteArray) (w : World) (hs : 0 < s.size) (h0 : s[0].toNat < 128) :
    Calls Tryd.prog 30 #[.string s] w fun e w' => e = .returned (.int .i64 1) ∧ w = w' := by
  have h : ((s.size : Int) == 0) = false := beq_eq_false_iff_ne.2 (by omega)
  go_enter Tryd.func30, Tryd.ntmps30
  go_wp2
  go_ret
  exact ⟨rfl, rfl⟩

set_option maxRecDepth 100000 in
set_option maxHeartbeats 3200000 in
theorem char_two (s : ByteArray) (w : World) (hs : 1 < s.size) (h0 : 194 ≤ s[0].toNat) (h1 : s[0].toNat ≤ 223) :
    Calls Tryd.prog 30 #[.string s] w fun e w' => e = .returned (.int .i64 (if 128 ≤ s[1].toNat ∧ s[1].toNat ≤ 191 then 2 else 0)) ∧ w = w' := by
  have h : ((s.size : Int) == 0) = false := beq_eq_false_iff_ne.2 (by omega)
  have hb := UInt8.toNat_lt s[1]
  by_cases h2 : 128 ≤ s[1].toNat <;> by_cases h3 : s[1].toNat ≤ 191
  all_goals
    go_enter Tryd.func30, Tryd.ntmps30
    go_wp2
  · go_loop [7] (fun i => i = .int .i64 2) (fun _ => 0)
    case atStart => exact rfl
    case round =>
      subst hrel
      go_wp2
      go_ret
      exact ⟨rfl, rfl⟩
  all_goals
    go_ret
    exact ⟨rfl, rfl⟩


end Go.Proofs.YtfkhljmiehdgmaaDoor
