/-
  The walks of the small functions on bytes.
-/
import Derived.Test.YtfkhljmiehdgmaaGreatDoorRows
import Derived.Test.YtfkhljmiehdgmaaGreatDoorMhA
import Derived.WalkKit
import Derived.WalkSpells
import Derived.WalkLawsBesides
import Derived.BigQuiet
import Derived.Deep.QuietTactic
namespace Go.Proofs.YtfkhljmiehdgmaaGreatDoor
open Go.RowKit

theorem ret_bool {a b : Bool} (h : a = b) : Ending.returned (.bool a) = .returned (.bool b) := by rw [h]
theorem ret_int {k : IntKind} {a b : Int} (h : a = b) : Ending.returned (.int k a) = .returned (.int k b) := by rw [h]
theorem ret_str {a b : ByteArray} (h : a = b) : Ending.returned (.string a) = .returned (.string b) := by rw [h]

set_option maxHeartbeats 400000 in
theorem num_any (n : Int) (w : World) :
    Calls Tryz.prog 51 #[.int .i64 n] w fun e w' => e = .returned (.int .i64 n) ∧ w = w' := by
  go_enter Tryz.func51, Tryz.ntmps51
  go_wp2
  go_ret
  exact ⟨rfl, rfl⟩

set_option maxHeartbeats 400000 in
theorem among_any (b : UInt8) (s : ByteArray) (w : World) (hs : s.size ≤ 1000000000) :
    Calls Tryz.prog 80 #[.int .u8 b.toNat, .string s] w fun e w' => e = .returned (.bool (Pl.among b s.data.toList)) ∧ w = w' := by
  go_enter Tryz.func80, Tryz.ntmps80
  go_wp2
  go_loop [4, 5] (fun r i => r = .bool false ∧ ∃ k : Nat, k ≤ s.size ∧ i = .int .i64 k ∧ Pl.among b (s.data.toList.take k) = false) (fun _ i => s.size - (intOf i).toNat)
  case atStart => exact ⟨rfl, 0, Nat.zero_le _, rfl, rfl⟩
  case round =>
    obtain ⟨rfl, k, hk, rfl, hn⟩ := hrel
    have HN : Hid (Pl.among b (s.data.toList.take k) = false) := hn
    clear hn
    by_cases hlt : k < s.size
    · go_wp2
      · go_ret
        exact ⟨ret_bool (Pl.among_yes b s k hlt ‹_›).symm, rfl⟩
      · go_round
        case rel => exact ⟨rfl, k + 1, by omega, by go_num, Pl.among_next b s k hlt HN.out ‹_›⟩
        case measure => simp [intOf]; omega
    · go_wp2
      go_ret
      exact ⟨ret_bool (Pl.among_end b s k hlt HN.out).symm, rfl⟩

set_option maxHeartbeats 400000 in
theorem upper_any (b : UInt8) (w : World) :
    Calls Tryz.prog 181 #[.int .u8 b.toNat] w fun e w' => e = .returned (.bool (Pl.isUpper b)) ∧ w = w' := by
  by_cases h1 : 65 ≤ b.toNat <;> by_cases h2 : b.toNat ≤ 90
  all_goals
    have H : Hid (Pl.isUpper b = _) := show Pl.isUpper b = (decide (65 ≤ b.toNat) && decide (b.toNat ≤ 90)) from rfl
    go_enter Tryz.func181, Tryz.ntmps181
    go_wp2
    all_goals
      go_ret
      exact ⟨ret_bool (by rw [H.out]; simp [h1, h2] <;> omega), rfl⟩

set_option maxHeartbeats 400000 in
theorem digit_any (b : UInt8) (w : World) :
    Calls Tryz.prog 102 #[.int .u8 b.toNat] w fun e w' => e = .returned (.bool (Pl.isDigit b)) ∧ w = w' := by
  by_cases h1 : 48 ≤ b.toNat <;> by_cases h2 : b.toNat ≤ 57
  all_goals
    have H : Hid (Pl.isDigit b = _) := show Pl.isDigit b = (decide (48 ≤ b.toNat) && decide (b.toNat ≤ 57)) from rfl
    go_enter Tryz.func102, Tryz.ntmps102
    go_wp2
    all_goals
      go_ret
      exact ⟨ret_bool (by rw [H.out]; simp [h1, h2] <;> omega), rfl⟩

theorem add8 (b : UInt8) (h : b.toNat ≤ 90) : ((b + 32).toNat : Int) = b.toNat + 32 := by
  rw [UInt8.toNat_add]; simp; omega
set_option maxHeartbeats 400000 in
theorem small_any (b : UInt8) (w : World) :
    Calls Tryz.prog 101 #[.int .u8 b.toNat] w fun e w' => e = .returned (.int .u8 (Pl.small b).toNat) ∧ w = w' := by
  by_cases h1 : 65 ≤ b.toNat <;> by_cases h2 : b.toNat ≤ 90
  all_goals
    have H : Hid (Pl.small b = _) := show Pl.small b = (if (decide (65 ≤ b.toNat) && decide (b.toNat ≤ 90)) = true then b + 32 else b) from rfl
    go_enter Tryz.func101, Tryz.ntmps101
    go_wp2
    all_goals
      go_ret
      exact ⟨ret_int (by rw [H.out]; simp only [h1, h2, decide_true, decide_false, Bool.and_true, Bool.and_false, Bool.and_self, if_true, Bool.false_eq_true, if_false] <;> exact (add8 b h2).symm), rfl⟩

set_option maxHeartbeats 400000 in
theorem letter_any (b : UInt8) (w : World) :
    Calls Tryz.prog 132 #[.int .u8 b.toNat] w fun e w' => e = .returned (.bool (Pl.isLetter b)) ∧ w = w' := by
  by_cases h1 : 97 ≤ b.toNat <;> by_cases h2 : b.toNat ≤ 122
  all_goals
    have H : Hid (Pl.isLetter b = _) := show Pl.isLetter b = ((decide (97 ≤ b.toNat) && decide (b.toNat ≤ 122)) || Pl.isUpper b) from rfl
    go_enter Tryz.func132, Tryz.ntmps132
    go_wp2_with (go_at_call 181; refine (upper_any b _).mono ?_; rintro e w' ⟨rfl, rfl⟩)
    all_goals
      go_ret
      exact ⟨ret_bool (by rw [H.out]; simp [h1, h2] <;> omega), rfl⟩

theorem amongC (b : UInt8) : Pl.odd b = (decide (b.toNat < 32) || (decide (b.toNat = 127) || Pl.among b (ByteArray.mk #[34, 39, 38, 47, 60, 62, 92]).data.toList)) := rfl
set_option maxHeartbeats 400000 in
theorem odd_any (b : UInt8) (w : World) :
    Calls Tryz.prog 208 #[.int .u8 b.toNat] w fun e w' => e = .returned (.bool (Pl.odd b)) ∧ w = w' := by
  by_cases h1 : b.toNat < 32 <;> by_cases h2 : b.toNat = 127
  all_goals
    have H : Hid (Pl.odd b = _) := amongC b
    have H1 : Hid (b.toNat = 127 ↔ b.toNat = 127) := Iff.rfl
    go_enter Tryz.func208, Tryz.ntmps208
    go_wp2_with (go_at_call 80; refine (among_any b _ _ (by decide)).mono ?_; rintro e w' ⟨rfl, rfl⟩)
    all_goals
      go_ret
      exact ⟨ret_bool (by rw [H.out]; simp [h1, h2] <;> (intro h; omega)), rfl⟩

end Go.Proofs.YtfkhljmiehdgmaaGreatDoor
