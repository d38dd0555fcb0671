/-
  The walks of the small functions under Undone.
-/
import Derived.Test.YtfkhljmiehdgmaaDoorWalkA
import Derived.Test.YtfkhljmiehdgmaaDoorAid
import Derived.Test.YtfkhljmiehdgmaaDoorPlainR
namespace Go.Proofs.YtfkhljmiehdgmaaDoor
open Go.RowKit

theorem tm5 (x : Int) (h : x ≤ 0) : 0 ≤ -(x.tmod 5) ∧ -(x.tmod 5) < 5 := by
  obtain ⟨m, rfl⟩ : ∃ m : Nat, x = -(m : Int) := ⟨x.natAbs, by omega⟩
  rw [Int.neg_tmod, Int.tmod_eq_emod_of_nonneg (by omega)]
  omega

set_option maxRecDepth 100000 in
set_option maxHeartbeats 800000 in
theorem pick_five (c : Int) (w : World) (h0 : -9223372036854775808 ≤ c) (h1 : c ≤ 9223372036854775807) :
    Calls Tryd.prog 8 #[.int .i64 c, .int .i64 5] w fun e w' => ∃ r : Int, 0 ≤ r ∧ r < 5 ∧ e = .returned (.int .i64 r) ∧ w = w' := by
  by_cases hc : c < 0
  · go_enter Tryd.func8, Tryd.ntmps8
    go_wp2
    go_ret
    exact ⟨_, (tm5 (c + 1) (by omega)).1, (tm5 (c + 1) (by omega)).2, rfl, rfl⟩
  · go_enter Tryd.func8, Tryd.ntmps8
    go_wp2
    go_ret
    refine ⟨_, ?_, ?_, rfl, rfl⟩
    · omega
    · omega

set_option maxRecDepth 100000 in
set_option maxHeartbeats 800000 in
theorem keepDigit_any (b : UInt8) (w : World) :
    Calls Tryd.prog 43 #[.int .u8 b.toNat] w fun e w' => e = .returned (.int .i64 (Pl.hexDig b)) ∧ w = w' := by
  have hb : b.toNat < 256 := UInt8.toNat_lt b
  rcases (show b.toNat < 48 ∨ (48 ≤ b.toNat ∧ b.toNat ≤ 57) ∨ (57 < b.toNat ∧ b.toNat < 65) ∨ (65 ≤ b.toNat ∧ b.toNat ≤ 70) ∨ (70 < b.toNat ∧ b.toNat < 97) ∨ (97 ≤ b.toNat ∧ b.toNat ≤ 102) ∨ 102 < b.toNat by omega) with h | ⟨h, h'⟩ | ⟨h, h'⟩ | ⟨h, h'⟩ | ⟨h, h'⟩ | ⟨h, h'⟩ | h
  all_goals
    have HV : Hid (Pl.hexDig b = if 48 ≤ b.toNat ∧ b.toNat ≤ 57 then (b.toNat : Int) - 48 else if 97 ≤ b.toNat ∧ b.toNat ≤ 102 then (b.toNat : Int) - 97 + 10 else if 65 ≤ b.toNat ∧ b.toNat ≤ 70 then (b.toNat : Int) - 65 + 10 else -1) := rfl
    go_enter Tryd.func43, Tryd.ntmps43
    go_wp2
    go_ret
    refine ⟨ret_int ?_, rfl⟩
    rw [HV.out]
    repeat (first | rw [if_pos (by omega)] | rw [if_neg (by omega)])

set_option maxRecDepth 100000 in
set_option maxHeartbeats 1600000 in
theorem hex_any (s : ByteArray) (w : World) (hs : s.size ≤ 2) :
    Calls Tryd.prog 42 #[.string s] w fun e w' => e = .returned (.int .i64 (Pl.hexVal s.data.toList 0)) ∧ w = w' := by
  go_enter Tryd.func42, Tryd.ntmps42
  go_wp2
  go_loop [3, 4] (fun n i => ∃ (k : Nat) (m : Int), k ≤ s.size ∧ i = .int .i64 k ∧ n = .int .i64 m ∧ Pl.hexVal s.data.toList 0 = Pl.hexVal (s.data.toList.drop k) m ∧ 0 ≤ m ∧ m ≤ 1000 ^ k) (fun _ i => s.size - (intOf i).toNat)
  case atStart => exact ⟨0, 0, Nat.zero_le _, rfl, rfl, rfl, by omega, by simp⟩
  case round =>
    obtain ⟨k, m, hk, rfl, rfl, hv, hm0, hm1⟩ := hrel
    have HV : Hid (Pl.hexVal s.data.toList 0 = Pl.hexVal (s.data.toList.drop k) m) := hv
    clear hv
    by_cases hlt : k < s.size
    · have hd := Pl.hexDig_le s[k]
      have hm2 : m ≤ 1000000 := by
        rcases (show k = 0 ∨ k = 1 ∨ k = 2 by omega) with rfl | rfl | rfl <;> simp at hm1 <;> omega
      have HM : Hid (m ≤ 1000 ^ k) := hm1
      clear hm1
      by_cases hneg : Pl.hexDig s[k] < 0
      · have HR : Hid (Pl.hexVal (s.data.toList.drop k) m = -1) := by
          show _ = _; rw [Pl.drop_at s k hlt, Pl.hexVal, if_pos hneg]
        go_wp2_with (go_at_call 43; refine (keepDigit_any s[k] _).mono ?_; rintro e w' ⟨rfl, rfl⟩)
        go_ret
        exact ⟨ret_int (by rw [HV.out, HR.out]), rfl⟩
      · have HR : Hid (Pl.hexVal (s.data.toList.drop k) m = Pl.hexVal (s.data.toList.drop (k + 1)) (16 * m + Pl.hexDig s[k])) := by
          show _ = _; rw [Pl.drop_at s k hlt, Pl.hexVal, if_neg hneg]
        go_wp2_with (go_at_call 43; refine (keepDigit_any s[k] _).mono ?_; rintro e w' ⟨rfl, rfl⟩)
        go_round
        case rel =>
          refine ⟨k + 1, _, by omega, by go_num, rfl, by rw [HV.out, HR.out], by omega, ?_⟩
          have h1 := HM.out
          have h2 : (1 : Int) ≤ 1000 ^ k := by
            rcases (show k = 0 ∨ k = 1 by omega) with rfl | rfl <;> decide
          rw [Int.pow_succ]
          omega
        case measure => simp [intOf]; omega
    · have HR : Hid (Pl.hexVal (s.data.toList.drop k) m = m) := by
        show _ = _; rw [Pl.drop_end s k hlt]; rfl
      go_wp2
      go_ret
      exact ⟨ret_int (by rw [HV.out, HR.out]), rfl⟩

end Go.Proofs.YtfkhljmiehdgmaaDoor
