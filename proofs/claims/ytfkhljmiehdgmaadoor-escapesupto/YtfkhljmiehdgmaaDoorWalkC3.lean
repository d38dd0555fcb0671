/-
  The walk on characters of three bytes, of the document's answer.
-/
import Derived.Test.YtfkhljmiehdgmaaDoorWalkC
namespace Go.Proofs.YtfkhljmiehdgmaaDoor
open Go.RowKit

set_option maxRecDepth 100000 in
set_option maxHeartbeats 16000000 in
/-- three bytes: the second one's bounds lo and hi, as they hang on the first -/
theorem char_three (s : ByteArray) (w : World) (hs : 2 < s.size) (lo hi : Nat) (h0 : 224 ≤ s[0].toNat) (h1 : s[0].toNat ≤ 239) (hlh : (s[0].toNat ≤ 224 ∧ lo = 160 ∧ hi = 191) ∨ (225 ≤ s[0].toNat ∧ s[0].toNat ≤ 236 ∧ lo = 128 ∧ hi = 191) ∨ (237 ≤ s[0].toNat ∧ s[0].toNat ≤ 237 ∧ lo = 128 ∧ hi = 159) ∨ (238 ≤ s[0].toNat ∧ lo = 128 ∧ hi = 191)) :
    Calls Tryd.prog 30 #[.string s] w fun e w' => e = .returned (.int .i64 (if lo ≤ s[1].toNat ∧ s[1].toNat ≤ hi ∧ 128 ≤ s[2].toNat ∧ s[2].toNat ≤ 191 then 3 else 0)) ∧ w = w' := by
  have h : ((s.size : Int) == 0) = false := beq_eq_false_iff_ne.2 (by omega)
  have hb := UInt8.toNat_lt s[1]
  have t1 : ∀ n : Int, (s[0].toNat : Int) ≠ n → ((s[0].toNat : Int) == n) = false := fun _ h => beq_eq_false_iff_ne.2 h
  have t2 : ∀ n : Int, (s[0].toNat : Int) = n → ((s[0].toNat : Int) == n) = true := fun _ h => beq_iff_eq.2 h
  by_cases A : lo ≤ s[1].toNat
  · by_cases B : s[1].toNat ≤ hi
    · rcases (show (128 ≤ s[2].toNat ∧ s[2].toNat ≤ 191) ∨ (s[2].toNat < 128 ∨ 191 < s[2].toNat) by omega) with ⟨C, D⟩ | C
      rotate_left
      rcases C with C | C
      all_goals
        rcases hlh with ⟨c, rfl, rfl⟩ | ⟨c, d, rfl, rfl⟩ | ⟨c, d, rfl, rfl⟩ | ⟨c, rfl, rfl⟩
        all_goals
          first
            | (have e1 := t2 224 (by omega); have e2 := t1 237 (by omega))
            | (have e1 := t1 224 (by omega); have e2 := t2 237 (by omega))
            | (have e1 := t1 224 (by omega); have e2 := t1 237 (by omega))
          clear t1 t2
          go_enter Tryd.func30, Tryd.ntmps30
          go_wp2
          go_loop [7] (fun i => ∃ k : Nat, 2 ≤ k ∧ k ≤ 3 ∧ i = .int .i64 k ∧ (3 ≤ k → 128 ≤ s[2].toNat ∧ s[2].toNat ≤ 191)) (fun i => 3 - (intOf i).toNat)
          case atStart => exact ⟨2, by omega, by omega, rfl, by omega⟩
          case round =>
            obtain ⟨k, hk1, hk2, rfl, hk3⟩ := hrel
            rcases (show k = 2 ∨ k = 3 by omega) with rfl | rfl
            · go_wp2
              first
                | (go_ret
                   exact ⟨rfl, rfl⟩)
                | (go_round
                   case rel => exact ⟨3, by omega, by omega, rfl, fun _ => ⟨C, D⟩⟩
                   case measure => simp [intOf])
            · have hk4 := hk3 (by omega)
              first
                | omega
                | (go_wp2
                   go_ret
                   exact ⟨rfl, rfl⟩)
    · rcases hlh with ⟨c, rfl, rfl⟩ | ⟨c, d, rfl, rfl⟩ | ⟨c, d, rfl, rfl⟩ | ⟨c, rfl, rfl⟩
      all_goals
        first
          | (have e1 := t2 224 (by omega); have e2 := t1 237 (by omega))
          | (have e1 := t1 224 (by omega); have e2 := t2 237 (by omega))
          | (have e1 := t1 224 (by omega); have e2 := t1 237 (by omega))
        clear t1 t2
        go_enter Tryd.func30, Tryd.ntmps30
        go_wp2
        go_ret
        exact ⟨rfl, rfl⟩
  · rcases hlh with ⟨c, rfl, rfl⟩ | ⟨c, d, rfl, rfl⟩ | ⟨c, d, rfl, rfl⟩ | ⟨c, rfl, rfl⟩
    all_goals
      first
        | (have e1 := t2 224 (by omega); have e2 := t1 237 (by omega))
        | (have e1 := t1 224 (by omega); have e2 := t2 237 (by omega))
        | (have e1 := t1 224 (by omega); have e2 := t1 237 (by omega))
      clear t1 t2
      go_enter Tryd.func30, Tryd.ntmps30
      go_wp2
      go_ret
      exact ⟨rfl, rfl⟩

end Go.Proofs.YtfkhljmiehdgmaaDoor
