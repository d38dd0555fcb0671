/-
  The walks where no character begins a text, of the document's answer.
-/
import Derived.Test.YtfkhljmiehdgmaaDoorWalkC
namespace Go.Proofs.YtfkhljmiehdgmaaDoor
open Go.RowKit

set_option maxRecDepth 100000 in
set_option maxHeartbeats 16000000 in
theorem char_odd (s : ByteArray) (w : World) (hs : 0 < s.size) (h0 : (128 ≤ s[0].toNat ∧ s[0].toNat ≤ 193) ∨ 245 ≤ s[0].toNat) :
    Calls Tryd.prog 30 #[.string s] w fun e w' => e = .returned (.int .i64 0) ∧ w = w' := by
  have h : ((s.size : Int) == 0) = false := beq_eq_false_iff_ne.2 (by omega)
  have hb := UInt8.toNat_lt s[0]
  rcases h0 with ⟨h1, h2⟩ | h1
  all_goals
    go_enter Tryd.func30, Tryd.ntmps30
    go_wp2
    go_ret
    exact ⟨rfl, rfl⟩

set_option maxRecDepth 100000 in
set_option maxHeartbeats 16000000 in
theorem char_short (s : ByteArray) (w : World) (hs : 0 < s.size) (h0 : (194 ≤ s[0].toNat ∧ s[0].toNat ≤ 223 ∧ s.size < 2) ∨ (224 ≤ s[0].toNat ∧ s[0].toNat ≤ 239 ∧ s.size < 3) ∨ (240 ≤ s[0].toNat ∧ s[0].toNat ≤ 244 ∧ s.size < 4)) :
    Calls Tryd.prog 30 #[.string s] w fun e w' => e = .returned (.int .i64 0) ∧ w = w' := by
  have h : ((s.size : Int) == 0) = false := beq_eq_false_iff_ne.2 (by omega)
  have t1 : ∀ n : Int, (s[0].toNat : Int) ≠ n → ((s[0].toNat : Int) == n) = false := fun _ h => beq_eq_false_iff_ne.2 h
  have t2 : ∀ n : Int, (s[0].toNat : Int) = n → ((s[0].toNat : Int) == n) = true := fun _ h => beq_iff_eq.2 h
  rcases h0 with ⟨h1, h2, h3⟩ | ⟨h1, h2, h3⟩ | ⟨h1, h2, h3⟩
  · clear t1 t2
    go_enter Tryd.func30, Tryd.ntmps30
    go_wp2
    go_ret
    exact ⟨rfl, rfl⟩
  · rcases (show s[0].toNat = 224 ∨ s[0].toNat = 237 ∨ (s[0].toNat ≠ 224 ∧ s[0].toNat ≠ 237) by omega) with c | c | c
    all_goals
      first
        | (have e1 := t2 224 (by omega); have e2 := t1 237 (by omega))
        | (have e1 := t1 224 (by omega); have e2 := t2 237 (by omega))
        | (have e1 := t1 224 (by omega); have e2 := t1 237 (by omega))
      clear t1 t2 c
      go_enter Tryd.func30, Tryd.ntmps30
      go_wp2
      go_ret
      exact ⟨rfl, rfl⟩
  · rcases (show s[0].toNat = 240 ∨ s[0].toNat = 244 ∨ (s[0].toNat ≠ 240 ∧ s[0].toNat ≠ 244) by omega) with c | c | c
    all_goals
      first
        | (have e1 := t2 240 (by omega); have e2 := t1 244 (by omega))
        | (have e1 := t1 240 (by omega); have e2 := t2 244 (by omega))
        | (have e1 := t1 240 (by omega); have e2 := t1 244 (by omega))
      clear t1 t2 c
      go_enter Tryd.func30, Tryd.ntmps30
      go_wp2
      go_ret
      exact ⟨rfl, rfl⟩

end Go.Proofs.YtfkhljmiehdgmaaDoor
