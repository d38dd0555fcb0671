/-
  The walk of the document's answer: the cleaned value.
-/
import Derived.Test.YtfkhljmiehdgmaaDoorWalkF
import Derived.Test.YtfkhljmiehdgmaaDoorWalkB
namespace Go.Proofs.YtfkhljmiehdgmaaDoor
open Go.RowKit

def strSize : Value → Nat
  | .string s => s.size
  | _ => 0

set_option maxRecDepth 100000 in
set_option maxHeartbeats 3200000 in
theorem refClean_any (s : ByteArray) (w : World) (hs : s.size ≤ 100000000) :
    Calls Tryd.prog 17 #[.string s] w fun e w' => e = .returned (.string ⟨(Pl.clean s.data.toList).toArray⟩) ∧ w = w' := by
  go_enter Tryd.func17, Tryd.ntmps17
  go_wp2
  go_loop [0, 3] (fun v o => ∃ (t : ByteArray) (x : List UInt8), v = .string t ∧ o = .string ⟨x.toArray⟩ ∧ x ++ Pl.clean t.data.toList = Pl.clean s.data.toList ∧ x.length + 3 * t.size ≤ 3 * s.size) (fun v _ => strSize v)
  case atStart => exact ⟨s, [], rfl, rfl, rfl, by simp⟩
  case round =>
    obtain ⟨t, x, rfl, rfl, hx, hxl⟩ := hrel
    have HX : Hid (x ++ Pl.clean t.data.toList = Pl.clean s.data.toList) := hx
    clear hx
    by_cases hp : 0 < t.size
    · by_cases h0 : Pl.charLen t.data.toList = 0 ∨ t[0].toNat = 0
      · have HB : Hid (x ++ ([239, 191, 189] ++ Pl.clean (t.extract 1 t.size).data.toList) = Pl.clean s.data.toList) := by
          show _ = _; rw [← Pl.clean_bad_at t hp h0]; exact HX.out
        by_cases h1 : Pl.charLen t.data.toList = 0
        · have h2 : ((Pl.charLen t.data.toList : Int) == 0) = true := beq_iff_eq.2 (by omega)
          clear h0 h1
          go_wp2_with (go_at_call 30; refine (char_any t _).mono ?_; rintro e w' ⟨rfl, rfl⟩)
          go_round
          case rel => exact ⟨_, _, rfl, congrArg Value.string (Pl.cat_eq x _), by rw [List.append_assoc]; exact HB.out, by simp; omega⟩
          case measure => simp [strSize]; omega
        · have h2 : ((Pl.charLen t.data.toList : Int) == 0) = false := beq_eq_false_iff_ne.2 (by omega)
          have h3 : ((t[0].toNat : Int) == 0) = true := beq_iff_eq.2 (by omega)
          clear h0 h1
          go_wp2_with (go_at_call 30; refine (char_any t _).mono ?_; rintro e w' ⟨rfl, rfl⟩)
          go_round
          case rel => exact ⟨_, _, rfl, congrArg Value.string (Pl.cat_eq x _), by rw [List.append_assoc]; exact HB.out, by simp; omega⟩
          case measure => simp [strSize]; omega
      · have h1 : Pl.charLen t.data.toList ≠ 0 := fun h => h0 (.inl h)
        have h1' : t[0].toNat ≠ 0 := fun h => h0 (.inr h)
        have h2 : ((Pl.charLen t.data.toList : Int) == 0) = false := beq_eq_false_iff_ne.2 (by omega)
        have h3 : ((t[0].toNat : Int) == 0) = false := beq_eq_false_iff_ne.2 (by omega)
        have h4 := Pl.charLen_le t.data.toList
        rw [Pl.len_eq] at h4
        have h5 : 0 < Pl.charLen t.data.toList := by omega
        have HB : Hid (x ++ ((t.extract 0 (Pl.charLen t.data.toList)).data.toList ++ Pl.clean (t.extract (Pl.charLen t.data.toList) t.size).data.toList) = Pl.clean s.data.toList) := by
          show _ = _; rw [← Pl.clean_char_at t hp h1 h1']; exact HX.out
        have hq : (t.extract 0 (Pl.charLen t.data.toList)).data.toList.length = Pl.charLen t.data.toList := by rw [Pl.len_eq]; simp; omega
        have HQ : Hid ((t.extract 0 (Pl.charLen t.data.toList)).data.toList.length = Pl.charLen t.data.toList) := hq
        clear hq
        clear h0 h1 h1'
        go_wp2_with (go_at_call 30; refine (char_any t _).mono ?_; rintro e w' ⟨rfl, rfl⟩)
        go_round
        case rel => exact ⟨_, _, rfl, congrArg Value.string (Pl.cat_arr x _), by rw [List.append_assoc]; exact HB.out, by rw [List.length_append, HQ.out]; simp; omega⟩
        case measure => simp [strSize]; omega
    · go_wp2
      go_ret
      have e := HX.out
      rw [Pl.clean_nil_at t hp, List.append_nil] at e
      exact ⟨ret_str (by rw [← e]), rfl⟩

end Go.Proofs.YtfkhljmiehdgmaaDoor
