/-
  The walks of the document's answer: the cleaned value.
-/
import Derived.Test.YtfkhljmiehdgmaaDoorWalkC3
import Derived.Test.YtfkhljmiehdgmaaDoorWalkC4
import Derived.Test.YtfkhljmiehdgmaaDoorWalkC5
import Derived.Test.YtfkhljmiehdgmaaDoorPlainF
namespace Go.Proofs.YtfkhljmiehdgmaaDoor
open Go.RowKit

theorem char_any (s : ByteArray) (w : World) :
    Calls Tryd.prog 30 #[.string s] w fun e w' => e = .returned (.int .i64 (Pl.charLen s.data.toList)) ∧ w = w' := by
  by_cases h0 : s.size = 0
  · rw [Pl.charLen_zero s h0]; exact char_none s w h0
  by_cases h1 : s[0].toNat < 128
  · rw [Pl.charLen_one s (by omega) h1]; exact char_one s w (by omega) h1
  by_cases h2 : (128 ≤ s[0].toNat ∧ s[0].toNat ≤ 193) ∨ 245 ≤ s[0].toNat
  · rw [Pl.charLen_odd s (by omega) h2]; exact char_odd s w (by omega) h2
  by_cases h3 : (194 ≤ s[0].toNat ∧ s[0].toNat ≤ 223 ∧ s.size < 2) ∨ (224 ≤ s[0].toNat ∧ s[0].toNat ≤ 239 ∧ s.size < 3) ∨ (240 ≤ s[0].toNat ∧ s[0].toNat ≤ 244 ∧ s.size < 4)
  · rw [Pl.charLen_short s (by omega) h3]; exact char_short s w (by omega) h3
  by_cases h4 : s[0].toNat ≤ 223
  · have e := Pl.charLen_two s (by omega) (by omega) h4
    have := char_two s w (by omega) (by omega) h4
    refine this.mono ?_
    rintro _ _ ⟨rfl, rfl⟩
    refine ⟨ret_int ?_, rfl⟩
    rw [e]; split <;> rfl
  by_cases h5 : s[0].toNat ≤ 239
  · obtain ⟨lo, hi, hlh⟩ : ∃ lo hi : Nat, (s[0].toNat ≤ 224 ∧ lo = 160 ∧ hi = 191) ∨ (225 ≤ s[0].toNat ∧ s[0].toNat ≤ 236 ∧ lo = 128 ∧ hi = 191) ∨ (237 ≤ s[0].toNat ∧ s[0].toNat ≤ 237 ∧ lo = 128 ∧ hi = 159) ∨ (238 ≤ s[0].toNat ∧ lo = 128 ∧ hi = 191) := by
      by_cases a : s[0].toNat ≤ 224
      · exact ⟨160, 191, by omega⟩
      by_cases b : s[0].toNat ≤ 236
      · exact ⟨128, 191, by omega⟩
      by_cases c : s[0].toNat ≤ 237
      · exact ⟨128, 159, by omega⟩
      · exact ⟨128, 191, by omega⟩
    have e := Pl.charLen_three s (by omega) lo hi (by omega) h5 hlh
    have := char_three s w (by omega) lo hi (by omega) h5 hlh
    refine this.mono ?_
    rintro _ _ ⟨rfl, rfl⟩
    refine ⟨ret_int ?_, rfl⟩
    rw [e]; split <;> rfl
  · obtain ⟨lo, hi, hlh⟩ : ∃ lo hi : Nat, (s[0].toNat ≤ 240 ∧ lo = 144 ∧ hi = 191) ∨ (241 ≤ s[0].toNat ∧ s[0].toNat ≤ 243 ∧ lo = 128 ∧ hi = 191) ∨ (244 ≤ s[0].toNat ∧ lo = 128 ∧ hi = 143) := by
      by_cases a : s[0].toNat ≤ 240
      · exact ⟨144, 191, by omega⟩
      by_cases b : s[0].toNat ≤ 243
      · exact ⟨128, 191, by omega⟩
      · exact ⟨128, 143, by omega⟩
    have e := Pl.charLen_four s (by omega) lo hi (by omega) (by omega) hlh
    have := char_four s w (by omega) lo hi (by omega) (by omega) hlh
    refine this.mono ?_
    rintro _ _ ⟨rfl, rfl⟩
    refine ⟨ret_int ?_, rfl⟩
    rw [e]; split <;> rfl

end Go.Proofs.YtfkhljmiehdgmaaDoor
