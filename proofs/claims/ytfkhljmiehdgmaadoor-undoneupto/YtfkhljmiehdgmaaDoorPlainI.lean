/-
  Plain laws: kinds of bytes as lists. No program is named here.
-/
import Derived.Test.YtfkhljmiehdgmaaDoorPlainH
import Derived.Lib.Bytealg
namespace Go.Proofs.YtfkhljmiehdgmaaDoor.Pl

theorem all_u8 (p : UInt8 → Bool) (h : (List.range 256).all (fun n => p (UInt8.ofNat n)) = true) (b : UInt8) : p b = true := by
  have := List.all_eq_true.1 h b.toNat (List.mem_range.2 (UInt8.toNat_lt b))
  simpa using this
theorem letter_eq (b : UInt8) : isLetter b = among b letters := by
  have := all_u8 (fun b => isLetter b == among b letters) (by decide +kernel) b
  simpa using this
theorem digit_eq (b : UInt8) : (isDigit b || among b [43, 45, 46]) = among b digitsPlus := by
  have := all_u8 (fun b => (isDigit b || among b [43, 45, 46]) == among b digitsPlus) (by decide +kernel) b
  simpa using this
theorem kept_eq (b : UInt8) : (isLetter b || (isDigit b || among b [45, 46, 95, 126, 47, 63, 35, 91, 93, 64, 33, 36, 40, 41, 42, 43, 44, 59, 61])) = among b linkKept := by
  have := all_u8 (fun b => (isLetter b || (isDigit b || among b [45, 46, 95, 126, 47, 63, 35, 91, 93, 64, 33, 36, 40, 41, 42, 43, 44, 59, 61])) == among b linkKept) (by decide +kernel) b
  simpa using this
theorem indexByte_iff : ∀ (l : List UInt8) (b : UInt8), (0 ≤ Lib.indexByte l b ∧ among b l = true) ∨ (Lib.indexByte l b = -1 ∧ among b l = false)
  | [], _ => .inr ⟨rfl, rfl⟩
  | c :: l, b => by
    have ih := indexByte_iff l b
    unfold Lib.indexByte
    by_cases h : (c == b) = true
    · left; rw [if_pos h]; exact ⟨by omega, by simp [among, h]⟩
    · have hf : (c == b) = false := by simpa using h
      rw [if_neg h]
      rcases ih with ⟨a, e⟩ | ⟨a, e⟩
      · left
        have : (Lib.indexByte l b == -1) = false := by simp; omega
        rw [if_neg (by rw [this]; simp)]
        exact ⟨by omega, by simp only [among, List.any_cons, hf, Bool.false_or] at e ⊢; exact e⟩
      · right
        rw [if_pos (by rw [a]; rfl)]
        exact ⟨rfl, by simp only [among, List.any_cons, hf, Bool.false_or] at e ⊢; exact e⟩
theorem toUInt8_back (b : UInt8) : ((b.toNat : Int).toNat.toUInt8) = b := by simp

/-- where the colon of a scheme is, or -1 -/
def schemeEnd (l : List UInt8) : Int := if schemed l = 0 then -1 else (schemed l : Int) - 1
theorem schemeEnd_none (l : List UInt8) (h : schemed l = 0) : schemeEnd l = -1 := by simp [schemeEnd, h]
theorem schemeEnd_some (l : List UInt8) (k : Nat) (h : schemed l = k + 1) : schemeEnd l = k := by simp [schemeEnd, h]

end Go.Proofs.YtfkhljmiehdgmaaDoor.Pl
