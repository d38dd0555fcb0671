/-
  Plain laws: a scheme, byte by byte. No program is named here.
-/
import Derived.Test.YtfkhljmiehdgmaaDoorPlainS
namespace Go.Proofs.YtfkhljmiehdgmaaDoor.Pl

theorem run_idx : ∀ (l : List UInt8) (p : Bool) (j : Nat), j < run l p → ∃ b, l[j]? = some b ∧ (among b letters = true ∨ ((p = true ∨ 0 < j) ∧ among b digitsPlus = true))
  | [], _, _, h => by simp [run] at h
  | c :: r, p, j, h => by
    simp only [run] at h
    split at h
    · rename_i hc
      match j with
      | 0 =>
        refine ⟨c, rfl, ?_⟩
        simp only [Bool.or_eq_true, Bool.and_eq_true] at hc
        rcases hc with hc | hc
        · exact .inl hc
        · exact .inr ⟨.inl hc.1, hc.2⟩
      | j + 1 =>
        obtain ⟨b, hb, h'⟩ := run_idx r true j (by omega)
        refine ⟨b, hb, ?_⟩
        rcases h' with h' | h'
        · exact .inl h'
        · exact .inr ⟨.inr (by omega), h'.2⟩
    · omega
theorem scheme_run (l : List UInt8) (k : Nat) (h : schemed l = k + 1) : run l false = k ∧ 0 < k := by
  unfold schemed at h
  by_cases h0 : run l false = 0
  · rw [if_pos h0] at h; omega
  rw [if_neg h0] at h
  by_cases h1 : l[run l false]? = some 58
  · rw [if_pos h1] at h; omega
  · rw [if_neg h1] at h; omega
theorem scheme_at (s : ByteArray) (k j : Nat) (h : schemed s.data.toList = k + 1) (hj : j < k) (hjs : j < s.size) : among s[j] letters = true ∨ (0 < j ∧ among s[j] digitsPlus = true) := by
  obtain ⟨hr, _⟩ := scheme_run _ k h
  obtain ⟨b, hb, hh⟩ := run_idx s.data.toList false j (by omega)
  rw [get_at s j hjs] at hb
  cases hb
  rcases hh with hh | ⟨hh, h2⟩
  · exact .inl hh
  · exact .inr ⟨by simpa using hh, h2⟩
theorem letter_num (b : UInt8) (h : among b letters = true) : (65 ≤ b.toNat ∧ b.toNat ≤ 90) ∨ (97 ≤ b.toNat ∧ b.toNat ≤ 122) := by
  rw [← letter_eq] at h
  simp only [isLetter, isUpper, Bool.or_eq_true, Bool.and_eq_true, decide_eq_true_eq] at h
  omega
theorem digit_num (b : UInt8) (h : among b digitsPlus = true) : (48 ≤ b.toNat ∧ b.toNat ≤ 57) ∨ b.toNat = 43 ∨ b.toNat = 45 ∨ b.toNat = 46 := by
  have hh := all_u8 (fun b => !(among b digitsPlus) || decide ((48 ≤ b.toNat ∧ b.toNat ≤ 57) ∨ b.toNat = 43 ∨ b.toNat = 45 ∨ b.toNat = 46)) (by decide +kernel) b
  simpa [h] using hh
theorem lower_snoc (s : ByteArray) (k : Nat) (h : k < s.size) : lower (s.data.toList.take (k + 1)) = lower (s.data.toList.take k) ++ [small s[k]] := by
  rw [take_snoc s k h]; simp [lower]
theorem small_up (b : UInt8) (h : 65 ≤ b.toNat) (h' : b.toNat ≤ 90) : ((small b).toNat : Int) = (b.toNat : Int) + 32 := by
  have hh := all_u8 (fun b => !(decide (65 ≤ b.toNat ∧ b.toNat ≤ 90)) || decide (((small b).toNat : Int) = (b.toNat : Int) + 32)) (by decide +kernel) b
  simpa [h, h'] using hh
theorem small_id (b : UInt8) (h : b.toNat < 65 ∨ 90 < b.toNat) : small b = b := by
  unfold small isUpper
  rw [if_neg]
  simp only [Bool.and_eq_true, decide_eq_true_eq]; omega

end Go.Proofs.YtfkhljmiehdgmaaDoor.Pl
