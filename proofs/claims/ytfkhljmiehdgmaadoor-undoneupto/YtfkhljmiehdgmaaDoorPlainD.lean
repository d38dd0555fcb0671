/-
  Plain laws on the scheme of a link. No program is named here.
-/
import Derived.Test.YtfkhljmiehdgmaaDoorPlainB
namespace Go.Proofs.YtfkhljmiehdgmaaDoor.Pl

theorem drop_at (s : ByteArray) (k : Nat) (h : k < s.size) : s.data.toList.drop k = s[k] :: s.data.toList.drop (k + 1) := by
  rw [List.drop_eq_getElem_cons (by simpa using h)]; rfl
theorem drop_end (s : ByteArray) (k : Nat) (h : ¬ k < s.size) : s.data.toList.drop k = [] := by
  have : s.data.size = s.size := rfl
  simp; omega
theorem get_at (s : ByteArray) (k : Nat) (h : k < s.size) : s.data.toList[k]? = some s[k] := by
  rw [List.getElem?_eq_getElem (by simpa using h)]; rfl
theorem get_end (s : ByteArray) (k : Nat) (h : ¬ k < s.size) : s.data.toList[k]? = none := by
  have : s.data.size = s.size := rfl
  rw [List.getElem?_eq_none (by simp; omega)]
theorem run_letter (s : ByteArray) (k : Nat) (h : k < s.size) (p : Bool) (hc : among s[k] letters = true) : run (s.data.toList.drop k) p = run (s.data.toList.drop (k + 1)) true + 1 := by
  rw [drop_at s k h]; simp [run, hc]
theorem run_digit (s : ByteArray) (k : Nat) (h : k < s.size) (hc : among s[k] digitsPlus = true) : run (s.data.toList.drop k) true = run (s.data.toList.drop (k + 1)) true + 1 := by
  rw [drop_at s k h]; simp [run, hc]
theorem run_stop0 (s : ByteArray) (k : Nat) (h : k < s.size) (hc : among s[k] letters = false) : run (s.data.toList.drop k) false = 0 := by
  rw [drop_at s k h]; simp [run, hc]
theorem run_stop (s : ByteArray) (k : Nat) (h : k < s.size) (p : Bool) (hc : among s[k] letters = false) (hd : among s[k] digitsPlus = false) : run (s.data.toList.drop k) p = 0 := by
  rw [drop_at s k h]; simp [run, hc, hd]
theorem run_over (s : ByteArray) (k : Nat) (h : ¬ k < s.size) (p : Bool) : run (s.data.toList.drop k) p = 0 := by
  rw [drop_end s k h]; rfl
theorem schemed_zero (l : List UInt8) (h : run l false = 0) : schemed l = 0 := by simp [schemed, h]
theorem schemed_over (s : ByteArray) (k : Nat) (h : run s.data.toList false = k) (hk : ¬ k < s.size) : schemed s.data.toList = 0 := by
  simp [schemed, h, get_end s k hk]
theorem schemed_yes (s : ByteArray) (k : Nat) (h : run s.data.toList false = k) (h0 : 0 < k) (hk : k < s.size) (hc : s[k].toNat = 58) : schemed s.data.toList = k + 1 := by
  have e : s[k] = 58 := UInt8.toNat_inj.1 (by simpa using hc)
  simp [schemed, h, get_at s k hk, e]; omega
theorem schemed_no (s : ByteArray) (k : Nat) (h : run s.data.toList false = k) (hk : k < s.size) (hc : ¬ s[k].toNat = 58) : schemed s.data.toList = 0 := by
  have e : ¬ s[k] = 58 := fun e => hc (by rw [e]; rfl)
  simp [schemed, h, get_at s k hk, e]

end Go.Proofs.YtfkhljmiehdgmaaDoor.Pl
