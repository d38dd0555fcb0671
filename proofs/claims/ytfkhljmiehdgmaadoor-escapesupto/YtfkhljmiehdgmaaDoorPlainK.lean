/-
  Plain: which bytes are written by their numbers. No program is named here.
-/
import Derived.Test.YtfkhljmiehdgmaaDoorPlainJ
namespace Go.Proofs.YtfkhljmiehdgmaaDoor.Pl

def ctl (b : UInt8) : Bool := decide (b.toNat < 32) || decide (b.toNat = 127)
def coded (kd : Int) (b : UInt8) : Bool :=
  bif kd == 3 then !(among b linkKept) else bif kd == 4 then ctl b || among b [34, 39, 38, 47, 60, 62, 92, 96] else bif kd == 5 then odd b else false
theorem coded3 (b : UInt8) : coded 3 b = !(among b linkKept) := rfl
theorem coded4 (b : UInt8) : coded 4 b = (ctl b || among b [34, 39, 38, 47, 60, 62, 92, 96]) := rfl
theorem coded5 (b : UInt8) : coded 5 b = (ctl b || among b [34, 39, 38, 47, 60, 62, 92]) := by
  show odd b = _; unfold odd ctl; rw [Bool.or_assoc]
theorem coded1 (b : UInt8) : coded 1 b = false := rfl
theorem coded3_letter (b : UInt8) (h : isLetter b = true) : coded 3 b = false := by rw [coded3, ← kept_eq, h]; rfl
theorem coded3_digit (b : UInt8) (h : isDigit b = true) : coded 3 b = false := by rw [coded3, ← kept_eq, h]; simp
theorem coded3_kept (b : UInt8) (h : among b [45, 46, 95, 126, 47, 63, 35, 91, 93, 64, 33, 36, 40, 41, 42, 43, 44, 59, 61] = true) : coded 3 b = false := by rw [coded3, ← kept_eq, h]; simp
theorem coded3_yes (b : UInt8) (h1 : isLetter b = false) (h2 : isDigit b = false) (h : among b [45, 46, 95, 126, 47, 63, 35, 91, 93, 64, 33, 36, 40, 41, 42, 43, 44, 59, 61] = false) : coded 3 b = true := by rw [coded3, ← kept_eq, h, h1, h2]; rfl
theorem ctl_lo (b : UInt8) (h : b.toNat < 32) : ctl b = true := by simp [ctl, h]
theorem ctl_del (b : UInt8) (h : b.toNat = 127) : ctl b = true := by simp [ctl, h]
theorem ctl_no (b : UInt8) (h : ¬ b.toNat < 32) (h' : ¬ b.toNat = 127) : ctl b = false := by simp [ctl, h, h']

end Go.Proofs.YtfkhljmiehdgmaaDoor.Pl
