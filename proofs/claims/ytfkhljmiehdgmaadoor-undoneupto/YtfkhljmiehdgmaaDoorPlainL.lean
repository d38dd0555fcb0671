/-
  Plain: how a byte is written by its number. No program is named here.
-/
import Derived.Test.YtfkhljmiehdgmaaDoorPlainK
import Derived.Lib.UnsafeStr
namespace Go.Proofs.YtfkhljmiehdgmaaDoor.Pl

def codeOf (kd : Int) (b : UInt8) : List UInt8 :=
  bif kd == 3 then [37] ++ two b upHex else bif kd == 4 then [92, 120] ++ two b loHex else bif kd == 5 then 92 :: (trim0 (two b loHex) ++ [32]) else []
theorem code3 (b : UInt8) : codeOf 3 b = [37] ++ two b upHex := rfl
theorem code4 (b : UInt8) : codeOf 4 b = [92, 120] ++ two b loHex := rfl
theorem code5 (b : UInt8) : codeOf 5 b = 92 :: (trim0 (two b loHex) ++ [32]) := rfl
theorem two_up (b : UInt8) (h1 : b.toNat / 16 < 16) (h2 : b.toNat % 16 < 16) : two b upHex = [(ByteArray.mk #[48, 49, 50, 51, 52, 53, 54, 55, 56, 57, 65, 66, 67, 68, 69, 70])[b.toNat / 16]'h1, (ByteArray.mk #[48, 49, 50, 51, 52, 53, 54, 55, 56, 57, 65, 66, 67, 68, 69, 70])[b.toNat % 16]'h2] :=
  two_eq b ⟨#[48, 49, 50, 51, 52, 53, 54, 55, 56, 57, 65, 66, 67, 68, 69, 70]⟩ h1 h2
theorem two_lo (b : UInt8) (h1 : b.toNat / 16 < 16) (h2 : b.toNat % 16 < 16) : two b loHex = [(ByteArray.mk #[48, 49, 50, 51, 52, 53, 54, 55, 56, 57, 97, 98, 99, 100, 101, 102])[b.toNat / 16]'h1, (ByteArray.mk #[48, 49, 50, 51, 52, 53, 54, 55, 56, 57, 97, 98, 99, 100, 101, 102])[b.toNat % 16]'h2] :=
  two_eq b ⟨#[48, 49, 50, 51, 52, 53, 54, 55, 56, 57, 97, 98, 99, 100, 101, 102]⟩ h1 h2
theorem trim_ge (b : UInt8) (h : 16 ≤ b.toNat) : trim0 (two b loHex) = two b loHex := by
  have hh : (!(decide (16 ≤ b.toNat)) || (trim0 (two b loHex) == two b loHex)) = true := all_u8 (fun b => !(decide (16 ≤ b.toNat)) || (trim0 (two b loHex) == two b loHex)) (by decide +kernel) b
  simpa [h] using hh
theorem trim_lt (b : UInt8) (h : b.toNat < 16) : trim0 (two b loHex) = [(two b loHex).getD 1 0] := by
  have hh : (!(decide (b.toNat < 16)) || (trim0 (two b loHex) == [(two b loHex).getD 1 0])) = true := all_u8 (fun b => !(decide (b.toNat < 16)) || (trim0 (two b loHex) == [(two b loHex).getD 1 0])) (by decide +kernel) b
  simpa [h] using hh
theorem codeOf_len (kd : Int) (b : UInt8) : (codeOf kd b).length ≤ 6 := by
  have : (trim0 (two b loHex)).length ≤ 2 := by
    unfold trim0
    apply cond_len <;> simp [two]
  have h3 : (92 :: (trim0 (two b loHex) ++ [32])).length ≤ 6 := by
    rw [List.length_cons, List.length_append, List.length_singleton]; omega
  unfold codeOf
  repeat' apply cond_len
  · simp [two]
  · simp [two]
  · exact h3
  · simp

end Go.Proofs.YtfkhljmiehdgmaaDoor.Pl
