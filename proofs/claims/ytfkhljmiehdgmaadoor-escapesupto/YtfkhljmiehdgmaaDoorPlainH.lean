/-
  Plain: what the document asks of Escape. No program is named here.
-/
import Derived.Test.YtfkhljmiehdgmaaDoorPlainE
import Derived.Test.YtfkhljmiehdgmaaDoorPlainF
namespace Go.Proofs.YtfkhljmiehdgmaaDoor.Pl

def blocked : List UInt8 := [35, 98, 108, 111, 99, 107, 101, 100]
def http : List UInt8 := [104, 116, 116, 112, 58]
def https : List UInt8 := [104, 116, 116, 112, 115, 58]
def mailto : List UInt8 := [109, 97, 105, 108, 116, 111, 58]
def firstOf (l : List UInt8) : List UInt8 :=
  if 0 < schemed l ∧ lower (l.take (schemed l)) ≠ http ∧ lower (l.take (schemed l)) ≠ https ∧ lower (l.take (schemed l)) ≠ mailto then blocked
  else l.take (schemed l) ++ linked (l.drop (schemed l))
def escape (kd : Int) (l : List UInt8) : List UInt8 :=
  if kd = 1 then texted (clean l) else if kd = 3 then linked (clean l) else if kd = 2 then firstOf (clean l) else if kd = 4 then scripted (clean l) else if kd = 5 then styled (clean l) else []
def escErr (kd : Int) : Int := if 1 ≤ kd ∧ kd ≤ 5 then 0 else 1

theorem run_le : ∀ (l : List UInt8) (p : Bool), run l p ≤ l.length
  | [], _ => by simp [run]
  | b :: r, p => by
    have := run_le r true
    simp only [run, List.length_cons]
    split <;> omega
theorem schemed_le (l : List UInt8) : schemed l ≤ l.length := by
  unfold schemed
  split
  · omega
  split
  · rename_i h
    have := (List.getElem?_eq_some_iff.1 h).1
    omega
  · omega
theorem clean_size (l : List UInt8) (n : Nat) (h : l.length ≤ n) : (clean l).length ≤ 3 * n := by
  have := clean_len l; omega
theorem take_arr (l : List UInt8) (n : Nat) : (ByteArray.mk l.toArray).extract 0 n = ⟨(l.take n).toArray⟩ := by
  apply ByteArray.ext
  apply Array.toList_inj.1
  rw [ByteArray.data_extract, Array.toList_extract, List.extract_eq_take_drop]; simp
theorem drop_arr (l : List UInt8) (n : Nat) : (ByteArray.mk l.toArray).extract n l.length = ⟨(l.drop n).toArray⟩ := by
  apply ByteArray.ext
  apply Array.toList_inj.1
  rw [ByteArray.data_extract, Array.toList_extract, List.extract_eq_take_drop]
  show (l.drop n).take _ = _
  apply List.take_of_length_le
  rw [List.length_drop]; omega

end Go.Proofs.YtfkhljmiehdgmaaDoor.Pl
