/-
  Plain laws: the cleaned value, rune by rune. No program is named here.
-/
import Derived.Test.YtfkhljmiehdgmaaDoorPlainF
import Derived.Lib.TrimAscii
import Derived.Lib.RuneCount
import Derived.Lib.RuneBytes
namespace Go.Proofs.YtfkhljmiehdgmaaDoor.Pl
open Go.Lib (decodeL decodeN encodeRune)

theorem decode_drop (s : ByteArray) (pos : Nat) : Utf8.decode s pos = decodeL (s.data.toList.drop pos) := by
  rw [Lib.decode_N s pos, decodeL_N]
  simp [List.getD_eq_getElem?_getD, List.getElem?_drop]
theorem enc_bad : encodeRune 65533 = [239, 191, 189] := by decide
theorem clean_dec (l : List UInt8) (hne : l ≠ []) : clean l = encodeRune (if ((decodeL l).1 : Int) = 0 then 65533 else ((decodeL l).1 : Int)) ++ clean (l.drop (decodeL l).2) := by
  by_cases hb : (decodeL l).1 = 65533 ∧ (decodeL l).2 = 1
  · have hc : charLen l = 0 := by unfold charLen bad; rw [if_neg hne]; simp [hb.1, hb.2]
    rw [clean_bad l hne (.inl hc), if_neg (by omega), hb.1, hb.2]
    rfl
  have hc : charLen l = (decodeL l).2 := by
    unfold charLen bad; rw [if_neg hne, if_neg]
    simpa using hb
  have hw := Lib.decodeL_width l
  have he := Lib.encode_decode l hne hb
  match l, hne with
  | b :: r, _ =>
    by_cases h0 : b = 0
    · have hd : decodeL (b :: r) = (b.toNat, 1) := Lib.decodeL_ascii b r (by rw [h0]; decide)
      rw [clean_bad (b :: r) (by simp) (.inr (by rw [h0]; rfl)), hd]
      simp [h0]; rfl
    · have hr : (decodeL (b :: r)).1 ≠ 0 := by
        intro q
        rw [q] at he
        have hlen := congrArg List.length he
        have hlen2 : min (decodeL (b :: r)).2 (r.length + 1) = 1 := by
          rw [List.length_take] at hlen
          exact hlen.symm
        have hle := Lib.decodeL_le (b :: r) (by simp)
        simp only [List.length_cons] at hle
        have h1 : (decodeL (b :: r)).2 = 1 := by omega
        rw [h1] at he
        have : encodeRune ((0 : Nat) : Int) = [0] := by decide
        rw [this] at he
        simp at he
        exact h0 he.symm
      rw [clean_char (b :: r) (by simp) (by rw [hc]; rintro (q | q); omega; simp at q; exact h0 q), hc, if_neg (by omega), he]
theorem clean_step (s : ByteArray) (pos : Nat) (h : pos < s.size) : clean (s.data.toList.drop pos) = encodeRune (if ((Utf8.decode s pos).1 : Int) = 0 then 65533 else ((Utf8.decode s pos).1 : Int)) ++ clean (s.data.toList.drop (pos + (Utf8.decode s pos).2)) := by
  rw [decode_drop, clean_dec _ (by rw [drop_at s pos h]; simp), List.drop_drop]

end Go.Proofs.YtfkhljmiehdgmaaDoor.Pl
