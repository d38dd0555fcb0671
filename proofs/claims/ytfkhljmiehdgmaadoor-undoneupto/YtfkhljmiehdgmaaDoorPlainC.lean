/-
  Plain functions on texts: characters of UTF-8, and the cleaned value. No program is named here.
-/
import Derived.Test.YtfkhljmiehdgmaaDoorPlainB
import Derived.Lib.MapLaws
import Derived.Lib.TrimUEq
namespace Go.Proofs.YtfkhljmiehdgmaaDoor.Pl
open Go.Lib (decodeL decodeN)

/-- how many bytes a character has that begins a text: by the ranges of its bytes -/
def charN (n b0 b1 b2 b3 : Nat) : Nat :=
  if n = 0 then 0 else if b0 < 128 then 1
  else if 194 ≤ b0 ∧ b0 ≤ 223 then (if 2 ≤ n ∧ 128 ≤ b1 ∧ b1 ≤ 191 then 2 else 0)
  else if 224 ≤ b0 ∧ b0 ≤ 239 then (if 3 ≤ n ∧ ((b0 ≤ 224 → 160 ≤ b1) ∧ 128 ≤ b1) ∧ ((b0 = 237 → b1 ≤ 159) ∧ b1 ≤ 191) ∧ 128 ≤ b2 ∧ b2 ≤ 191 then 3 else 0)
  else if 240 ≤ b0 ∧ b0 ≤ 244 then (if 4 ≤ n ∧ ((b0 ≤ 240 → 144 ≤ b1) ∧ 128 ≤ b1) ∧ ((244 ≤ b0 → b1 ≤ 143) ∧ b1 ≤ 191) ∧ (128 ≤ b2 ∧ b2 ≤ 191) ∧ 128 ≤ b3 ∧ b3 ≤ 191 then 4 else 0)
  else 0

theorem charN_eq (n b0 b1 b2 b3 : Nat) (hn : n ≠ 0) (h0 : b0 < 256) (h1 : b1 < 256) (h2 : b2 < 256) (h3 : b3 < 256) :
    charN n b0 b1 b2 b3 = if (decodeN n b0 b1 b2 b3).1 = 65533 ∧ (decodeN n b0 b1 b2 b3).2 = 1 then 0 else (decodeN n b0 b1 b2 b3).2 := by
  have fin : ∀ (v m r k : Nat), decodeN n b0 b1 b2 b3 = (r, k) → charN n b0 b1 b2 b3 = m → (m = if r = 65533 ∧ k = 1 then 0 else k) → charN n b0 b1 b2 b3 = if (decodeN n b0 b1 b2 b3).1 = 65533 ∧ (decodeN n b0 b1 b2 b3).2 = 1 then 0 else (decodeN n b0 b1 b2 b3).2 := by
    intro v m r k h h' e
    rw [h, h', e]
  have fin := fin 0
  by_cases a : b0 < 128
  · refine fin 1 b0 1 ?_ ?_ ?_
    · unfold decodeN; rw [if_pos a]
    · unfold charN; rw [if_neg hn, if_pos a]
    · rw [if_neg (by omega)]
  by_cases b : b0 / 32 = 6 ∧ (1 < n ∧ b1 / 64 = 2)
  · obtain ⟨b, c, d⟩ := b
    by_cases e : b0 % 32 * 64 + b1 % 64 ≥ 128
    · refine fin 2 (b0 % 32 * 64 + b1 % 64) 2 ?_ ?_ ?_
      · unfold decodeN; rw [if_neg a, if_pos ⟨b, c, d⟩, if_pos e]
      · unfold charN; rw [if_neg hn, if_neg a, if_pos (by omega), if_pos (by omega)]
      · rw [if_neg (by omega)]
    · refine fin 0 65533 1 ?_ ?_ ?_
      · unfold decodeN; rw [if_neg a, if_pos ⟨b, c, d⟩, if_neg e]
      · unfold charN; rw [if_neg hn, if_neg a, if_neg (by omega), if_neg (by omega), if_neg (by omega)]
      · rfl
  by_cases c : b0 / 16 = 14 ∧ (1 < n ∧ b1 / 64 = 2) ∧ (2 < n ∧ b2 / 64 = 2)
  · have c' := c
    obtain ⟨c, ⟨d, d'⟩, e, e'⟩ := c'
    by_cases f : b0 % 16 * 4096 + b1 % 64 * 64 + b2 % 64 ≥ 2048 ∧ (b0 % 16 * 4096 + b1 % 64 * 64 + b2 % 64 < 55296 ∨ (57344 ≤ b0 % 16 * 4096 + b1 % 64 * 64 + b2 % 64 ∧ b0 % 16 * 4096 + b1 % 64 * 64 + b2 % 64 ≤ 1114111))
    · refine fin 3 (b0 % 16 * 4096 + b1 % 64 * 64 + b2 % 64) 3 ?_ ?_ ?_
      · unfold decodeN; rw [if_neg a, if_neg b, if_pos ⟨c, ⟨d, d'⟩, e, e'⟩, if_pos f]
      · unfold charN; rw [if_neg hn, if_neg a, if_neg (by omega), if_pos (by omega), if_pos (by omega)]
      · rw [if_neg (by omega)]
    · refine fin 0 65533 1 ?_ ?_ ?_
      · unfold decodeN; rw [if_neg a, if_neg b, if_pos ⟨c, ⟨d, d'⟩, e, e'⟩, if_neg f]
      · unfold charN; rw [if_neg hn, if_neg a, if_neg (by omega), if_pos (by omega), if_neg (by omega)]
      · rfl
  by_cases d : b0 / 8 = 30 ∧ (1 < n ∧ b1 / 64 = 2) ∧ (2 < n ∧ b2 / 64 = 2) ∧ (3 < n ∧ b3 / 64 = 2)
  · have d' := d
    obtain ⟨d1, ⟨e, e'⟩, ⟨f, f'⟩, g, g'⟩ := d'
    by_cases h : b0 % 8 * 262144 + b1 % 64 * 4096 + b2 % 64 * 64 + b3 % 64 ≥ 65536 ∧ (b0 % 8 * 262144 + b1 % 64 * 4096 + b2 % 64 * 64 + b3 % 64 < 55296 ∨ (57344 ≤ b0 % 8 * 262144 + b1 % 64 * 4096 + b2 % 64 * 64 + b3 % 64 ∧ b0 % 8 * 262144 + b1 % 64 * 4096 + b2 % 64 * 64 + b3 % 64 ≤ 1114111))
    · refine fin 4 (b0 % 8 * 262144 + b1 % 64 * 4096 + b2 % 64 * 64 + b3 % 64) 4 ?_ ?_ ?_
      · unfold decodeN; rw [if_neg a, if_neg b, if_neg c, if_pos d, if_pos h]
      · unfold charN; rw [if_neg hn, if_neg a, if_neg (by omega), if_neg (by omega), if_pos (by omega), if_pos (by omega)]
      · rw [if_neg (by omega)]
    · refine fin 0 65533 1 ?_ ?_ ?_
      · unfold decodeN; rw [if_neg a, if_neg b, if_neg c, if_pos d, if_neg h]
      · unfold charN; rw [if_neg hn, if_neg a, if_neg (by omega), if_neg (by omega)]
        by_cases x : 240 ≤ b0 ∧ b0 ≤ 244
        · rw [if_pos x, if_neg (by omega)]
        · rw [if_neg x]
      · rfl
  refine fin 0 65533 1 ?_ ?_ ?_
  · unfold decodeN; rw [if_neg a, if_neg b, if_neg c, if_neg d]
  · unfold charN; rw [if_neg hn, if_neg a]
    by_cases x : 194 ≤ b0 ∧ b0 ≤ 223
    · rw [if_pos x, if_neg (by omega)]
    rw [if_neg x]
    by_cases x : 224 ≤ b0 ∧ b0 ≤ 239
    · rw [if_pos x, if_neg (by omega)]
    rw [if_neg x]
    by_cases x : 240 ≤ b0 ∧ b0 ≤ 244
    · rw [if_pos x, if_neg (by omega)]
    · rw [if_neg x]
  · rfl

/-- no character begins a text -/
def bad (l : List UInt8) : Bool := decide ((decodeL l).1 = 65533) && decide ((decodeL l).2 = 1)
def charLen (l : List UInt8) : Nat := if l = [] then 0 else if bad l then 0 else (decodeL l).2

theorem decodeL_N (l : List UInt8) : decodeL l = decodeN l.length (l.getD 0 0).toNat (l.getD 1 0).toNat (l.getD 2 0).toNat (l.getD 3 0).toNat := by
  have := Lib.decode_N ⟨l.toArray⟩ 0
  simpa [decodeL] using this
theorem charLen_N (l : List UInt8) : charLen l = charN l.length (l.getD 0 0).toNat (l.getD 1 0).toNat (l.getD 2 0).toNat (l.getD 3 0).toNat := by
  unfold charLen bad
  by_cases h : l = []
  · subst h; rfl
  rw [if_neg h, charN_eq _ _ _ _ _ (by simpa using h) (UInt8.toNat_lt _) (UInt8.toNat_lt _) (UInt8.toNat_lt _) (UInt8.toNat_lt _), ← decodeL_N]
  simp

end Go.Proofs.YtfkhljmiehdgmaaDoor.Pl
