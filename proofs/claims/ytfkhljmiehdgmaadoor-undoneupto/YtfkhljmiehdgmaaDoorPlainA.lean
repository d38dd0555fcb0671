/-
  Plain functions on bytes: what the small functions of the program and of the document's answer give. No program is named here.
-/
namespace Go.Proofs.YtfkhljmiehdgmaaDoor.Pl

def isUpper (b : UInt8) : Bool := decide (65 ≤ b.toNat) && decide (b.toNat ≤ 90)
def isLetter (b : UInt8) : Bool := (decide (97 ≤ b.toNat) && decide (b.toNat ≤ 122)) || isUpper b
def isDigit (b : UInt8) : Bool := decide (48 ≤ b.toNat) && decide (b.toNat ≤ 57)
def small (b : UInt8) : UInt8 := if isUpper b then b + 32 else b
def among (b : UInt8) (l : List UInt8) : Bool := l.any fun c => c == b
def odd (b : UInt8) : Bool := decide (b.toNat < 32) || (decide (b.toNat = 127) || among b [34, 39, 38, 47, 60, 62, 92])

theorem take_snoc (s : ByteArray) (k : Nat) (h : k < s.size) : s.data.toList.take (k + 1) = s.data.toList.take k ++ [s[k]] := by
  rw [List.take_succ_eq_append_getElem (by simpa using h)]; rfl
theorem take_all (s : ByteArray) (k : Nat) (h : s.size ≤ k) : s.data.toList.take k = s.data.toList :=
  List.take_of_length_le (by simpa using h)
theorem split_at (s : ByteArray) (k : Nat) (h : k < s.size) : s.data.toList = s.data.toList.take k ++ s[k] :: s.data.toList.drop (k + 1) := by
  have := List.take_append_drop k s.data.toList
  rw [List.drop_eq_getElem_cons (by simpa using h)] at this
  exact this.symm
theorem beq8 (a b : UInt8) : ((a.toNat : Int) == (b.toNat : Int)) = (a == b) := by
  rw [Bool.eq_iff_iff]
  simp only [beq_iff_eq, Int.natCast_inj, UInt8.toNat_inj]
theorem beq8n (a : UInt8) (n : Nat) (h : n < 256) : ((a.toNat : Int) == (n : Int)) = (a == UInt8.ofNat n) := by
  rw [← beq8]; simp [Nat.mod_eq_of_lt h]
theorem among_snoc (b c : UInt8) (l : List UInt8) : among b (l ++ [c]) = (among b l || c == b) := by
  simp [among]
theorem among_yes (b : UInt8) (s : ByteArray) (k : Nat) (h : k < s.size) (he : ((s[k].toNat : Int) == (b.toNat : Int)) = true) : among b s.data.toList = true := by
  rw [beq8] at he
  rw [split_at s k h]
  simp [among, he]
theorem among_next (b : UInt8) (s : ByteArray) (k : Nat) (h : k < s.size) (hn : among b (s.data.toList.take k) = false) (he : ((s[k].toNat : Int) == (b.toNat : Int)) = false) : among b (s.data.toList.take (k + 1)) = false := by
  rw [beq8] at he
  rw [take_snoc s k h, among_snoc, hn, he]; rfl
theorem among_end (b : UInt8) (s : ByteArray) (k : Nat) (h : ¬ k < s.size) (hn : among b (s.data.toList.take k) = false) : among b s.data.toList = false := by
  rwa [take_all s k (by omega)] at hn

end Go.Proofs.YtfkhljmiehdgmaaDoor.Pl
