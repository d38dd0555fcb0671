/-
  Several texts laid together: each opens with its own remark.
-/
import Derived.Lib.MapLaws
import Derived.Lib.TrimUEq
import Derived.Lib.TrimU
import Derived.Lib.Bytealg

/-
  Plain functions on bytes: what the small functions of the program and of the document's answer give. No program is named here.
-/
namespace Go.Proofs.YtfkhljmiehdgmaaGreatDoor.Pl

def isUpper (b : UInt8) : Bool := decide (65 ≤ b.toNat) && decide (b.toNat ≤ 90)
def isLetter (b : UInt8) : Bool := (decide (97 ≤ b.toNat) && decide (b.toNat ≤ 122)) || isUpper b
def isDigit (b : UInt8) : Bool := decide (48 ≤ b.toNat) && decide (b.toNat ≤ 57)
def small (b : UInt8) : UInt8 := if isUpper b then b + 32 else b
def among (b : UInt8) (l : List UInt8) : Bool := l.any fun c => c == b
def odd (b : UInt8) : Bool := decide (b.toNat < 32) || (decide (b.toNat = 127) || among b [34, 39, 38, 47, 60, 62, 92])

theorem take_snoc (s : ByteArray) (k : Nat) (h : k < s.size) : s.data.toList.take (k + 1) = s.data.toList.take k ++ [s[k]] := by
  rw [List.take_succ_eq_append_getElem (by simpa using h)]; rfl
theorem take_all (s : ByteArray) (k : Nat) (h : s.size ≤ k) : s.data.toList.take k = s.data.toList :=
  List.take_of_length_le (by simpa using h)
theorem split_at (s : ByteArray) (k : Nat) (h : k < s.size) : s.data.toList = s.data.toList.take k ++ s[k] :: s.data.toList.drop (k + 1) := by
  have := List.take_append_drop k s.data.toList
  rw [List.drop_eq_getElem_cons (by simpa using h)] at this
  exact this.symm
theorem beq8 (a b : UInt8) : ((a.toNat : Int) == (b.toNat : Int)) = (a == b) := by
  rw [Bool.eq_iff_iff]
  simp only [beq_iff_eq, Int.natCast_inj, UInt8.toNat_inj]
theorem beq8n (a : UInt8) (n : Nat) (h : n < 256) : ((a.toNat : Int) == (n : Int)) = (a == UInt8.ofNat n) := by
  rw [← beq8]; simp [Nat.mod_eq_of_lt h]
theorem among_snoc (b c : UInt8) (l : List UInt8) : among b (l ++ [c]) = (among b l || c == b) := by
  simp [among]
theorem among_yes (b : UInt8) (s : ByteArray) (k : Nat) (h : k < s.size) (he : ((s[k].toNat : Int) == (b.toNat : Int)) = true) : among b s.data.toList = true := by
  rw [beq8] at he
  rw [split_at s k h]
  simp [among, he]
theorem among_next (b : UInt8) (s : ByteArray) (k : Nat) (h : k < s.size) (hn : among b (s.data.toList.take k) = false) (he : ((s[k].toNat : Int) == (b.toNat : Int)) = false) : among b (s.data.toList.take (k + 1)) = false := by
  rw [beq8] at he
  rw [take_snoc s k h, among_snoc, hn, he]; rfl
theorem among_end (b : UInt8) (s : ByteArray) (k : Nat) (h : ¬ k < s.size) (hn : among b (s.data.toList.take k) = false) : among b s.data.toList = false := by
  rwa [take_all s k (by omega)] at hn

end Go.Proofs.YtfkhljmiehdgmaaGreatDoor.Pl

/-
  Plain functions on texts: what the document's own answer writes for a value, place by place. No program is named here.
-/
namespace Go.Proofs.YtfkhljmiehdgmaaGreatDoor.Pl

def textOf (b : UInt8) : List UInt8 :=
  bif (b.toNat : Int) == 38 then [38, 97, 109, 112, 59] else bif (b.toNat : Int) == 60 then [38, 108, 116, 59] else bif (b.toNat : Int) == 62 then [38, 103, 116, 59] else bif (b.toNat : Int) == 34 then [38, 113, 117, 111, 116, 59] else bif (b.toNat : Int) == 39 then [38, 35, 51, 57, 59] else [b]
def texted (l : List UInt8) : List UInt8 := l.flatMap textOf

/-- a byte as two digits of sixteen -/
def two (b : UInt8) (all : List UInt8) : List UInt8 := [all.getD (b.toNat / 16) 0, all.getD (b.toNat % 16) 0]
def upHex : List UInt8 := [48, 49, 50, 51, 52, 53, 54, 55, 56, 57, 65, 66, 67, 68, 69, 70]
def loHex : List UInt8 := [48, 49, 50, 51, 52, 53, 54, 55, 56, 57, 97, 98, 99, 100, 101, 102]
def linkKept : List UInt8 := [97, 98, 99, 100, 101, 102, 103, 104, 105, 106, 107, 108, 109, 110, 111, 112, 113, 114, 115, 116, 117, 118, 119, 120, 121, 122, 65, 66, 67, 68, 69, 70, 71, 72, 73, 74, 75, 76, 77, 78, 79, 80, 81, 82, 83, 84, 85, 86, 87, 88, 89, 90, 48, 49, 50, 51, 52, 53, 54, 55, 56, 57, 45, 46, 95, 126, 47, 63, 35, 91, 93, 64, 33, 36, 40, 41, 42, 43, 44, 59, 61]
def linkOf (b : UInt8) : List UInt8 := bif among b linkKept then [b] else 37 :: two b upHex
def linked (l : List UInt8) : List UInt8 := l.flatMap linkOf
def lower (l : List UInt8) : List UInt8 := l.map small
/-- AsCss -/
def trim0 (h : List UInt8) : List UInt8 := bif ((h.getD 0 0).toNat : Int) == 48 then h.drop 1 else h
def styleOf (b : UInt8) : List UInt8 := bif odd b then 92 :: (trim0 (two b loHex) ++ [32]) else [b]
def styled (l : List UInt8) : List UInt8 := l.flatMap styleOf
/-- AsJs, by so many steps at the most -/
def scriptF : Nat → List UInt8 → List UInt8
  | 0, _ => []
  | _ + 1, [] => []
  | n + 1, b :: l =>
    if (odd b || ((b.toNat : Int) == 96)) = true then [92, 120] ++ two b loHex ++ scriptF n l
    else if (b :: l).take 3 = [226, 128, 168] then [92, 117, 50, 48, 50, 56] ++ scriptF n (l.drop 2)
    else if (b :: l).take 3 = [226, 128, 169] then [92, 117, 50, 48, 50, 57] ++ scriptF n (l.drop 2)
    else [b] ++ scriptF n l
def scripted (l : List UInt8) : List UInt8 := scriptF l.length l

theorem flatMap_snoc {f : UInt8 → List UInt8} (s : ByteArray) (k : Nat) (h : k < s.size) : (s.data.toList.take (k + 1)).flatMap f = (s.data.toList.take k).flatMap f ++ f s[k] := by
  rw [take_snoc s k h]; simp
theorem cat_eq (x l : List UInt8) : (ByteArray.mk x.toArray ++ ByteArray.mk l.toArray : ByteArray) = ⟨(x ++ l).toArray⟩ := by
  apply ByteArray.ext; simp
theorem extract_one (s : ByteArray) (k : Nat) (h : k < s.size) : s.extract k (k + 1) = ⟨[s[k]].toArray⟩ := by
  apply ByteArray.ext
  apply Array.ext
  · have : s.data.size = s.size := rfl
    simp; omega
  · intro i h1 h2
    simp at h2
    subst h2
    simp
    rfl
theorem step_cat {f : UInt8 → List UInt8} (s : ByteArray) (k : Nat) (h : k < s.size) (l : List UInt8) (hf : f s[k] = l) :
    (ByteArray.mk ((s.data.toList.take k).flatMap f).toArray ++ ByteArray.mk l.toArray : ByteArray) = ⟨((s.data.toList.take (k + 1)).flatMap f).toArray⟩ := by
  rw [cat_eq, flatMap_snoc s k h, hf]
theorem step_ext {f : UInt8 → List UInt8} (s : ByteArray) (k : Nat) (h : k < s.size) (hf : f s[k] = [s[k]]) :
    (ByteArray.mk ((s.data.toList.take k).flatMap f).toArray ++ s.extract k (k + 1) : ByteArray) = ⟨((s.data.toList.take (k + 1)).flatMap f).toArray⟩ := by
  rw [extract_one s k h, step_cat s k h _ hf]
theorem flatMap_len {f : UInt8 → List UInt8} (m : Nat) (hf : ∀ b, (f b).length ≤ m) (l : List UInt8) : (l.flatMap f).length ≤ m * l.length := by
  induction l with
  | nil => simp
  | cons b l ih =>
    have := hf b
    simp only [List.flatMap_cons, List.length_append, List.length_cons]
    rw [Nat.mul_add]; omega
theorem cond_len {m : Nat} {c : Bool} {x y : List UInt8} (hx : x.length ≤ m) (hy : y.length ≤ m) : (bif c then x else y).length ≤ m := by
  cases c <;> assumption
theorem textOf_len (b : UInt8) : (textOf b).length ≤ 6 := by
  unfold textOf
  repeat' apply cond_len
  all_goals simp
theorem linkOf_len (b : UInt8) : (linkOf b).length ≤ 6 := by
  unfold linkOf
  repeat' apply cond_len
  all_goals simp [two]
theorem styleOf_len (b : UInt8) : (styleOf b).length ≤ 6 := by
  have : (trim0 (two b loHex)).length ≤ 2 := by
    unfold trim0
    apply cond_len <;> simp [two]
  unfold styleOf
  apply cond_len
  · simp; omega
  · simp
theorem step_cat2 {f : UInt8 → List UInt8} (s : ByteArray) (k : Nat) (h : k < s.size) (l m : List UInt8) (hf : f s[k] = l ++ m) :
    (ByteArray.mk ((s.data.toList.take k).flatMap f).toArray ++ ByteArray.mk l.toArray ++ ByteArray.mk m.toArray : ByteArray) = ⟨((s.data.toList.take (k + 1)).flatMap f).toArray⟩ := by
  rw [cat_eq, cat_eq, flatMap_snoc s k h, hf, List.append_assoc]
theorem step_cat3 {f : UInt8 → List UInt8} (s : ByteArray) (k : Nat) (h : k < s.size) (l m n : List UInt8) (hf : f s[k] = l ++ (m ++ n)) :
    (ByteArray.mk ((s.data.toList.take k).flatMap f).toArray ++ ByteArray.mk l.toArray ++ ByteArray.mk m.toArray ++ ByteArray.mk n.toArray : ByteArray) = ⟨((s.data.toList.take (k + 1)).flatMap f).toArray⟩ := by
  rw [cat_eq, cat_eq, cat_eq, flatMap_snoc s k h, hf, List.append_assoc, List.append_assoc]
/-- the scheme of a link: how many bytes it has, with the colon -/
def letters : List UInt8 := [97, 98, 99, 100, 101, 102, 103, 104, 105, 106, 107, 108, 109, 110, 111, 112, 113, 114, 115, 116, 117, 118, 119, 120, 121, 122, 65, 66, 67, 68, 69, 70, 71, 72, 73, 74, 75, 76, 77, 78, 79, 80, 81, 82, 83, 84, 85, 86, 87, 88, 89, 90]
def digitsPlus : List UInt8 := [48, 49, 50, 51, 52, 53, 54, 55, 56, 57, 43, 45, 46]
/-- from a place on (the flag: it is behind the first byte) -/
def run (l : List UInt8) : Bool → Nat
  | later => match l with
    | [] => 0
    | b :: r => if among b letters || (later && among b digitsPlus) then run r true + 1 else 0
def schemed (l : List UInt8) : Nat := if run l false = 0 then 0 else if l[run l false]? = some 58 then run l false + 1 else 0
theorem two_len (b : UInt8) (l : List UInt8) : (two b l).length = 2 := rfl
theorem linkOf_yes {b : UInt8} (h : among b linkKept = true) : linkOf b = [b] := by simp [linkOf, h]
theorem linkOf_no {b : UInt8} (h : among b linkKept = false) : linkOf b = [37] ++ two b upHex := by simp [linkOf, h]
theorem styleOf_no {b : UInt8} (h : odd b = false) : styleOf b = [b] := by simp [styleOf, h]
theorem styleOf_yes {b : UInt8} (h : odd b = true) (x y : UInt8) (hxy : two b loHex = [x, y]) (hx : ((x.toNat : Int) == 48) = false) : styleOf b = [92] ++ ([x, y] ++ [32]) := by simp [styleOf, h, hxy, trim0, hx]
theorem styleOf_yes0 {b : UInt8} (h : odd b = true) (x y : UInt8) (hxy : two b loHex = [x, y]) (hx : ((x.toNat : Int) == 48) = true) : styleOf b = [92] ++ ([y] ++ [32]) := by simp [styleOf, h, hxy, trim0, hx]
theorem two_eq (b : UInt8) (all : ByteArray) (h1 : b.toNat / 16 < all.size) (h2 : b.toNat % 16 < all.size) : two b all.data.toList = [all[b.toNat / 16], all[b.toNat % 16]] := by
  have e : ∀ i (h : i < all.size), all.data.toList.getD i 0 = all[i] := by
    intro i h
    rw [List.getD_eq_getElem?_getD, List.getElem?_eq_getElem (by simpa using h)]
    rfl
  unfold two
  rw [e _ h1, e _ h2]
theorem take_len (s : ByteArray) (k : Nat) (hk : k ≤ s.size) : (s.data.toList.take k).length = k := by
  have : s.data.size = s.size := rfl
  simp; omega

end Go.Proofs.YtfkhljmiehdgmaaGreatDoor.Pl

/-
  Plain functions on texts: characters of UTF-8, and the cleaned value. No program is named here.
-/
namespace Go.Proofs.YtfkhljmiehdgmaaGreatDoor.Pl
open Go.Lib (decodeL decodeN)

/-- how many bytes a character has that begins a text: by the ranges of its bytes -/
def charN (n b0 b1 b2 b3 : Nat) : Nat :=
  if n = 0 then 0 else if b0 < 128 then 1
  else if 194 ≤ b0 ∧ b0 ≤ 223 then (if 2 ≤ n ∧ 128 ≤ b1 ∧ b1 ≤ 191 then 2 else 0)
  else if 224 ≤ b0 ∧ b0 ≤ 239 then (if 3 ≤ n ∧ ((b0 ≤ 224 → 160 ≤ b1) ∧ 128 ≤ b1) ∧ ((b0 = 237 → b1 ≤ 159) ∧ b1 ≤ 191) ∧ 128 ≤ b2 ∧ b2 ≤ 191 then 3 else 0)
  else if 240 ≤ b0 ∧ b0 ≤ 244 then (if 4 ≤ n ∧ ((b0 ≤ 240 → 144 ≤ b1) ∧ 128 ≤ b1) ∧ ((244 ≤ b0 → b1 ≤ 143) ∧ b1 ≤ 191) ∧ (128 ≤ b2 ∧ b2 ≤ 191) ∧ 128 ≤ b3 ∧ b3 ≤ 191 then 4 else 0)
  else 0

theorem charN_eq (n b0 b1 b2 b3 : Nat) (hn : n ≠ 0) (h0 : b0 < 256) (h1 : b1 < 256) (h2 : b2 < 256) (h3 : b3 < 256) :
    charN n b0 b1 b2 b3 = if (decodeN n b0 b1 b2 b3).1 = 65533 ∧ (decodeN n b0 b1 b2 b3).2 = 1 then 0 else (decodeN n b0 b1 b2 b3).2 := by
  have fin : ∀ (v m r k : Nat), decodeN n b0 b1 b2 b3 = (r, k) → charN n b0 b1 b2 b3 = m → (m = if r = 65533 ∧ k = 1 then 0 else k) → charN n b0 b1 b2 b3 = if (decodeN n b0 b1 b2 b3).1 = 65533 ∧ (decodeN n b0 b1 b2 b3).2 = 1 then 0 else (decodeN n b0 b1 b2 b3).2 := by
    intro v m r k h h' e
    rw [h, h', e]
  have fin := fin 0
  by_cases a : b0 < 128
  · refine fin 1 b0 1 ?_ ?_ ?_
    · unfold decodeN; rw [if_pos a]
    · unfold charN; rw [if_neg hn, if_pos a]
    · rw [if_neg (by omega)]
  by_cases b : b0 / 32 = 6 ∧ (1 < n ∧ b1 / 64 = 2)
  · obtain ⟨b, c, d⟩ := b
    by_cases e : b0 % 32 * 64 + b1 % 64 ≥ 128
    · refine fin 2 (b0 % 32 * 64 + b1 % 64) 2 ?_ ?_ ?_
      · unfold decodeN; rw [if_neg a, if_pos ⟨b, c, d⟩, if_pos e]
      · unfold charN; rw [if_neg hn, if_neg a, if_pos (by omega), if_pos (by omega)]
      · rw [if_neg (by omega)]
    · refine fin 0 65533 1 ?_ ?_ ?_
      · unfold decodeN; rw [if_neg a, if_pos ⟨b, c, d⟩, if_neg e]
      · unfold charN; rw [if_neg hn, if_neg a, if_neg (by omega), if_neg (by omega), if_neg (by omega)]
      · rfl
  by_cases c : b0 / 16 = 14 ∧ (1 < n ∧ b1 / 64 = 2) ∧ (2 < n ∧ b2 / 64 = 2)
  · have c' := c
    obtain ⟨c, ⟨d, d'⟩, e, e'⟩ := c'
    by_cases f : b0 % 16 * 4096 + b1 % 64 * 64 + b2 % 64 ≥ 2048 ∧ (b0 % 16 * 4096 + b1 % 64 * 64 + b2 % 64 < 55296 ∨ (57344 ≤ b0 % 16 * 4096 + b1 % 64 * 64 + b2 % 64 ∧ b0 % 16 * 4096 + b1 % 64 * 64 + b2 % 64 ≤ 1114111))
    · refine fin 3 (b0 % 16 * 4096 + b1 % 64 * 64 + b2 % 64) 3 ?_ ?_ ?_
      · unfold decodeN; rw [if_neg a, if_neg b, if_pos ⟨c, ⟨d, d'⟩, e, e'⟩, if_pos f]
      · unfold charN; rw [if_neg hn, if_neg a, if_neg (by omega), if_pos (by omega), if_pos (by omega)]
      · rw [if_neg (by omega)]
    · refine fin 0 65533 1 ?_ ?_ ?_
      · unfold decodeN; rw [if_neg a, if_neg b, if_pos ⟨c, ⟨d, d'⟩, e, e'⟩, if_neg f]
      · unfold charN; rw [if_neg hn, if_neg a, if_neg (by omega), if_pos (by omega), if_neg (by omega)]
      · rfl
  by_cases d : b0 / 8 = 30 ∧ (1 < n ∧ b1 / 64 = 2) ∧ (2 < n ∧ b2 / 64 = 2) ∧ (3 < n ∧ b3 / 64 = 2)
  · have d' := d
    obtain ⟨d1, ⟨e, e'⟩, ⟨f, f'⟩, g, g'⟩ := d'
    by_cases h : b0 % 8 * 262144 + b1 % 64 * 4096 + b2 % 64 * 64 + b3 % 64 ≥ 65536 ∧ (b0 % 8 * 262144 + b1 % 64 * 4096 + b2 % 64 * 64 + b3 % 64 < 55296 ∨ (57344 ≤ b0 % 8 * 262144 + b1 % 64 * 4096 + b2 % 64 * 64 + b3 % 64 ∧ b0 % 8 * 262144 + b1 % 64 * 4096 + b2 % 64 * 64 + b3 % 64 ≤ 1114111))
    · refine fin 4 (b0 % 8 * 262144 + b1 % 64 * 4096 + b2 % 64 * 64 + b3 % 64) 4 ?_ ?_ ?_
      · unfold decodeN; rw [if_neg a, if_neg b, if_neg c, if_pos d, if_pos h]
      · unfold charN; rw [if_neg hn, if_neg a, if_neg (by omega), if_neg (by omega), if_pos (by omega), if_pos (by omega)]
      · rw [if_neg (by omega)]
    · refine fin 0 65533 1 ?_ ?_ ?_
      · unfold decodeN; rw [if_neg a, if_neg b, if_neg c, if_pos d, if_neg h]
      · unfold charN; rw [if_neg hn, if_neg a, if_neg (by omega), if_neg (by omega)]
        by_cases x : 240 ≤ b0 ∧ b0 ≤ 244
        · rw [if_pos x, if_neg (by omega)]
        · rw [if_neg x]
      · rfl
  refine fin 0 65533 1 ?_ ?_ ?_
  · unfold decodeN; rw [if_neg a, if_neg b, if_neg c, if_neg d]
  · unfold charN; rw [if_neg hn, if_neg a]
    by_cases x : 194 ≤ b0 ∧ b0 ≤ 223
    · rw [if_pos x, if_neg (by omega)]
    rw [if_neg x]
    by_cases x : 224 ≤ b0 ∧ b0 ≤ 239
    · rw [if_pos x, if_neg (by omega)]
    rw [if_neg x]
    by_cases x : 240 ≤ b0 ∧ b0 ≤ 244
    · rw [if_pos x, if_neg (by omega)]
    · rw [if_neg x]
  · rfl

/-- no character begins a text -/
def bad (l : List UInt8) : Bool := decide ((decodeL l).1 = 65533) && decide ((decodeL l).2 = 1)
def charLen (l : List UInt8) : Nat := if l = [] then 0 else if bad l then 0 else (decodeL l).2

theorem decodeL_N (l : List UInt8) : decodeL l = decodeN l.length (l.getD 0 0).toNat (l.getD 1 0).toNat (l.getD 2 0).toNat (l.getD 3 0).toNat := by
  have := Lib.decode_N ⟨l.toArray⟩ 0
  simpa [decodeL] using this
theorem charLen_N (l : List UInt8) : charLen l = charN l.length (l.getD 0 0).toNat (l.getD 1 0).toNat (l.getD 2 0).toNat (l.getD 3 0).toNat := by
  unfold charLen bad
  by_cases h : l = []
  · subst h; rfl
  rw [if_neg h, charN_eq _ _ _ _ _ (by simpa using h) (UInt8.toNat_lt _) (UInt8.toNat_lt _) (UInt8.toNat_lt _) (UInt8.toNat_lt _), ← decodeL_N]
  simp

end Go.Proofs.YtfkhljmiehdgmaaGreatDoor.Pl

/-
  Plain laws on the scheme of a link. No program is named here.
-/
namespace Go.Proofs.YtfkhljmiehdgmaaGreatDoor.Pl

theorem drop_at (s : ByteArray) (k : Nat) (h : k < s.size) : s.data.toList.drop k = s[k] :: s.data.toList.drop (k + 1) := by
  rw [List.drop_eq_getElem_cons (by simpa using h)]; rfl
theorem drop_end (s : ByteArray) (k : Nat) (h : ¬ k < s.size) : s.data.toList.drop k = [] := by
  have : s.data.size = s.size := rfl
  simp; omega
theorem get_at (s : ByteArray) (k : Nat) (h : k < s.size) : s.data.toList[k]? = some s[k] := by
  rw [List.getElem?_eq_getElem (by simpa using h)]; rfl
theorem get_end (s : ByteArray) (k : Nat) (h : ¬ k < s.size) : s.data.toList[k]? = none := by
  have : s.data.size = s.size := rfl
  rw [List.getElem?_eq_none (by simp; omega)]
theorem run_letter (s : ByteArray) (k : Nat) (h : k < s.size) (p : Bool) (hc : among s[k] letters = true) : run (s.data.toList.drop k) p = run (s.data.toList.drop (k + 1)) true + 1 := by
  rw [drop_at s k h]; simp [run, hc]
theorem run_digit (s : ByteArray) (k : Nat) (h : k < s.size) (hc : among s[k] digitsPlus = true) : run (s.data.toList.drop k) true = run (s.data.toList.drop (k + 1)) true + 1 := by
  rw [drop_at s k h]; simp [run, hc]
theorem run_stop0 (s : ByteArray) (k : Nat) (h : k < s.size) (hc : among s[k] letters = false) : run (s.data.toList.drop k) false = 0 := by
  rw [drop_at s k h]; simp [run, hc]
theorem run_stop (s : ByteArray) (k : Nat) (h : k < s.size) (p : Bool) (hc : among s[k] letters = false) (hd : among s[k] digitsPlus = false) : run (s.data.toList.drop k) p = 0 := by
  rw [drop_at s k h]; simp [run, hc, hd]
theorem run_over (s : ByteArray) (k : Nat) (h : ¬ k < s.size) (p : Bool) : run (s.data.toList.drop k) p = 0 := by
  rw [drop_end s k h]; rfl
theorem schemed_zero (l : List UInt8) (h : run l false = 0) : schemed l = 0 := by simp [schemed, h]
theorem schemed_over (s : ByteArray) (k : Nat) (h : run s.data.toList false = k) (hk : ¬ k < s.size) : schemed s.data.toList = 0 := by
  simp [schemed, h, get_end s k hk]
theorem schemed_yes (s : ByteArray) (k : Nat) (h : run s.data.toList false = k) (h0 : 0 < k) (hk : k < s.size) (hc : s[k].toNat = 58) : schemed s.data.toList = k + 1 := by
  have e : s[k] = 58 := UInt8.toNat_inj.1 (by simpa using hc)
  simp [schemed, h, get_at s k hk, e]; omega
theorem schemed_no (s : ByteArray) (k : Nat) (h : run s.data.toList false = k) (hk : k < s.size) (hc : ¬ s[k].toNat = 58) : schemed s.data.toList = 0 := by
  have e : ¬ s[k] = 58 := fun e => hc (by rw [e]; rfl)
  simp [schemed, h, get_at s k hk, e]

end Go.Proofs.YtfkhljmiehdgmaaGreatDoor.Pl

/-
  Plain laws on what a script's string holds. No program is named here.
-/
namespace Go.Proofs.YtfkhljmiehdgmaaGreatDoor.Pl

theorem scriptF_more : ∀ (n : Nat) (l : List UInt8), l.length ≤ n → scriptF n l = scriptF l.length l
  | 0, [], _ => rfl
  | n + 1, [], _ => rfl
  | n + 1, b :: l, h => by
    simp only [List.length_cons] at h
    have h1 := scriptF_more n l (by omega)
    have h2 := scriptF_more n (l.drop 2) (by simp; omega)
    have h3 := scriptF_more l.length (l.drop 2) (by simp)
    simp only [scriptF, List.length_cons, h1, h2, h3]
theorem scripted_nil : scripted [] = [] := rfl
theorem scripted_cons (b : UInt8) (l : List UInt8) : scripted (b :: l) = if (odd b || ((b.toNat : Int) == 96)) = true then [92, 120] ++ two b loHex ++ scripted l
    else if (b :: l).take 3 = [226, 128, 168] then [92, 117, 50, 48, 50, 56] ++ scripted (l.drop 2)
    else if (b :: l).take 3 = [226, 128, 169] then [92, 117, 50, 48, 50, 57] ++ scripted (l.drop 2)
    else [b] ++ scripted l := by
  have h3 := scriptF_more l.length (l.drop 2) (by simp)
  unfold scripted
  simp only [scriptF, List.length_cons, h3]
theorem take3 (s : ByteArray) (k : Nat) : (s.data.toList.drop k).take 3 = (s.extract k (k + 3)).data.toList := by
  rw [ByteArray.data_extract, Array.toList_extract, List.extract_eq_take_drop]
  congr 1; omega
theorem scriptF_len : ∀ (n : Nat) (l : List UInt8), (scriptF n l).length ≤ 6 * n
  | 0, _ => by simp [scriptF]
  | n + 1, [] => by simp [scriptF]
  | n + 1, b :: l => by
    have h1 := scriptF_len n l
    have h2 := scriptF_len n (l.drop 2)
    simp only [scriptF]
    repeat' split
    all_goals simp only [List.length_append, List.length_cons, List.length_nil, two]
    all_goals omega
theorem scripted_len (l : List UInt8) : (scripted l).length ≤ 6 * l.length := scriptF_len _ l
theorem esc_at (s : ByteArray) (k : Nat) (h : k < s.size) (x : List UInt8) (hx : x ++ scripted (s.data.toList.drop k) = scripted s.data.toList) (ho : (odd s[k] || ((s[k].toNat : Int) == 96)) = true) :
    (x ++ [92, 120] ++ two s[k] loHex) ++ scripted (s.data.toList.drop (k + 1)) = scripted s.data.toList := by
  rw [← hx, drop_at s k h, scripted_cons, if_pos ho]; simp
theorem sep_at (s : ByteArray) (k : Nat) (h : k < s.size) (x : List UInt8) (hx : x ++ scripted (s.data.toList.drop k) = scripted s.data.toList) (ho : (odd s[k] || ((s[k].toNat : Int) == 96)) = false)
    (he : s.extract k (k + 3) = ⟨#[226, 128, 168]⟩) :
    (x ++ [92, 117, 50, 48, 50, 56]) ++ scripted (s.data.toList.drop (k + 3)) = scripted s.data.toList := by
  have e := take3 s k
  rw [he] at e
  rw [← hx, drop_at s k h, scripted_cons, if_neg (by simp [ho]), ← drop_at s k h, if_pos e, List.drop_drop]; simp
theorem par_at (s : ByteArray) (k : Nat) (h : k < s.size) (x : List UInt8) (hx : x ++ scripted (s.data.toList.drop k) = scripted s.data.toList) (ho : (odd s[k] || ((s[k].toNat : Int) == 96)) = false)
    (he : s.extract k (k + 3) = ⟨#[226, 128, 169]⟩) :
    (x ++ [92, 117, 50, 48, 50, 57]) ++ scripted (s.data.toList.drop (k + 3)) = scripted s.data.toList := by
  have e := take3 s k
  rw [he] at e
  rw [← hx, drop_at s k h, scripted_cons, if_neg (by simp [ho]), ← drop_at s k h, if_neg (by rw [e]; decide), if_pos e, List.drop_drop]; simp
theorem plain_at (s : ByteArray) (k : Nat) (h : k < s.size) (x : List UInt8) (hx : x ++ scripted (s.data.toList.drop k) = scripted s.data.toList) (ho : (odd s[k] || ((s[k].toNat : Int) == 96)) = false)
    (h8 : k + 2 < s.size → s.extract k (k + 3) ≠ ⟨#[226, 128, 168]⟩) (h9 : k + 2 < s.size → s.extract k (k + 3) ≠ ⟨#[226, 128, 169]⟩) :
    (x ++ [s[k]]) ++ scripted (s.data.toList.drop (k + 1)) = scripted s.data.toList := by
  have e := take3 s k
  have hl : k + 2 < s.size ∨ (s.extract k (k + 3)).data.toList.length < 3 := by
    by_cases c : k + 2 < s.size
    · exact .inl c
    · right
      rw [← e]
      have : s.data.size = s.size := rfl
      simp; omega
  have n8 : (s.data.toList.drop k).take 3 ≠ [226, 128, 168] := by
    intro q
    rw [e] at q
    rcases hl with c | c
    · exact h8 c (ByteArray.ext (Array.toList_inj.1 q))
    · rw [q] at c; simp at c
  have n9 : (s.data.toList.drop k).take 3 ≠ [226, 128, 169] := by
    intro q
    rw [e] at q
    rcases hl with c | c
    · exact h9 c (ByteArray.ext (Array.toList_inj.1 q))
    · rw [q] at c; simp at c
  rw [← hx, drop_at s k h, scripted_cons, if_neg (by simp [ho]), ← drop_at s k h, if_neg n8, if_neg n9]; simp

end Go.Proofs.YtfkhljmiehdgmaaGreatDoor.Pl

/-
  Plain laws on the cleaned value. No program is named here.
-/
namespace Go.Proofs.YtfkhljmiehdgmaaGreatDoor.Pl
open Go.Lib (decodeL decodeN)

theorem getD_at (s : ByteArray) (k : Nat) (h : k < s.size) : s.data.toList.getD k 0 = s[k] := by
  rw [List.getD_eq_getElem?_getD, get_at s k h]; rfl
theorem len_eq (s : ByteArray) : s.data.toList.length = s.size := rfl
theorem charLen_le (l : List UInt8) : charLen l ≤ l.length := by
  unfold charLen
  by_cases h : l = []
  · rw [if_pos h]; omega
  rw [if_neg h]
  split
  · omega
  · exact Lib.decodeL_le l h

theorem charLen_zero (s : ByteArray) (h : s.size = 0) : charLen s.data.toList = 0 := by
  rw [charLen_N, len_eq, h]; rfl
theorem charLen_one (s : ByteArray) (h : 0 < s.size) (h0 : s[0].toNat < 128) : charLen s.data.toList = 1 := by
  rw [charLen_N, len_eq, getD_at s 0 h]; unfold charN; rw [if_neg (by omega), if_pos h0]
theorem charLen_two (s : ByteArray) (h : 1 < s.size) (h0 : 194 ≤ s[0].toNat) (h1 : s[0].toNat ≤ 223) : charLen s.data.toList = if 128 ≤ s[1].toNat ∧ s[1].toNat ≤ 191 then 2 else 0 := by
  rw [charLen_N, len_eq, getD_at s 0 (by omega), getD_at s 1 h]; unfold charN
  rw [if_neg (by omega), if_neg (by omega), if_pos (by omega)]
  by_cases c : 128 ≤ s[1].toNat ∧ s[1].toNat ≤ 191
  · rw [if_pos c, if_pos (by omega)]
  · rw [if_neg c, if_neg (by omega)]
theorem charLen_three (s : ByteArray) (h : 2 < s.size) (lo hi : Nat) (h0 : 224 ≤ s[0].toNat) (h1 : s[0].toNat ≤ 239) (hlh : (s[0].toNat ≤ 224 ∧ lo = 160 ∧ hi = 191) ∨ (225 ≤ s[0].toNat ∧ s[0].toNat ≤ 236 ∧ lo = 128 ∧ hi = 191) ∨ (237 ≤ s[0].toNat ∧ s[0].toNat ≤ 237 ∧ lo = 128 ∧ hi = 159) ∨ (238 ≤ s[0].toNat ∧ lo = 128 ∧ hi = 191)) :
    charLen s.data.toList = if lo ≤ s[1].toNat ∧ s[1].toNat ≤ hi ∧ 128 ≤ s[2].toNat ∧ s[2].toNat ≤ 191 then 3 else 0 := by
  rw [charLen_N, len_eq, getD_at s 0 (by omega), getD_at s 1 (by omega), getD_at s 2 h]; unfold charN
  rw [if_neg (by omega), if_neg (by omega), if_neg (by omega), if_pos (by omega)]
  by_cases c : lo ≤ s[1].toNat ∧ s[1].toNat ≤ hi ∧ 128 ≤ s[2].toNat ∧ s[2].toNat ≤ 191
  · rw [if_pos c, if_pos (by omega)]
  · rw [if_neg c, if_neg (by omega)]
theorem charLen_four (s : ByteArray) (h : 3 < s.size) (lo hi : Nat) (h0 : 240 ≤ s[0].toNat) (h1 : s[0].toNat ≤ 244) (hlh : (s[0].toNat ≤ 240 ∧ lo = 144 ∧ hi = 191) ∨ (241 ≤ s[0].toNat ∧ s[0].toNat ≤ 243 ∧ lo = 128 ∧ hi = 191) ∨ (244 ≤ s[0].toNat ∧ lo = 128 ∧ hi = 143)) :
    charLen s.data.toList = if lo ≤ s[1].toNat ∧ s[1].toNat ≤ hi ∧ (128 ≤ s[2].toNat ∧ s[2].toNat ≤ 191) ∧ 128 ≤ s[3].toNat ∧ s[3].toNat ≤ 191 then 4 else 0 := by
  rw [charLen_N, len_eq, getD_at s 0 (by omega), getD_at s 1 (by omega), getD_at s 2 (by omega), getD_at s 3 h]; unfold charN
  rw [if_neg (by omega), if_neg (by omega), if_neg (by omega), if_neg (by omega), if_pos (by omega)]
  by_cases c : lo ≤ s[1].toNat ∧ s[1].toNat ≤ hi ∧ (128 ≤ s[2].toNat ∧ s[2].toNat ≤ 191) ∧ 128 ≤ s[3].toNat ∧ s[3].toNat ≤ 191
  · rw [if_pos c, if_pos (by omega)]
  · rw [if_neg c, if_neg (by omega)]
theorem charLen_odd (s : ByteArray) (h : 0 < s.size) (h0 : (128 ≤ s[0].toNat ∧ s[0].toNat ≤ 193) ∨ 245 ≤ s[0].toNat) : charLen s.data.toList = 0 := by
  rw [charLen_N, len_eq, getD_at s 0 h]; unfold charN
  rw [if_neg (by omega), if_neg (by omega), if_neg (by omega), if_neg (by omega), if_neg (by omega)]
theorem charLen_short (s : ByteArray) (h : 0 < s.size) (h0 : (194 ≤ s[0].toNat ∧ s[0].toNat ≤ 223 ∧ s.size < 2) ∨ (224 ≤ s[0].toNat ∧ s[0].toNat ≤ 239 ∧ s.size < 3) ∨ (240 ≤ s[0].toNat ∧ s[0].toNat ≤ 244 ∧ s.size < 4)) : charLen s.data.toList = 0 := by
  rw [charLen_N, len_eq, getD_at s 0 h]; unfold charN
  rw [if_neg (by omega), if_neg (by omega)]
  split
  · rw [if_neg (by omega)]
  split
  · rw [if_neg (by omega)]
  split
  · rw [if_neg (by omega)]
  rfl

/-- the cleaned value, by so many steps at the most -/
def cleanF : Nat → List UInt8 → List UInt8
  | 0, _ => []
  | n + 1, l => if l = [] then [] else if charLen l = 0 ∨ l[0]? = some 0 then [239, 191, 189] ++ cleanF n (l.drop 1) else l.take (charLen l) ++ cleanF n (l.drop (charLen l))
def clean (l : List UInt8) : List UInt8 := cleanF l.length l

theorem cleanF_more : ∀ (n : Nat) (l : List UInt8), l.length ≤ n → cleanF n l = cleanF l.length l
  | 0, l, h => by
    have : l = [] := by simpa using h
    subst this; rfl
  | n + 1, [], _ => rfl
  | n + 1, b :: l, h => by
    simp only [List.length_cons] at h
    have h1 := cleanF_more n ((b :: l).drop 1) (by simp; omega)
    have h2 := cleanF_more l.length ((b :: l).drop 1) (by simp)
    by_cases c : charLen (b :: l) = 0
    · simp only [cleanF, List.length_cons, h1, h2, c, true_or, if_true]
    · have h3 := cleanF_more n ((b :: l).drop (charLen (b :: l))) (by simp; omega)
      have h4 := cleanF_more l.length ((b :: l).drop (charLen (b :: l))) (by simp; omega)
      simp only [cleanF, List.length_cons, h1, h2, h3, h4]
theorem clean_nil : clean [] = [] := rfl
theorem clean_bad (l : List UInt8) (hne : l ≠ []) (h : charLen l = 0 ∨ l[0]? = some 0) : clean l = [239, 191, 189] ++ clean (l.drop 1) := by
  match l, hne with
  | b :: l, _ =>
    unfold clean
    rw [List.length_cons, cleanF, if_neg (by simp), if_pos h, cleanF_more l.length _ (by simp)]
theorem clean_char (l : List UInt8) (hne : l ≠ []) (h : ¬ (charLen l = 0 ∨ l[0]? = some 0)) : clean l = l.take (charLen l) ++ clean (l.drop (charLen l)) := by
  match l, hne with
  | b :: l, _ =>
    unfold clean
    rw [List.length_cons, cleanF, if_neg (by simp), if_neg h, cleanF_more l.length _ (by simp; omega)]
theorem clean_len (l : List UInt8) : (clean l).length ≤ 3 * l.length := by
  unfold clean
  have : ∀ n l, (cleanF n l).length ≤ 3 * l.length := by
    intro n
    induction n with
    | zero => intro l; simp [cleanF]
    | succ n ih =>
      intro l
      rw [cleanF]
      split
      · simp
      rename_i hne
      have hp : 0 < l.length := List.length_pos_iff.2 hne
      split
      · have := ih (l.drop 1)
        simp only [List.length_append, List.length_cons, List.length_nil, List.length_drop] at this ⊢; omega
      · have := ih (l.drop (charLen l))
        have hc := charLen_le l
        simp only [List.length_append, List.length_take, List.length_drop] at this ⊢; omega
  exact this _ l
theorem clean_nil_at (s : ByteArray) (h : ¬ 0 < s.size) : clean s.data.toList = [] := by
  have : s.data.toList = [] := by
    have := drop_end s 0 h
    simpa using this
  rw [this]; rfl
theorem clean_bad_at (s : ByteArray) (hp : 0 < s.size) (h : charLen s.data.toList = 0 ∨ s[0].toNat = 0) : clean s.data.toList = [239, 191, 189] ++ clean (s.extract 1 s.size).data.toList := by
  have e : (s.extract 1 s.size).data.toList = s.data.toList.drop 1 := by
    rw [ByteArray.data_extract, Array.toList_extract, List.extract_eq_take_drop]
    apply List.take_of_length_le
    rw [List.length_drop, len_eq]; omega
  rw [e]
  refine clean_bad _ (fun q => ?_) ?_
  · have := len_eq s; rw [q] at this; simp at this; omega
  · rcases h with h | h
    · exact .inl h
    · right
      rw [get_at s 0 hp]
      exact congrArg some (UInt8.toNat_inj.1 (by simpa using h))
theorem clean_char_at (s : ByteArray) (hp : 0 < s.size) (h : charLen s.data.toList ≠ 0) (h0 : s[0].toNat ≠ 0) :
    clean s.data.toList = (s.extract 0 (charLen s.data.toList)).data.toList ++ clean (s.extract (charLen s.data.toList) s.size).data.toList := by
  have e : ∀ k, (s.extract k s.size).data.toList = s.data.toList.drop k := by
    intro k
    rw [ByteArray.data_extract, Array.toList_extract, List.extract_eq_take_drop]
    apply List.take_of_length_le
    rw [List.length_drop, len_eq]; omega
  have e2 : ∀ k, (s.extract 0 k).data.toList = s.data.toList.take k := by
    intro k
    rw [ByteArray.data_extract, Array.toList_extract, List.extract_eq_take_drop]; simp
  rw [e, e2]
  refine clean_char _ (fun q => ?_) ?_
  · have := len_eq s; rw [q] at this; simp at this; omega
  · rintro (q | q)
    · exact h q
    · rw [get_at s 0 hp] at q
      have := Option.some.inj q
      exact h0 (by rw [this]; rfl)

theorem cat_arr (x : List UInt8) (t : ByteArray) : (ByteArray.mk x.toArray ++ t : ByteArray) = ⟨(x ++ t.data.toList).toArray⟩ := by
  apply ByteArray.ext; simp

end Go.Proofs.YtfkhljmiehdgmaaGreatDoor.Pl

/-
  Plain: what the document asks of Escape. No program is named here.
-/
namespace Go.Proofs.YtfkhljmiehdgmaaGreatDoor.Pl

def blocked : List UInt8 := [35, 98, 108, 111, 99, 107, 101, 100]
def http : List UInt8 := [104, 116, 116, 112, 58]
def https : List UInt8 := [104, 116, 116, 112, 115, 58]
def mailto : List UInt8 := [109, 97, 105, 108, 116, 111, 58]
def firstOf (l : List UInt8) : List UInt8 :=
  if 0 < schemed l ∧ lower (l.take (schemed l)) ≠ http ∧ lower (l.take (schemed l)) ≠ https ∧ lower (l.take (schemed l)) ≠ mailto then blocked
  else l.take (schemed l) ++ linked (l.drop (schemed l))
def escape (kd : Int) (l : List UInt8) : List UInt8 :=
  if kd = 1 then texted (clean l) else if kd = 3 then linked (clean l) else if kd = 2 then firstOf (clean l) else if kd = 4 then scripted (clean l) else if kd = 5 then styled (clean l) else []
def escErr (kd : Int) : Int := if 1 ≤ kd ∧ kd ≤ 5 then 0 else 1

theorem run_le : ∀ (l : List UInt8) (p : Bool), run l p ≤ l.length
  | [], _ => by simp [run]
  | b :: r, p => by
    have := run_le r true
    simp only [run, List.length_cons]
    split <;> omega
theorem schemed_le (l : List UInt8) : schemed l ≤ l.length := by
  unfold schemed
  split
  · omega
  split
  · rename_i h
    have := (List.getElem?_eq_some_iff.1 h).1
    omega
  · omega
theorem clean_size (l : List UInt8) (n : Nat) (h : l.length ≤ n) : (clean l).length ≤ 3 * n := by
  have := clean_len l; omega
theorem take_arr (l : List UInt8) (n : Nat) : (ByteArray.mk l.toArray).extract 0 n = ⟨(l.take n).toArray⟩ := by
  apply ByteArray.ext
  apply Array.toList_inj.1
  rw [ByteArray.data_extract, Array.toList_extract, List.extract_eq_take_drop]; simp
theorem drop_arr (l : List UInt8) (n : Nat) : (ByteArray.mk l.toArray).extract n l.length = ⟨(l.drop n).toArray⟩ := by
  apply ByteArray.ext
  apply Array.toList_inj.1
  rw [ByteArray.data_extract, Array.toList_extract, List.extract_eq_take_drop]
  show (l.drop n).take _ = _
  apply List.take_of_length_le
  rw [List.length_drop]; omega

end Go.Proofs.YtfkhljmiehdgmaaGreatDoor.Pl

/-
  Plain laws: kinds of bytes as lists. No program is named here.
-/
namespace Go.Proofs.YtfkhljmiehdgmaaGreatDoor.Pl

theorem all_u8 (p : UInt8 → Bool) (h : (List.range 256).all (fun n => p (UInt8.ofNat n)) = true) (b : UInt8) : p b = true := by
  have := List.all_eq_true.1 h b.toNat (List.mem_range.2 (UInt8.toNat_lt b))
  simpa using this
theorem letter_eq (b : UInt8) : isLetter b = among b letters := by
  have := all_u8 (fun b => isLetter b == among b letters) (by decide +kernel) b
  simpa using this
theorem digit_eq (b : UInt8) : (isDigit b || among b [43, 45, 46]) = among b digitsPlus := by
  have := all_u8 (fun b => (isDigit b || among b [43, 45, 46]) == among b digitsPlus) (by decide +kernel) b
  simpa using this
theorem kept_eq (b : UInt8) : (isLetter b || (isDigit b || among b [45, 46, 95, 126, 47, 63, 35, 91, 93, 64, 33, 36, 40, 41, 42, 43, 44, 59, 61])) = among b linkKept := by
  have := all_u8 (fun b => (isLetter b || (isDigit b || among b [45, 46, 95, 126, 47, 63, 35, 91, 93, 64, 33, 36, 40, 41, 42, 43, 44, 59, 61])) == among b linkKept) (by decide +kernel) b
  simpa using this
theorem indexByte_iff : ∀ (l : List UInt8) (b : UInt8), (0 ≤ Lib.indexByte l b ∧ among b l = true) ∨ (Lib.indexByte l b = -1 ∧ among b l = false)
  | [], _ => .inr ⟨rfl, rfl⟩
  | c :: l, b => by
    have ih := indexByte_iff l b
    unfold Lib.indexByte
    by_cases h : (c == b) = true
    · left; rw [if_pos h]; exact ⟨by omega, by simp [among, h]⟩
    · have hf : (c == b) = false := by simpa using h
      rw [if_neg h]
      rcases ih with ⟨a, e⟩ | ⟨a, e⟩
      · left
        have : (Lib.indexByte l b == -1) = false := by simp; omega
        rw [if_neg (by rw [this]; simp)]
        exact ⟨by omega, by simp only [among, List.any_cons, hf, Bool.false_or] at e ⊢; exact e⟩
      · right
        rw [if_pos (by rw [a]; rfl)]
        exact ⟨rfl, by simp only [among, List.any_cons, hf, Bool.false_or] at e ⊢; exact e⟩
theorem toUInt8_back (b : UInt8) : ((b.toNat : Int).toNat.toUInt8) = b := by simp

/-- where the colon of a scheme is, or -1 -/
def schemeEnd (l : List UInt8) : Int := if schemed l = 0 then -1 else (schemed l : Int) - 1
theorem schemeEnd_none (l : List UInt8) (h : schemed l = 0) : schemeEnd l = -1 := by simp [schemeEnd, h]
theorem schemeEnd_some (l : List UInt8) (k : Nat) (h : schemed l = k + 1) : schemeEnd l = k := by simp [schemeEnd, h]

end Go.Proofs.YtfkhljmiehdgmaaGreatDoor.Pl
