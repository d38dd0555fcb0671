/-
  Plain functions on texts: what the document's own answer writes for a value, place by place. No program is named here.
-/
import Derived.Test.YtfkhljmiehdgmaaDoorPlainA
namespace Go.Proofs.YtfkhljmiehdgmaaDoor.Pl

def textOf (b : UInt8) : List UInt8 :=
  bif (b.toNat : Int) == 38 then [38, 97, 109, 112, 59] else bif (b.toNat : Int) == 60 then [38, 108, 116, 59] else bif (b.toNat : Int) == 62 then [38, 103, 116, 59] else bif (b.toNat : Int) == 34 then [38, 113, 117, 111, 116, 59] else bif (b.toNat : Int) == 39 then [38, 35, 51, 57, 59] else [b]
def texted (l : List UInt8) : List UInt8 := l.flatMap textOf

/-- a byte as two digits of sixteen -/
def two (b : UInt8) (all : List UInt8) : List UInt8 := [all.getD (b.toNat / 16) 0, all.getD (b.toNat % 16) 0]
def upHex : List UInt8 := [48, 49, 50, 51, 52, 53, 54, 55, 56, 57, 65, 66, 67, 68, 69, 70]
def loHex : List UInt8 := [48, 49, 50, 51, 52, 53, 54, 55, 56, 57, 97, 98, 99, 100, 101, 102]
def linkKept : List UInt8 := [97, 98, 99, 100, 101, 102, 103, 104, 105, 106, 107, 108, 109, 110, 111, 112, 113, 114, 115, 116, 117, 118, 119, 120, 121, 122, 65, 66, 67, 68, 69, 70, 71, 72, 73, 74, 75, 76, 77, 78, 79, 80, 81, 82, 83, 84, 85, 86, 87, 88, 89, 90, 48, 49, 50, 51, 52, 53, 54, 55, 56, 57, 45, 46, 95, 126, 47, 63, 35, 91, 93, 64, 33, 36, 40, 41, 42, 43, 44, 59, 61]
def linkOf (b : UInt8) : List UInt8 := bif among b linkKept then [b] else 37 :: two b upHex
def linked (l : List UInt8) : List UInt8 := l.flatMap linkOf
def lower (l : List UInt8) : List UInt8 := l.map small
/-- AsCss -/
def trim0 (h : List UInt8) : List UInt8 := bif ((h.getD 0 0).toNat : Int) == 48 then h.drop 1 else h
def styleOf (b : UInt8) : List UInt8 := bif odd b then 92 :: (trim0 (two b loHex) ++ [32]) else [b]
def styled (l : List UInt8) : List UInt8 := l.flatMap styleOf
/-- AsJs, by so many steps at the most -/
def scriptF : Nat → List UInt8 → List UInt8
  | 0, _ => []
  | _ + 1, [] => []
  | n + 1, b :: l =>
    if (odd b || ((b.toNat : Int) == 96)) = true then [92, 120] ++ two b loHex ++ scriptF n l
    else if (b :: l).take 3 = [226, 128, 168] then [92, 117, 50, 48, 50, 56] ++ scriptF n (l.drop 2)
    else if (b :: l).take 3 = [226, 128, 169] then [92, 117, 50, 48, 50, 57] ++ scriptF n (l.drop 2)
    else [b] ++ scriptF n l
def scripted (l : List UInt8) : List UInt8 := scriptF l.length l

theorem flatMap_snoc {f : UInt8 → List UInt8} (s : ByteArray) (k : Nat) (h : k < s.size) : (s.data.toList.take (k + 1)).flatMap f = (s.data.toList.take k).flatMap f ++ f s[k] := by
  rw [take_snoc s k h]; simp
theorem cat_eq (x l : List UInt8) : (ByteArray.mk x.toArray ++ ByteArray.mk l.toArray : ByteArray) = ⟨(x ++ l).toArray⟩ := by
  apply ByteArray.ext; simp
theorem extract_one (s : ByteArray) (k : Nat) (h : k < s.size) : s.extract k (k + 1) = ⟨[s[k]].toArray⟩ := by
  apply ByteArray.ext
  apply Array.ext
  · have : s.data.size = s.size := rfl
    simp; omega
  · intro i h1 h2
    simp at h2
    subst h2
    simp
    rfl
theorem step_cat {f : UInt8 → List UInt8} (s : ByteArray) (k : Nat) (h : k < s.size) (l : List UInt8) (hf : f s[k] = l) :
    (ByteArray.mk ((s.data.toList.take k).flatMap f).toArray ++ ByteArray.mk l.toArray : ByteArray) = ⟨((s.data.toList.take (k + 1)).flatMap f).toArray⟩ := by
  rw [cat_eq, flatMap_snoc s k h, hf]
theorem step_ext {f : UInt8 → List UInt8} (s : ByteArray) (k : Nat) (h : k < s.size) (hf : f s[k] = [s[k]]) :
    (ByteArray.mk ((s.data.toList.take k).flatMap f).toArray ++ s.extract k (k + 1) : ByteArray) = ⟨((s.data.toList.take (k + 1)).flatMap f).toArray⟩ := by
  rw [extract_one s k h, step_cat s k h _ hf]
theorem flatMap_len {f : UInt8 → List UInt8} (m : Nat) (hf : ∀ b, (f b).length ≤ m) (l : List UInt8) : (l.flatMap f).length ≤ m * l.length := by
  induction l with
  | nil => simp
  | cons b l ih =>
    have := hf b
    simp only [List.flatMap_cons, List.length_append, List.length_cons]
    rw [Nat.mul_add]; omega
theorem cond_len {m : Nat} {c : Bool} {x y : List UInt8} (hx : x.length ≤ m) (hy : y.length ≤ m) : (bif c then x else y).length ≤ m := by
  cases c <;> assumption
theorem textOf_len (b : UInt8) : (textOf b).length ≤ 6 := by
  unfold textOf
  repeat' apply cond_len
  all_goals simp
theorem linkOf_len (b : UInt8) : (linkOf b).length ≤ 6 := by
  unfold linkOf
  repeat' apply cond_len
  all_goals simp [two]
theorem styleOf_len (b : UInt8) : (styleOf b).length ≤ 6 := by
  have : (trim0 (two b loHex)).length ≤ 2 := by
    unfold trim0
    apply cond_len <;> simp [two]
  unfold styleOf
  apply cond_len
  · simp; omega
  · simp
theorem step_cat2 {f : UInt8 → List UInt8} (s : ByteArray) (k : Nat) (h : k < s.size) (l m : List UInt8) (hf : f s[k] = l ++ m) :
    (ByteArray.mk ((s.data.toList.take k).flatMap f).toArray ++ ByteArray.mk l.toArray ++ ByteArray.mk m.toArray : ByteArray) = ⟨((s.data.toList.take (k + 1)).flatMap f).toArray⟩ := by
  rw [cat_eq, cat_eq, flatMap_snoc s k h, hf, List.append_assoc]
theorem step_cat3 {f : UInt8 → List UInt8} (s : ByteArray) (k : Nat) (h : k < s.size) (l m n : List UInt8) (hf : f s[k] = l ++ (m ++ n)) :
    (ByteArray.mk ((s.data.toList.take k).flatMap f).toArray ++ ByteArray.mk l.toArray ++ ByteArray.mk m.toArray ++ ByteArray.mk n.toArray : ByteArray) = ⟨((s.data.toList.take (k + 1)).flatMap f).toArray⟩ := by
  rw [cat_eq, cat_eq, cat_eq, flatMap_snoc s k h, hf, List.append_assoc, List.append_assoc]
/-- the scheme of a link: how many bytes it has, with the colon -/
def letters : List UInt8 := [97, 98, 99, 100, 101, 102, 103, 104, 105, 106, 107, 108, 109, 110, 111, 112, 113, 114, 115, 116, 117, 118, 119, 120, 121, 122, 65, 66, 67, 68, 69, 70, 71, 72, 73, 74, 75, 76, 77, 78, 79, 80, 81, 82, 83, 84, 85, 86, 87, 88, 89, 90]
def digitsPlus : List UInt8 := [48, 49, 50, 51, 52, 53, 54, 55, 56, 57, 43, 45, 46]
/-- from a place on (the flag: it is behind the first byte) -/
def run (l : List UInt8) : Bool → Nat
  | later => match l with
    | [] => 0
    | b :: r => if among b letters || (later && among b digitsPlus) then run r true + 1 else 0
def schemed (l : List UInt8) : Nat := if run l false = 0 then 0 else if l[run l false]? = some 58 then run l false + 1 else 0
theorem two_len (b : UInt8) (l : List UInt8) : (two b l).length = 2 := rfl
theorem linkOf_yes {b : UInt8} (h : among b linkKept = true) : linkOf b = [b] := by simp [linkOf, h]
theorem linkOf_no {b : UInt8} (h : among b linkKept = false) : linkOf b = [37] ++ two b upHex := by simp [linkOf, h]
theorem styleOf_no {b : UInt8} (h : odd b = false) : styleOf b = [b] := by simp [styleOf, h]
theorem styleOf_yes {b : UInt8} (h : odd b = true) (x y : UInt8) (hxy : two b loHex = [x, y]) (hx : ((x.toNat : Int) == 48) = false) : styleOf b = [92] ++ ([x, y] ++ [32]) := by simp [styleOf, h, hxy, trim0, hx]
theorem styleOf_yes0 {b : UInt8} (h : odd b = true) (x y : UInt8) (hxy : two b loHex = [x, y]) (hx : ((x.toNat : Int) == 48) = true) : styleOf b = [92] ++ ([y] ++ [32]) := by simp [styleOf, h, hxy, trim0, hx]
theorem two_eq (b : UInt8) (all : ByteArray) (h1 : b.toNat / 16 < all.size) (h2 : b.toNat % 16 < all.size) : two b all.data.toList = [all[b.toNat / 16], all[b.toNat % 16]] := by
  have e : ∀ i (h : i < all.size), all.data.toList.getD i 0 = all[i] := by
    intro i h
    rw [List.getD_eq_getElem?_getD, List.getElem?_eq_getElem (by simpa using h)]
    rfl
  unfold two
  rw [e _ h1, e _ h2]
theorem take_len (s : ByteArray) (k : Nat) (hk : k ≤ s.size) : (s.data.toList.take k).length = k := by
  have : s.data.size = s.size := rfl
  simp; omega

end Go.Proofs.YtfkhljmiehdgmaaDoor.Pl
