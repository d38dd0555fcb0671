/-
  Plain laws: which reference stands at a place. No program is named here.
-/
import Derived.Test.YtfkhljmiehdgmaaDoorPlainR
import Derived.Laws.Strings
namespace Go.Proofs.YtfkhljmiehdgmaaDoor.Pl

theorem take_ext (s : ByteArray) (k n : Nat) : (s.data.toList.drop k).take n = (s.extract k (k + n)).data.toList := by
  rw [ByteArray.data_extract, Array.toList_extract, List.extract_eq_take_drop]
  congr 1; omega
theorem ref_yes (s : ByteArray) (k n : Nat) (x : List UInt8 × UInt8) (hn : x.1.length = n) (he : ((s.extract k (k + n)).toList == x.1) = true) : refFits (s.data.toList.drop k) x = true := by
  rw [beq_iff_eq, ByteArray.toList_eq] at he
  unfold refFits
  rw [prefix_take, hn, take_ext, he]; simp
theorem ref_no (s : ByteArray) (k n : Nat) (x : List UInt8 × UInt8) (hn : x.1.length = n) (he : ((s.extract k (k + n)).toList == x.1) = false) : refFits (s.data.toList.drop k) x = false := by
  rw [beq_eq_false_iff_ne, ByteArray.toList_eq] at he
  unfold refFits
  rw [prefix_take, hn, take_ext]; simpa using he
theorem ref_short (s : ByteArray) (k n : Nat) (x : List UInt8 × UInt8) (hn : x.1.length = n) (hs : s.size < k + n) (h0 : 0 < n) : refFits (s.data.toList.drop k) x = false := by
  unfold refFits
  rw [prefix_take, decide_eq_false_iff_not]
  intro q
  have := congrArg List.length q
  rw [List.length_take, List.length_drop, len_eq] at this; omega
theorem ref_snoc (l : List UInt8) (q : Nat) (x : List UInt8 × UInt8) (hx : refNames[q]? = some x) (hn : (refNames.take q).find? (refFits l) = none) (hf : refFits l x = false) : (refNames.take (q + 1)).find? (refFits l) = none := by
  have hk : q < refNames.length := (List.getElem?_eq_some_iff.1 hx).1
  rw [List.take_succ_eq_append_getElem hk, List.find?_append, hn]
  have : refNames[q] = x := by
    rw [List.getElem?_eq_getElem hk] at hx; exact Option.some.inj hx
  rw [this]; simp [List.find?, hf]
theorem ref_here (l : List UInt8) (q : Nat) (x : List UInt8 × UInt8) (hx : refNames[q]? = some x) (hn : (refNames.take q).find? (refFits l) = none) (hf : refFits l x = true) : refAt l = some x := by
  have hk : q < refNames.length := (List.getElem?_eq_some_iff.1 hx).1
  have e : refNames[q] = x := by
    rw [List.getElem?_eq_getElem hk] at hx; exact Option.some.inj hx
  have h : refNames = refNames.take q ++ x :: refNames.drop (q + 1) := by
    rw [← e, ← List.drop_eq_getElem_cons hk, List.take_append_drop]
  unfold refAt
  rw [h, List.find?_append, hn]
  simp [List.find?, hf]
theorem ref_over (l : List UInt8) (hn : (refNames.take 5).find? (refFits l) = none) : refAt l = none := by
  unfold refAt
  rw [show refNames = refNames.take 5 from rfl, hn]
theorem refs_step (s : ByteArray) (k n : Nat) (h : k < s.size) (x : List UInt8 × UInt8) (hn : x.1.length = n) (h0 : 0 < n) (ha : refAt (s.data.toList.drop k) = some x) : refs (s.data.toList.drop k) = x.2 :: refs (s.data.toList.drop (k + n)) := by
  rw [drop_at s k h] at ha ⊢
  rw [refs_some _ _ x ha, List.drop_drop, hn, show k + 1 + (n - 1) = k + n by omega]
theorem refs_other (s : ByteArray) (k : Nat) (h : k < s.size) (ha : refAt (s.data.toList.drop k) = none) : refs (s.data.toList.drop k) = s[k] :: refs (s.data.toList.drop (k + 1)) := by
  rw [drop_at s k h] at ha ⊢
  exact refs_none _ _ ha

end Go.Proofs.YtfkhljmiehdgmaaDoor.Pl
