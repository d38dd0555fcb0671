/-
  Plain laws on the cleaned value. No program is named here.
-/
import Derived.Test.YtfkhljmiehdgmaaDoorPlainC
import Derived.Test.YtfkhljmiehdgmaaDoorPlainD
import Derived.Lib.TrimU
namespace Go.Proofs.YtfkhljmiehdgmaaDoor.Pl
open Go.Lib (decodeL decodeN)

theorem getD_at (s : ByteArray) (k : Nat) (h : k < s.size) : s.data.toList.getD k 0 = s[k] := by
  rw [List.getD_eq_getElem?_getD, get_at s k h]; rfl
theorem len_eq (s : ByteArray) : s.data.toList.length = s.size := rfl
theorem charLen_le (l : List UInt8) : charLen l ≤ l.length := by
  unfold charLen
  by_cases h : l = []
  · rw [if_pos h]; omega
  rw [if_neg h]
  split
  · omega
  · exact Lib.decodeL_le l h

theorem charLen_zero (s : ByteArray) (h : s.size = 0) : charLen s.data.toList = 0 := by
  rw [charLen_N, len_eq, h]; rfl
theorem charLen_one (s : ByteArray) (h : 0 < s.size) (h0 : s[0].toNat < 128) : charLen s.data.toList = 1 := by
  rw [charLen_N, len_eq, getD_at s 0 h]; unfold charN; rw [if_neg (by omega), if_pos h0]
theorem charLen_two (s : ByteArray) (h : 1 < s.size) (h0 : 194 ≤ s[0].toNat) (h1 : s[0].toNat ≤ 223) : charLen s.data.toList = if 128 ≤ s[1].toNat ∧ s[1].toNat ≤ 191 then 2 else 0 := by
  rw [charLen_N, len_eq, getD_at s 0 (by omega), getD_at s 1 h]; unfold charN
  rw [if_neg (by omega), if_neg (by omega), if_pos (by omega)]
  by_cases c : 128 ≤ s[1].toNat ∧ s[1].toNat ≤ 191
  · rw [if_pos c, if_pos (by omega)]
  · rw [if_neg c, if_neg (by omega)]
theorem charLen_three (s : ByteArray) (h : 2 < s.size) (lo hi : Nat) (h0 : 224 ≤ s[0].toNat) (h1 : s[0].toNat ≤ 239) (hlh : (s[0].toNat ≤ 224 ∧ lo = 160 ∧ hi = 191) ∨ (225 ≤ s[0].toNat ∧ s[0].toNat ≤ 236 ∧ lo = 128 ∧ hi = 191) ∨ (237 ≤ s[0].toNat ∧ s[0].toNat ≤ 237 ∧ lo = 128 ∧ hi = 159) ∨ (238 ≤ s[0].toNat ∧ lo = 128 ∧ hi = 191)) :
    charLen s.data.toList = if lo ≤ s[1].toNat ∧ s[1].toNat ≤ hi ∧ 128 ≤ s[2].toNat ∧ s[2].toNat ≤ 191 then 3 else 0 := by
  rw [charLen_N, len_eq, getD_at s 0 (by omega), getD_at s 1 (by omega), getD_at s 2 h]; unfold charN
  rw [if_neg (by omega), if_neg (by omega), if_neg (by omega), if_pos (by omega)]
  by_cases c : lo ≤ s[1].toNat ∧ s[1].toNat ≤ hi ∧ 128 ≤ s[2].toNat ∧ s[2].toNat ≤ 191
  · rw [if_pos c, if_pos (by omega)]
  · rw [if_neg c, if_neg (by omega)]
theorem charLen_four (s : ByteArray) (h : 3 < s.size) (lo hi : Nat) (h0 : 240 ≤ s[0].toNat) (h1 : s[0].toNat ≤ 244) (hlh : (s[0].toNat ≤ 240 ∧ lo = 144 ∧ hi = 191) ∨ (241 ≤ s[0].toNat ∧ s[0].toNat ≤ 243 ∧ lo = 128 ∧ hi = 191) ∨ (244 ≤ s[0].toNat ∧ lo = 128 ∧ hi = 143)) :
    charLen s.data.toList = if lo ≤ s[1].toNat ∧ s[1].toNat ≤ hi ∧ (128 ≤ s[2].toNat ∧ s[2].toNat ≤ 191) ∧ 128 ≤ s[3].toNat ∧ s[3].toNat ≤ 191 then 4 else 0 := by
  rw [charLen_N, len_eq, getD_at s 0 (by omega), getD_at s 1 (by omega), getD_at s 2 (by omega), getD_at s 3 h]; unfold charN
  rw [if_neg (by omega), if_neg (by omega), if_neg (by omega), if_neg (by omega), if_pos (by omega)]
  by_cases c : lo ≤ s[1].toNat ∧ s[1].toNat ≤ hi ∧ (128 ≤ s[2].toNat ∧ s[2].toNat ≤ 191) ∧ 128 ≤ s[3].toNat ∧ s[3].toNat ≤ 191
  · rw [if_pos c, if_pos (by omega)]
  · rw [if_neg c, if_neg (by omega)]
theorem charLen_odd (s : ByteArray) (h : 0 < s.size) (h0 : (128 ≤ s[0].toNat ∧ s[0].toNat ≤ 193) ∨ 245 ≤ s[0].toNat) : charLen s.data.toList = 0 := by
  rw [charLen_N, len_eq, getD_at s 0 h]; unfold charN
  rw [if_neg (by omega), if_neg (by omega), if_neg (by omega), if_neg (by omega), if_neg (by omega)]
theorem charLen_short (s : ByteArray) (h : 0 < s.size) (h0 : (194 ≤ s[0].toNat ∧ s[0].toNat ≤ 223 ∧ s.size < 2) ∨ (224 ≤ s[0].toNat ∧ s[0].toNat ≤ 239 ∧ s.size < 3) ∨ (240 ≤ s[0].toNat ∧ s[0].toNat ≤ 244 ∧ s.size < 4)) : charLen s.data.toList = 0 := by
  rw [charLen_N, len_eq, getD_at s 0 h]; unfold charN
  rw [if_neg (by omega), if_neg (by omega)]
  split
  · rw [if_neg (by omega)]
  split
  · rw [if_neg (by omega)]
  split
  · rw [if_neg (by omega)]
  rfl

/-- the cleaned value, by so many steps at the most -/
def cleanF : Nat → List UInt8 → List UInt8
  | 0, _ => []
  | n + 1, l => if l = [] then [] else if charLen l = 0 ∨ l[0]? = some 0 then [239, 191, 189] ++ cleanF n (l.drop 1) else l.take (charLen l) ++ cleanF n (l.drop (charLen l))
def clean (l : List UInt8) : List UInt8 := cleanF l.length l

theorem cleanF_more : ∀ (n : Nat) (l : List UInt8), l.length ≤ n → cleanF n l = cleanF l.length l
  | 0, l, h => by
    have : l = [] := by simpa using h
    subst this; rfl
  | n + 1, [], _ => rfl
  | n + 1, b :: l, h => by
    simp only [List.length_cons] at h
    have h1 := cleanF_more n ((b :: l).drop 1) (by simp; omega)
    have h2 := cleanF_more l.length ((b :: l).drop 1) (by simp)
    by_cases c : charLen (b :: l) = 0
    · simp only [cleanF, List.length_cons, h1, h2, c, true_or, if_true]
    · have h3 := cleanF_more n ((b :: l).drop (charLen (b :: l))) (by simp; omega)
      have h4 := cleanF_more l.length ((b :: l).drop (charLen (b :: l))) (by simp; omega)
      simp only [cleanF, List.length_cons, h1, h2, h3, h4]
theorem clean_nil : clean [] = [] := rfl
theorem clean_bad (l : List UInt8) (hne : l ≠ []) (h : charLen l = 0 ∨ l[0]? = some 0) : clean l = [239, 191, 189] ++ clean (l.drop 1) := by
  match l, hne with
  | b :: l, _ =>
    unfold clean
    rw [List.length_cons, cleanF, if_neg (by simp), if_pos h, cleanF_more l.length _ (by simp)]
theorem clean_char (l : List UInt8) (hne : l ≠ []) (h : ¬ (charLen l = 0 ∨ l[0]? = some 0)) : clean l = l.take (charLen l) ++ clean (l.drop (charLen l)) := by
  match l, hne with
  | b :: l, _ =>
    unfold clean
    rw [List.length_cons, cleanF, if_neg (by simp), if_neg h, cleanF_more l.length _ (by simp; omega)]
theorem clean_len (l : List UInt8) : (clean l).length ≤ 3 * l.length := by
  unfold clean
  have : ∀ n l, (cleanF n l).length ≤ 3 * l.length := by
    intro n
    induction n with
    | zero => intro l; simp [cleanF]
    | succ n ih =>
      intro l
      rw [cleanF]
      split
      · simp
      rename_i hne
      have hp : 0 < l.length := List.length_pos_iff.2 hne
      split
      · have := ih (l.drop 1)
        simp only [List.length_append, List.length_cons, List.length_nil, List.length_drop] at this ⊢; omega
      · have := ih (l.drop (charLen l))
        have hc := charLen_le l
        simp only [List.length_append, List.length_take, List.length_drop] at this ⊢; omega
  exact this _ l
theorem clean_nil_at (s : ByteArray) (h : ¬ 0 < s.size) : clean s.data.toList = [] := by
  have : s.data.toList = [] := by
    have := drop_end s 0 h
    simpa using this
  rw [this]; rfl
theorem clean_bad_at (s : ByteArray) (hp : 0 < s.size) (h : charLen s.data.toList = 0 ∨ s[0].toNat = 0) : clean s.data.toList = [239, 191, 189] ++ clean (s.extract 1 s.size).data.toList := by
  have e : (s.extract 1 s.size).data.toList = s.data.toList.drop 1 := by
    rw [ByteArray.data_extract, Array.toList_extract, List.extract_eq_take_drop]
    apply List.take_of_length_le
    rw [List.length_drop, len_eq]; omega
  rw [e]
  refine clean_bad _ (fun q => ?_) ?_
  · have := len_eq s; rw [q] at this; simp at this; omega
  · rcases h with h | h
    · exact .inl h
    · right
      rw [get_at s 0 hp]
      exact congrArg some (UInt8.toNat_inj.1 (by simpa using h))
theorem clean_char_at (s : ByteArray) (hp : 0 < s.size) (h : charLen s.data.toList ≠ 0) (h0 : s[0].toNat ≠ 0) :
    clean s.data.toList = (s.extract 0 (charLen s.data.toList)).data.toList ++ clean (s.extract (charLen s.data.toList) s.size).data.toList := by
  have e : ∀ k, (s.extract k s.size).data.toList = s.data.toList.drop k := by
    intro k
    rw [ByteArray.data_extract, Array.toList_extract, List.extract_eq_take_drop]
    apply List.take_of_length_le
    rw [List.length_drop, len_eq]; omega
  have e2 : ∀ k, (s.extract 0 k).data.toList = s.data.toList.take k := by
    intro k
    rw [ByteArray.data_extract, Array.toList_extract, List.extract_eq_take_drop]; simp
  rw [e, e2]
  refine clean_char _ (fun q => ?_) ?_
  · have := len_eq s; rw [q] at this; simp at this; omega
  · rintro (q | q)
    · exact h q
    · rw [get_at s 0 hp] at q
      have := Option.some.inj q
      exact h0 (by rw [this]; rfl)

theorem cat_arr (x : List UInt8) (t : ByteArray) : (ByteArray.mk x.toArray ++ t : ByteArray) = ⟨(x ++ t.data.toList).toArray⟩ := by
  apply ByteArray.ext; simp

end Go.Proofs.YtfkhljmiehdgmaaDoor.Pl
