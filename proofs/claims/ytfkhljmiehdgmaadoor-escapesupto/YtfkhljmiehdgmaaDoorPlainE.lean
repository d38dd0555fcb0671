/-
  Plain laws on what a script's string holds. No program is named here.
-/
import Derived.Test.YtfkhljmiehdgmaaDoorPlainD
namespace Go.Proofs.YtfkhljmiehdgmaaDoor.Pl

theorem scriptF_more : ∀ (n : Nat) (l : List UInt8), l.length ≤ n → scriptF n l = scriptF l.length l
  | 0, [], _ => rfl
  | n + 1, [], _ => rfl
  | n + 1, b :: l, h => by
    simp only [List.length_cons] at h
    have h1 := scriptF_more n l (by omega)
    have h2 := scriptF_more n (l.drop 2) (by simp; omega)
    have h3 := scriptF_more l.length (l.drop 2) (by simp)
    simp only [scriptF, List.length_cons, h1, h2, h3]
theorem scripted_nil : scripted [] = [] := rfl
theorem scripted_cons (b : UInt8) (l : List UInt8) : scripted (b :: l) = if (odd b || ((b.toNat : Int) == 96)) = true then [92, 120] ++ two b loHex ++ scripted l
    else if (b :: l).take 3 = [226, 128, 168] then [92, 117, 50, 48, 50, 56] ++ scripted (l.drop 2)
    else if (b :: l).take 3 = [226, 128, 169] then [92, 117, 50, 48, 50, 57] ++ scripted (l.drop 2)
    else [b] ++ scripted l := by
  have h3 := scriptF_more l.length (l.drop 2) (by simp)
  unfold scripted
  simp only [scriptF, List.length_cons, h3]
theorem take3 (s : ByteArray) (k : Nat) : (s.data.toList.drop k).take 3 = (s.extract k (k + 3)).data.toList := by
  rw [ByteArray.data_extract, Array.toList_extract, List.extract_eq_take_drop]
  congr 1; omega
theorem scriptF_len : ∀ (n : Nat) (l : List UInt8), (scriptF n l).length ≤ 6 * n
  | 0, _ => by simp [scriptF]
  | n + 1, [] => by simp [scriptF]
  | n + 1, b :: l => by
    have h1 := scriptF_len n l
    have h2 := scriptF_len n (l.drop 2)
    simp only [scriptF]
    repeat' split
    all_goals simp only [List.length_append, List.length_cons, List.length_nil, two]
    all_goals omega
theorem scripted_len (l : List UInt8) : (scripted l).length ≤ 6 * l.length := scriptF_len _ l
theorem esc_at (s : ByteArray) (k : Nat) (h : k < s.size) (x : List UInt8) (hx : x ++ scripted (s.data.toList.drop k) = scripted s.data.toList) (ho : (odd s[k] || ((s[k].toNat : Int) == 96)) = true) :
    (x ++ [92, 120] ++ two s[k] loHex) ++ scripted (s.data.toList.drop (k + 1)) = scripted s.data.toList := by
  rw [← hx, drop_at s k h, scripted_cons, if_pos ho]; simp
theorem sep_at (s : ByteArray) (k : Nat) (h : k < s.size) (x : List UInt8) (hx : x ++ scripted (s.data.toList.drop k) = scripted s.data.toList) (ho : (odd s[k] || ((s[k].toNat : Int) == 96)) = false)
    (he : s.extract k (k + 3) = ⟨#[226, 128, 168]⟩) :
    (x ++ [92, 117, 50, 48, 50, 56]) ++ scripted (s.data.toList.drop (k + 3)) = scripted s.data.toList := by
  have e := take3 s k
  rw [he] at e
  rw [← hx, drop_at s k h, scripted_cons, if_neg (by simp [ho]), ← drop_at s k h, if_pos e, List.drop_drop]; simp
theorem par_at (s : ByteArray) (k : Nat) (h : k < s.size) (x : List UInt8) (hx : x ++ scripted (s.data.toList.drop k) = scripted s.data.toList) (ho : (odd s[k] || ((s[k].toNat : Int) == 96)) = false)
    (he : s.extract k (k + 3) = ⟨#[226, 128, 169]⟩) :
    (x ++ [92, 117, 50, 48, 50, 57]) ++ scripted (s.data.toList.drop (k + 3)) = scripted s.data.toList := by
  have e := take3 s k
  rw [he] at e
  rw [← hx, drop_at s k h, scripted_cons, if_neg (by simp [ho]), ← drop_at s k h, if_neg (by rw [e]; decide), if_pos e, List.drop_drop]; simp
theorem plain_at (s : ByteArray) (k : Nat) (h : k < s.size) (x : List UInt8) (hx : x ++ scripted (s.data.toList.drop k) = scripted s.data.toList) (ho : (odd s[k] || ((s[k].toNat : Int) == 96)) = false)
    (h8 : k + 2 < s.size → s.extract k (k + 3) ≠ ⟨#[226, 128, 168]⟩) (h9 : k + 2 < s.size → s.extract k (k + 3) ≠ ⟨#[226, 128, 169]⟩) :
    (x ++ [s[k]]) ++ scripted (s.data.toList.drop (k + 1)) = scripted s.data.toList := by
  have e := take3 s k
  have hl : k + 2 < s.size ∨ (s.extract k (k + 3)).data.toList.length < 3 := by
    by_cases c : k + 2 < s.size
    · exact .inl c
    · right
      rw [← e]
      have : s.data.size = s.size := rfl
      simp; omega
  have n8 : (s.data.toList.drop k).take 3 ≠ [226, 128, 168] := by
    intro q
    rw [e] at q
    rcases hl with c | c
    · exact h8 c (ByteArray.ext (Array.toList_inj.1 q))
    · rw [q] at c; simp at c
  have n9 : (s.data.toList.drop k).take 3 ≠ [226, 128, 169] := by
    intro q
    rw [e] at q
    rcases hl with c | c
    · exact h9 c (ByteArray.ext (Array.toList_inj.1 q))
    · rw [q] at c; simp at c
  rw [← hx, drop_at s k h, scripted_cons, if_neg (by simp [ho]), ← drop_at s k h, if_neg n8, if_neg n9]; simp

end Go.Proofs.YtfkhljmiehdgmaaDoor.Pl
