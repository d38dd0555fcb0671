/-
  Plain laws: what undoing the escapes of a place gives. No program is named here.
-/
import Derived.Test.YtfkhljmiehdgmaaDoorPlainP
namespace Go.Proofs.YtfkhljmiehdgmaaDoor.Pl

/- references -/
def refNames : List (List UInt8 × UInt8) := [([38, 97, 109, 112, 59], 38), ([38, 108, 116, 59], 60), ([38, 103, 116, 59], 62), ([38, 113, 117, 111, 116, 59], 34), ([38, 35, 51, 57, 59], 39)]
def refFits (l : List UInt8) (x : List UInt8 × UInt8) : Bool := x.1.isPrefixOf l
def refAt (l : List UInt8) : Option (List UInt8 × UInt8) := refNames.find? (refFits l)
def refsF : Nat → List UInt8 → List UInt8
  | 0, _ => []
  | _ + 1, [] => []
  | n + 1, b :: l => match refAt (b :: l) with
    | some x => x.2 :: refsF n (l.drop (x.1.length - 1))
    | none => b :: refsF n l
def refs (l : List UInt8) : List UInt8 := refsF l.length l

theorem refsF_more : ∀ (n : Nat) (l : List UInt8), l.length ≤ n → refsF n l = refsF l.length l
  | 0, l, h => by
    have : l = [] := by simpa using h
    subst this; rfl
  | n + 1, [], _ => rfl
  | n + 1, b :: l, h => by
    simp only [List.length_cons] at h
    have h1 := refsF_more n l (by omega)
    simp only [refsF, List.length_cons, h1]
    split
    · rename_i x _
      rw [refsF_more n (l.drop (x.1.length - 1)) (by rw [List.length_drop]; omega), ← refsF_more l.length (l.drop (x.1.length - 1)) (by rw [List.length_drop]; omega)]
    · rfl
theorem refs_nil : refs [] = [] := rfl
theorem refs_some (b : UInt8) (l : List UInt8) (x : List UInt8 × UInt8) (h : refAt (b :: l) = some x) : refs (b :: l) = x.2 :: refs (l.drop (x.1.length - 1)) := by
  show refsF (l.length + 1) (b :: l) = _
  rw [refsF, h]
  show x.2 :: refsF l.length _ = _
  rw [refsF_more l.length _ (by rw [List.length_drop]; omega)]; rfl
theorem refs_none (b : UInt8) (l : List UInt8) (h : refAt (b :: l) = none) : refs (b :: l) = b :: refs l := by
  show refsF (l.length + 1) (b :: l) = _
  rw [refsF, h]; rfl
theorem refAt_none (b : UInt8) (l : List UInt8) (h : b ≠ 38) : refAt (b :: l) = none := by
  have e : ((38 : UInt8) == b) = false := by simpa using fun q : (38 : UInt8) = b => h q.symm
  simp [refAt, refNames, refFits, List.find?, List.isPrefixOf, e]
theorem refs_texted : ∀ c : List UInt8, refs (texted c) = c
  | [] => rfl
  | b :: c => by
    have ih := refs_texted c
    have e : texted (b :: c) = textOf b ++ texted c := rfl
    rw [e, textOf_eq]
    by_cases h1 : b = 38
    · subst h1; rw [if_pos rfl]; exact (refs_some 38 _ ([38, 97, 109, 112, 59], 38) rfl).trans (by show 38 :: refs (texted c) = _; rw [ih])
    by_cases h2 : b = 60
    · subst h2; rw [if_neg h1, if_pos rfl]; exact (refs_some 38 _ ([38, 108, 116, 59], 60) rfl).trans (by show 60 :: refs (texted c) = _; rw [ih])
    by_cases h3 : b = 62
    · subst h3; rw [if_neg h1, if_neg h2, if_pos rfl]; exact (refs_some 38 _ ([38, 103, 116, 59], 62) rfl).trans (by show 62 :: refs (texted c) = _; rw [ih])
    by_cases h4 : b = 34
    · subst h4; rw [if_neg h1, if_neg h2, if_neg h3, if_pos rfl]; exact (refs_some 38 _ ([38, 113, 117, 111, 116, 59], 34) rfl).trans (by show 34 :: refs (texted c) = _; rw [ih])
    by_cases h5 : b = 39
    · subst h5; rw [if_neg h1, if_neg h2, if_neg h3, if_neg h4, if_pos rfl]; exact (refs_some 38 _ ([38, 35, 51, 57, 59], 39) rfl).trans (by show 39 :: refs (texted c) = _; rw [ih])
    rw [if_neg h1, if_neg h2, if_neg h3, if_neg h4, if_neg h5]
    exact (refs_none b _ (refAt_none b _ h1)).trans (by show b :: refs (texted c) = _; rw [ih])

/- digits of sixteen -/
def hexDig (b : UInt8) : Int := if 48 ≤ b.toNat ∧ b.toNat ≤ 57 then (b.toNat : Int) - 48 else if 97 ≤ b.toNat ∧ b.toNat ≤ 102 then (b.toNat : Int) - 97 + 10 else if 65 ≤ b.toNat ∧ b.toNat ≤ 70 then (b.toNat : Int) - 65 + 10 else -1
def hexVal : List UInt8 → Int → Int
  | [], n => n
  | b :: l, n => if hexDig b < 0 then -1 else hexVal l (16 * n + hexDig b)
/-- a number as a byte -/
def byteOf (n : Int) : UInt8 := UInt8.ofNat (n % 256).toNat

/- percents -/
def perF : Nat → List UInt8 → List UInt8
  | 0, _ => []
  | _ + 1, [] => []
  | n + 1, b :: l => if b = 37 ∧ 2 ≤ l.length then byteOf (hexVal (l.take 2) 0) :: perF n (l.drop 2) else b :: perF n l
def pers (l : List UInt8) : List UInt8 := perF l.length l
theorem perF_more : ∀ (n : Nat) (l : List UInt8), l.length ≤ n → perF n l = perF l.length l
  | 0, l, h => by
    have : l = [] := by simpa using h
    subst this; rfl
  | n + 1, [], _ => rfl
  | n + 1, b :: l, h => by
    simp only [List.length_cons] at h
    simp only [perF, List.length_cons, perF_more n l (by omega), perF_more n (l.drop 2) (by rw [List.length_drop]; omega), perF_more l.length (l.drop 2) (by rw [List.length_drop]; omega)]
theorem pers_cons (b : UInt8) (l : List UInt8) : pers (b :: l) = if b = 37 ∧ 2 ≤ l.length then byteOf (hexVal (l.take 2) 0) :: pers (l.drop 2) else b :: pers l := by
  show perF (l.length + 1) (b :: l) = _
  rw [perF, perF_more l.length (l.drop 2) (by rw [List.length_drop]; omega)]; rfl
theorem pers_plain : ∀ (p t : List UInt8), (∀ b ∈ p, b ≠ 37) → pers (p ++ t) = p ++ pers t
  | [], _, _ => rfl
  | b :: p, t, h => by
    rw [List.cons_append, pers_cons, if_neg (fun q => h b (by simp) q.1), pers_plain p t (fun x hx => h x (by simp [hx]))]; rfl
theorem hex_up (b : UInt8) : byteOf (hexVal (two b upHex) 0) = b := by
  have := all_u8 (fun b => byteOf (hexVal (two b upHex) 0) == b) (by decide +kernel) b
  simpa using this
theorem hex_lo (b : UInt8) : byteOf (hexVal (two b loHex) 0) = b := by
  have := all_u8 (fun b => byteOf (hexVal (two b loHex) 0) == b) (by decide +kernel) b
  simpa using this
theorem kept_not (b : UInt8) (h : among b linkKept = true) : b ≠ 37 := by
  rintro rfl; revert h; decide
theorem pers_linked : ∀ c : List UInt8, pers (linked c) = c
  | [] => rfl
  | b :: c => by
    have ih := pers_linked c
    have e : linked (b :: c) = linkOf b ++ linked c := rfl
    rw [e]
    by_cases h : among b linkKept = true
    · rw [linkOf_yes h, pers_plain [b] _ (by simpa using kept_not b h), ih]; rfl
    · rw [linkOf_no (by simpa using h)]
      show pers (37 :: (two b upHex ++ linked c)) = _
      rw [pers_cons, if_pos ⟨rfl, by simp [two]⟩]
      show byteOf (hexVal (two b upHex) 0) :: pers (linked c) = _
      rw [hex_up, ih]

/- the escapes of a script -/
def strF : Nat → List UInt8 → List UInt8
  | 0, _ => []
  | _ + 1, [] => []
  | n + 1, b :: l =>
    if b ≠ 92 ∨ l.length ≤ 2 then b :: strF n l
    else if l.getD 0 0 = 120 then byteOf (hexVal ((l.drop 1).take 2) 0) :: strF n (l.drop 3)
    else if 5 ≤ l.length ∧ l.take 4 = [117, 50, 48, 50] then 226 :: 128 :: (160 + l.getD 4 0 - 48) :: strF n (l.drop 5)
    else strF n l
def strs (l : List UInt8) : List UInt8 := strF l.length l
theorem strF_more : ∀ (n : Nat) (l : List UInt8), l.length ≤ n → strF n l = strF l.length l
  | 0, l, h => by
    have : l = [] := by simpa using h
    subst this; rfl
  | n + 1, [], _ => rfl
  | n + 1, b :: l, h => by
    simp only [List.length_cons] at h
    simp only [strF, List.length_cons, strF_more n l (by omega), strF_more n (l.drop 3) (by rw [List.length_drop]; omega), strF_more l.length (l.drop 3) (by rw [List.length_drop]; omega), strF_more n (l.drop 5) (by rw [List.length_drop]; omega), strF_more l.length (l.drop 5) (by rw [List.length_drop]; omega)]
theorem strs_cons (b : UInt8) (l : List UInt8) : strs (b :: l) = if b ≠ 92 ∨ l.length ≤ 2 then b :: strs l
    else if l.getD 0 0 = 120 then byteOf (hexVal ((l.drop 1).take 2) 0) :: strs (l.drop 3)
    else if 5 ≤ l.length ∧ l.take 4 = [117, 50, 48, 50] then 226 :: 128 :: (160 + l.getD 4 0 - 48) :: strs (l.drop 5)
    else strs l := by
  show strF (l.length + 1) (b :: l) = _
  rw [strF, strF_more l.length (l.drop 3) (by rw [List.length_drop]; omega), strF_more l.length (l.drop 5) (by rw [List.length_drop]; omega)]; rfl
theorem odd92 (b : UInt8) (h : (odd b || ((b.toNat : Int) == 96)) = false) : b ≠ 92 := by
  rintro rfl; revert h; decide
theorem strs_scripted (c : List UInt8) : strs (scripted c) = c := by
  induction h : c.length using Nat.strongRecOn generalizing c with
  | _ n ih =>
    match c, h with
    | [], _ => rfl
    | b :: l, h =>
      simp only [List.length_cons] at h
      have h1 := ih l.length (by omega) l rfl
      rw [scripted_cons]
      by_cases c1 : (odd b || ((b.toNat : Int) == 96)) = true
      · rw [if_pos c1]
        show strs (92 :: (120 :: (two b loHex ++ scripted l))) = _
        rw [strs_cons, if_neg (by simp [two]), if_pos (show List.getD ((120 : UInt8) :: (two b loHex ++ scripted l)) 0 0 = 120 from rfl)]
        show byteOf (hexVal (two b loHex) 0) :: strs (scripted l) = _
        rw [hex_lo, h1]
      rw [if_neg c1]
      have key : ∀ c d e : UInt8, (b :: l).take 3 = [c, d, e] → ∃ r, b :: l = c :: d :: e :: r := by
        intro c d e q
        match l, q with
        | y :: z :: r, q =>
          simp only [List.take_succ_cons, List.take_zero, List.cons.injEq, and_true] at q
          obtain ⟨rfl, rfl, rfl⟩ := q
          exact ⟨r, rfl⟩
      by_cases c2 : (b :: l).take 3 = [226, 128, 168]
      · rw [if_pos c2]
        obtain ⟨r, e⟩ := key _ _ _ c2
        cases e
        have h2 := ih r.length (by simp at h; omega) r rfl
        show strs (92 :: (117 :: 50 :: 48 :: 50 :: 56 :: scripted r)) = _
        rw [strs_cons, if_neg (by simp), if_neg (by simp), if_pos ⟨by simp, rfl⟩]
        show 226 :: 128 :: (160 + 56 - 48 : UInt8) :: strs (scripted r) = _
        rw [h2, show (160 + 56 - 48 : UInt8) = 168 by decide]
      rw [if_neg c2]
      by_cases c3 : (b :: l).take 3 = [226, 128, 169]
      · rw [if_pos c3]
        obtain ⟨r, e⟩ := key _ _ _ c3
        cases e
        have h2 := ih r.length (by simp at h; omega) r rfl
        show strs (92 :: (117 :: 50 :: 48 :: 50 :: 57 :: scripted r)) = _
        rw [strs_cons, if_neg (by simp), if_neg (by simp), if_pos ⟨by simp, rfl⟩]
        show 226 :: 128 :: (160 + 57 - 48 : UInt8) :: strs (scripted r) = _
        rw [h2, show (160 + 57 - 48 : UInt8) = 169 by decide]
      rw [if_neg c3]
      show strs (b :: scripted l) = _
      rw [strs_cons, if_pos (.inl (odd92 b (by simpa using c1))), h1]

end Go.Proofs.YtfkhljmiehdgmaaDoor.Pl
