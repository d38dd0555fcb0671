/-
  Plain: what the program's table-driven way of writing comes to, piece by piece. No program is named here.
-/
import Derived.Test.YtfkhljmiehdgmaaDoorPlainL
namespace Go.Proofs.YtfkhljmiehdgmaaDoor.Pl

/-- what a text without a beginning of its own is written as -/
def encOf (kd : Int) (l : List UInt8) : List UInt8 :=
  bif kd == 1 then texted l else bif kd == 3 then linked l else bif kd == 4 then scripted l else styled l

theorem enc_nil (kd : Int) : encOf kd [] = [] := by
  unfold encOf
  cases kd == 1 <;> cases kd == 3 <;> cases kd == 4 <;> rfl

theorem fits_no (kd : Int) (l : List UInt8) (h1 : kd ≠ 1) (h4 : kd ≠ 4) : swapOf kd l = ([], []) := by
  have e1 : ((1 : Int) == kd) = false := beq_eq_false_iff_ne.2 (by omega)
  have e4 : ((4 : Int) == kd) = false := beq_eq_false_iff_ne.2 (by omega)
  simp [swapOf, swapTab, fits, List.find?, e1, e4]
theorem swap1 (b : UInt8) (l : List UInt8) : swapOf 1 (b :: l) = if b = 38 then ([38], [38, 97, 109, 112, 59]) else if b = 60 then ([60], [38, 108, 116, 59]) else if b = 62 then ([62], [38, 103, 116, 59]) else if b = 34 then ([34], [38, 113, 117, 111, 116, 59]) else if b = 39 then ([39], [38, 35, 51, 57, 59]) else ([], []) := by
  have e : ∀ x : UInt8, List.isPrefixOf [x] (b :: l) = (x == b) := by intro x; simp [List.isPrefixOf]
  have f : ∀ x : UInt8, (x == b) = decide (b = x) := by
    intro x; rw [Bool.eq_iff_iff, beq_iff_eq, decide_eq_true_eq]; exact eq_comm
  have e4 : ((4 : Int) == 1) = false := rfl
  unfold swapOf swapTab fits
  simp only [List.find?, e, e4, f, Bool.false_and, beq_self_eq_true, Bool.true_and]
  by_cases h1 : b = 38
  · simp [h1]
  by_cases h2 : b = 60
  · simp [h2]
  by_cases h3 : b = 62
  · simp [h3]
  by_cases h5 : b = 34
  · simp [h5]
  by_cases h6 : b = 39
  · simp [h6]
  simp [h1, h2, h3, h5, h6]
theorem textOf_eq (b : UInt8) : textOf b = if b = 38 then [38, 97, 109, 112, 59] else if b = 60 then [38, 108, 116, 59] else if b = 62 then [38, 103, 116, 59] else if b = 34 then [38, 113, 117, 111, 116, 59] else if b = 39 then [38, 35, 51, 57, 59] else [b] := by
  have := all_u8 (fun b => decide (textOf b = if b = 38 then [38, 97, 109, 112, 59] else if b = 60 then [38, 108, 116, 59] else if b = 62 then [38, 103, 116, 59] else if b = 34 then [38, 113, 117, 111, 116, 59] else if b = 39 then [38, 35, 51, 57, 59] else [b])) (by decide +kernel) b
  simpa using this
theorem prefix_take : ∀ (p l : List UInt8), List.isPrefixOf p l = decide (l.take p.length = p)
  | [], l => by simp
  | a :: p, [] => by simp
  | a :: p, b :: l => by
    have ih := prefix_take p l
    rw [List.isPrefixOf, ih, Bool.eq_iff_iff]
    simp only [Bool.and_eq_true, beq_iff_eq, decide_eq_true_eq, List.length_cons, List.take_succ_cons, List.cons.injEq]
    constructor
    · rintro ⟨h, h'⟩; exact ⟨h.symm, h'⟩
    · rintro ⟨h, h'⟩; exact ⟨h.symm, h'⟩
theorem swap4 (l : List UInt8) : swapOf 4 l = if l.take 3 = [226, 128, 168] then ([226, 128, 168], [92, 117, 50, 48, 50, 56]) else if l.take 3 = [226, 128, 169] then ([226, 128, 169], [92, 117, 50, 48, 50, 57]) else ([], []) := by
  have e1 : ((1 : Int) == 4) = false := rfl
  unfold swapOf swapTab fits
  simp only [List.find?, e1, prefix_take, Bool.false_and, beq_self_eq_true, Bool.true_and, List.length_cons, List.length_nil]
  by_cases h1 : l.take 3 = [226, 128, 168]
  · simp [h1]
  by_cases h2 : l.take 3 = [226, 128, 169]
  · simp [h2]
  simp [h1, h2]
theorem esc4 (b : UInt8) : (odd b || ((b.toNat : Int) == 96)) = coded 4 b := by
  have := all_u8 (fun b => (odd b || ((b.toNat : Int) == 96)) == coded 4 b) (by decide +kernel) b
  simpa using this

/-- a swap at the head -/
theorem enc_swap (kd : Int) (hk : kd = 1 ∨ kd = 3 ∨ kd = 4 ∨ kd = 5) (l f t : List UInt8) (h : swapOf kd l = (f, t)) (hf : f ≠ []) :
    encOf kd l = t ++ encOf kd (l.drop f.length) ∧ f.length ≤ l.length ∧ t.length ≤ 6 * f.length := by
  rcases hk with rfl | rfl | rfl | rfl
  · match l with
    | [] =>
      have e : swapOf 1 [] = ([], []) := by decide
      rw [e] at h; cases h; exact absurd rfl hf
    | b :: l =>
      rw [swap1] at h
      show texted (b :: l) = t ++ texted _ ∧ _
      have e : texted (b :: l) = textOf b ++ texted l := rfl
      rw [e, textOf_eq]
      by_cases h1 : b = 38
      · rw [if_pos h1] at h ⊢; cases h; exact ⟨rfl, by simp, by simp⟩
      by_cases h2 : b = 60
      · rw [if_neg h1, if_pos h2] at h ⊢; cases h; exact ⟨rfl, by simp, by simp⟩
      by_cases h3 : b = 62
      · rw [if_neg h1, if_neg h2, if_pos h3] at h ⊢; cases h; exact ⟨rfl, by simp, by simp⟩
      by_cases h4 : b = 34
      · rw [if_neg h1, if_neg h2, if_neg h3, if_pos h4] at h ⊢; cases h; exact ⟨rfl, by simp, by simp⟩
      by_cases h5 : b = 39
      · rw [if_neg h1, if_neg h2, if_neg h3, if_neg h4, if_pos h5] at h ⊢; cases h; exact ⟨rfl, by simp, by simp⟩
      rw [if_neg h1, if_neg h2, if_neg h3, if_neg h4, if_neg h5] at h
      cases h; exact absurd rfl hf
  · rw [fits_no 3 l (by omega) (by omega)] at h; cases h; exact absurd rfl hf
  · rw [swap4] at h
    show scripted l = t ++ scripted _ ∧ _
    have key : ∀ c d e : UInt8, l.take 3 = [c, d, e] → ∃ r, l = c :: d :: e :: r := by
      intro c d e q
      match l, q with
      | x :: y :: z :: r, q =>
        simp only [List.take_succ_cons, List.take_zero, List.cons.injEq, and_true] at q
        obtain ⟨rfl, rfl, rfl⟩ := q
        exact ⟨r, rfl⟩
    by_cases h1 : l.take 3 = [226, 128, 168]
    · rw [if_pos h1] at h; cases h
      obtain ⟨r, rfl⟩ := key _ _ _ h1
      refine ⟨?_, by simp, by simp⟩
      rw [scripted_cons, if_neg (by decide), if_pos (show List.take 3 (226 :: 128 :: 168 :: r) = [226, 128, 168] from rfl)]; rfl
    by_cases h2 : l.take 3 = [226, 128, 169]
    · rw [if_neg h1, if_pos h2] at h; cases h
      obtain ⟨r, rfl⟩ := key _ _ _ h2
      refine ⟨?_, by simp, by simp⟩
      rw [scripted_cons, if_neg (by decide), if_neg (by simp), if_pos (show List.take 3 (226 :: 128 :: 169 :: r) = [226, 128, 169] from rfl)]; rfl
    rw [if_neg h1, if_neg h2] at h; cases h; exact absurd rfl hf
  · rw [fits_no 5 l (by omega) (by omega)] at h; cases h; exact absurd rfl hf

/-- no swap at the head -/
theorem enc_byte (kd : Int) (hk : kd = 1 ∨ kd = 3 ∨ kd = 4 ∨ kd = 5) (b : UInt8) (l t : List UInt8) (h : swapOf kd (b :: l) = ([], t)) :
    encOf kd (b :: l) = (if coded kd b = true then codeOf kd b else [b]) ++ encOf kd l := by
  rcases hk with rfl | rfl | rfl | rfl
  · rw [swap1] at h
    show texted (b :: l) = _ ++ texted l
    rw [coded1, if_neg (by simp)]
    have e : texted (b :: l) = textOf b ++ texted l := rfl
    rw [e, textOf_eq]
    by_cases h1 : b = 38
    · rw [if_pos h1] at h; cases h
    by_cases h2 : b = 60
    · rw [if_neg h1, if_pos h2] at h; cases h
    by_cases h3 : b = 62
    · rw [if_neg h1, if_neg h2, if_pos h3] at h; cases h
    by_cases h4 : b = 34
    · rw [if_neg h1, if_neg h2, if_neg h3, if_pos h4] at h; cases h
    by_cases h5 : b = 39
    · rw [if_neg h1, if_neg h2, if_neg h3, if_neg h4, if_pos h5] at h; cases h
    rw [if_neg h1, if_neg h2, if_neg h3, if_neg h4, if_neg h5]
  · show linkOf b ++ linked l = _ ++ linked l
    rw [coded3, code3]
    by_cases h1 : among b linkKept = true
    · rw [linkOf_yes h1, h1, if_neg (by simp)]
    · have h1 : among b linkKept = false := by simpa using h1
      rw [linkOf_no h1, h1]; rfl
  · show scripted (b :: l) = _ ++ scripted l
    rw [scripted_cons, esc4]
    by_cases h1 : coded 4 b = true
    · rw [if_pos h1, if_pos h1, code4]
    · rw [swap4] at h
      by_cases h2 : (b :: l).take 3 = [226, 128, 168]
      · rw [if_pos h2] at h; cases h
      by_cases h3 : (b :: l).take 3 = [226, 128, 169]
      · rw [if_neg h2, if_pos h3] at h; cases h
      rw [if_neg h1, if_neg h1, if_neg h2, if_neg h3]
  · show styleOf b ++ styled l = _ ++ styled l
    rw [show coded 5 b = odd b from rfl, code5]
    unfold styleOf
    cases odd b <;> rfl

end Go.Proofs.YtfkhljmiehdgmaaDoor.Pl
