/-
  Plain laws on the cleaned value: cleaning twice is cleaning once; no byte 0; not shorter. No program is named here.
-/
import Derived.Test.YtfkhljmiehdgmaaDoorPlainN
namespace Go.Proofs.YtfkhljmiehdgmaaDoor.Pl

/-- a piece that is one character, and no 0: behind it whatever may stand -/
def Piece (p : List UInt8) : Prop := p ≠ [] ∧ p[0]? ≠ some 0 ∧ ∀ t, charLen (p ++ t) = p.length

theorem piece_bad : Piece [239, 191, 189] := by
  refine ⟨by simp, by decide, fun t => ?_⟩
  rw [charLen_N]
  simp only [List.cons_append, List.nil_append, List.length_cons, List.getD_cons_zero, List.getD_cons_succ, List.length_nil]
  unfold charN
  rw [if_neg (by omega), if_neg (by decide), if_neg (by decide), if_pos (by decide), if_pos ⟨by omega, by decide⟩]

theorem charN_cases (n b0 b1 b2 b3 : Nat) : (charN n b0 b1 b2 b3 = 0) ∨ (charN n b0 b1 b2 b3 = 1 ∧ n ≠ 0 ∧ b0 < 128) ∨
    (charN n b0 b1 b2 b3 = 2 ∧ 2 ≤ n ∧ (194 ≤ b0 ∧ b0 ≤ 223) ∧ 128 ≤ b1 ∧ b1 ≤ 191) ∨
    (charN n b0 b1 b2 b3 = 3 ∧ 3 ≤ n ∧ (224 ≤ b0 ∧ b0 ≤ 239) ∧ ((b0 ≤ 224 → 160 ≤ b1) ∧ 128 ≤ b1) ∧ ((b0 = 237 → b1 ≤ 159) ∧ b1 ≤ 191) ∧ 128 ≤ b2 ∧ b2 ≤ 191) ∨
    (charN n b0 b1 b2 b3 = 4 ∧ 4 ≤ n ∧ (240 ≤ b0 ∧ b0 ≤ 244) ∧ ((b0 ≤ 240 → 144 ≤ b1) ∧ 128 ≤ b1) ∧ ((244 ≤ b0 → b1 ≤ 143) ∧ b1 ≤ 191) ∧ (128 ≤ b2 ∧ b2 ≤ 191) ∧ 128 ≤ b3 ∧ b3 ≤ 191) := by
  unfold charN
  by_cases h0 : n = 0
  · left; rw [if_pos h0]
  rw [if_neg h0]
  by_cases h1 : b0 < 128
  · right; left; rw [if_pos h1]; exact ⟨rfl, h0, h1⟩
  rw [if_neg h1]
  by_cases h2 : 194 ≤ b0 ∧ b0 ≤ 223
  · rw [if_pos h2]
    by_cases c : 2 ≤ n ∧ 128 ≤ b1 ∧ b1 ≤ 191
    · rw [if_pos c]; exact .inr (.inr (.inl ⟨rfl, c.1, h2, c.2⟩))
    · rw [if_neg c]; exact .inl rfl
  rw [if_neg h2]
  by_cases h3 : 224 ≤ b0 ∧ b0 ≤ 239
  · rw [if_pos h3]
    by_cases c : 3 ≤ n ∧ ((b0 ≤ 224 → 160 ≤ b1) ∧ 128 ≤ b1) ∧ ((b0 = 237 → b1 ≤ 159) ∧ b1 ≤ 191) ∧ 128 ≤ b2 ∧ b2 ≤ 191
    · rw [if_pos c]; exact .inr (.inr (.inr (.inl ⟨rfl, c.1, h3, c.2⟩)))
    · rw [if_neg c]; exact .inl rfl
  rw [if_neg h3]
  by_cases h4 : 240 ≤ b0 ∧ b0 ≤ 244
  · rw [if_pos h4]
    by_cases c : 4 ≤ n ∧ ((b0 ≤ 240 → 144 ≤ b1) ∧ 128 ≤ b1) ∧ ((244 ≤ b0 → b1 ≤ 143) ∧ b1 ≤ 191) ∧ (128 ≤ b2 ∧ b2 ≤ 191) ∧ 128 ≤ b3 ∧ b3 ≤ 191
    · rw [if_pos c]; exact .inr (.inr (.inr (.inr ⟨rfl, c.1, h4, c.2⟩)))
    · rw [if_neg c]; exact .inl rfl
  rw [if_neg h4]; exact .inl rfl

theorem piece_char (l : List UInt8) (h : charLen l ≠ 0) (h0 : l[0]? ≠ some 0) : Piece (l.take (charLen l)) := by
  have hle := charLen_le l
  have hN := charLen_N l
  have hc := charN_cases l.length (l.getD 0 0).toNat (l.getD 1 0).toNat (l.getD 2 0).toNat (l.getD 3 0).toNat
  rw [← hN] at hc
  have hp : 0 < charLen l := by omega
  refine ⟨?_, ?_, ?_⟩
  · intro q
    have := congrArg List.length q
    rw [List.length_take, List.length_nil] at this; omega
  · rw [List.getElem?_take, if_pos hp]; exact h0
  · intro t
    have hl : (l.take (charLen l)).length = charLen l := by rw [List.length_take]; omega
    rw [hl, charLen_N]
    have g : ∀ i, i < charLen l → (l.take (charLen l) ++ t).getD i 0 = l.getD i 0 := by
      intro i hi
      rw [List.getD_eq_getElem?_getD, List.getD_eq_getElem?_getD, List.getElem?_append_left (by omega), List.getElem?_take, if_pos hi]
    have hlen : charLen l ≤ (l.take (charLen l) ++ t).length := by rw [List.length_append, hl]; omega
    generalize (l.take (charLen l) ++ t).length = m at hlen
    rcases hc with hc | ⟨hc, _, c1⟩ | ⟨hc, _, c1, c2⟩ | ⟨hc, _, c1, c2, c3, c4⟩ | ⟨hc, _, c1, c2, c3, c4, c5⟩
    · omega
    · rw [g 0 (by omega)]
      unfold charN
      rw [if_neg (by omega), if_pos c1, hc]
    · rw [g 0 (by omega), g 1 (by omega)]
      unfold charN
      rw [if_neg (by omega), if_neg (by omega), if_pos c1, if_pos ⟨by omega, c2⟩, hc]
    · rw [g 0 (by omega), g 1 (by omega), g 2 (by omega)]
      unfold charN
      rw [if_neg (by omega), if_neg (by omega), if_neg (by omega), if_pos c1, if_pos ⟨by omega, c2, c3, c4⟩, hc]
    · rw [g 0 (by omega), g 1 (by omega), g 2 (by omega), g 3 (by omega)]
      unfold charN
      rw [if_neg (by omega), if_neg (by omega), if_neg (by omega), if_neg (by omega), if_pos c1, if_pos ⟨by omega, c2, c3, c4, c5⟩, hc]

theorem clean_piece (p t : List UInt8) (hp : Piece p) : clean (p ++ t) = p ++ clean t := by
  obtain ⟨h1, h2, h3⟩ := hp
  have hl : 0 < p.length := List.length_pos_iff.2 h1
  rw [clean_char (p ++ t) (by simp [h1]) (by
    rintro (q | q)
    · rw [h3] at q; omega
    · rw [List.getElem?_append_left hl] at q; exact h2 q)]
  rw [h3, List.take_left, List.drop_left]

/-- every cleaned value is a row of pieces -/
theorem clean_split (l : List UInt8) (hne : l ≠ []) : ∃ p r, Piece p ∧ r.length < l.length ∧ clean l = p ++ clean r ∧ l.length ≤ p.length + r.length := by
  have hl : 0 < l.length := List.length_pos_iff.2 hne
  by_cases h : charLen l = 0 ∨ l[0]? = some 0
  · exact ⟨_, l.drop 1, piece_bad, by rw [List.length_drop]; omega, clean_bad l hne h, by rw [List.length_drop]; simp; omega⟩
  · have h1 : charLen l ≠ 0 := fun q => h (.inl q)
    have hle := charLen_le l
    exact ⟨_, l.drop (charLen l), piece_char l h1 (fun q => h (.inr q)), by rw [List.length_drop]; omega, clean_char l hne h, by rw [List.length_drop, List.length_take]; omega⟩
theorem clean_ind {Q : List UInt8 → Prop} (h0 : Q []) (h1 : ∀ p l, Piece p → Q (clean l) → Q (p ++ clean l)) (l : List UInt8) : Q (clean l) := by
  induction h : l.length using Nat.strongRecOn generalizing l with
  | _ n ih =>
    by_cases hne : l = []
    · subst hne; exact h0
    · obtain ⟨p, r, hp, hr, e, _⟩ := clean_split l hne
      rw [e]
      exact h1 p r hp (ih r.length (by omega) r rfl)
theorem clean_idem (l : List UInt8) : clean (clean l) = clean l :=
  clean_ind (Q := fun c => clean c = c) rfl (fun p l hp ih => by
    show clean (p ++ clean l) = p ++ clean l
    rw [clean_piece p _ hp, ih]) l
theorem clean_longer (l : List UInt8) : l.length ≤ (clean l).length := by
  induction h : l.length using Nat.strongRecOn generalizing l with
  | _ n ih =>
    by_cases hne : l = []
    · subst hne; simp at h; omega
    · obtain ⟨p, r, hp, hr, e, hle⟩ := clean_split l hne
      have := ih r.length (by omega) r rfl
      rw [e, List.length_append]; omega
/-- a byte behind the first one of a piece is 128 or more -/
theorem piece_no0 (p : List UInt8) (hp : Piece p) : (0 : UInt8) ∉ p := by
  obtain ⟨h1, h2, h3⟩ := hp
  have h := h3 []
  rw [List.append_nil] at h
  intro hm
  obtain ⟨i, hi⟩ := List.mem_iff_getElem?.1 hm
  have hil := (List.getElem?_eq_some_iff.1 hi).1
  have hz : ∀ j, p[j]? = some (0 : UInt8) → (p.getD j 0).toNat = 0 := by intro j hj; rw [List.getD_eq_getElem?_getD, hj]; rfl
  rw [charLen_N] at h
  rcases charN_cases p.length (p.getD 0 0).toNat (p.getD 1 0).toNat (p.getD 2 0).toNat (p.getD 3 0).toNat with hc | ⟨hc, _, c1⟩ | ⟨hc, _, c1, c2⟩ | ⟨hc, _, c1, c2, c3, c4⟩ | ⟨hc, _, c1, c2, c3, c4, c5⟩
  · rw [hc] at h; omega
  all_goals
    rw [hc] at h
    have hb := hz i hi
    rcases (show i = 0 ∨ i = 1 ∨ i = 2 ∨ i = 3 by omega) with rfl | rfl | rfl | rfl
    · exact h2 hi
    all_goals omega
theorem clean_no0 (l : List UInt8) : (0 : UInt8) ∉ clean l :=
  clean_ind (Q := fun c => (0 : UInt8) ∉ c) (by simp) (fun p l hp ih => by
    rw [List.mem_append]
    rintro (h | h)
    · exact piece_no0 p hp h
    · exact ih h) l

end Go.Proofs.YtfkhljmiehdgmaaDoor.Pl
