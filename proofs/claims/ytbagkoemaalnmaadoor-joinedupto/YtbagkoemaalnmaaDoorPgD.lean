/-
  Plain laws: what holds of every state that is come to. No program is named here.
-/
import Derived.Test.YtbagkoemaalnmaaDoorPgC
namespace Go.Proofs.YtbagkoemaalnmaaDoor.Pl

theorem nameOk_elementOf (n : List UInt8) : nameOk (elementOf n) := by
  unfold elementOf nameOk
  split
  · rename_i h
    exact .inr h
  · exact .inl rfl
theorem nameOk_len {n : List UInt8} (h : nameOk n) : n.length ≤ 8 := by
  rcases h with rfl | rfl | rfl | rfl | rfl <;> decide
theorem longer_len (n : List UInt8) (b : UInt8) (h : n.length ≤ 9) : (longer n b).length ≤ 9 := by
  unfold longer
  split
  · exact h
  · rw [List.length_append]; simp; omega
theorem kindOf_wrap (n : List UInt8) : 0 ≤ kindOf n ∧ kindOf n ≤ 3 := by
  unfold kindOf
  cases h : attrTab.find? (fitsAttr n) with
  | none => exact ⟨by decide, by decide⟩
  | some r =>
    have hm := List.mem_of_find?_eq_some h
    have : ∀ r ∈ attrTab, 0 ≤ r.2.2 ∧ r.2.2 ≤ 3 := by decide
    exact this r hm
theorem esc_low : ∀ m, m < 19 → escapesTab.getD m false = false := by decide
theorem esc_read : ∀ m, m ≤ 33 → escapesTab.getD m false = true → readInTab.getD m 0 = 0 := by decide
theorem readIn_low : ∀ m, m < 19 → readInTab.getD m 0 ≠ 0 → m = 2 := by decide
theorem readIn_fix : ∀ m, m ≤ 33 → readInTab.getD (readInTab.getD m 0) 0 = 0 ∧ readInTab.getD m 0 ≤ 33 := by decide
theorem readEnd_le (s : St) (b : UInt8) : s.readEnd b ≤ s.ending.length := by
  unfold St.readEnd
  split
  · rename_i h
    have := (List.getElem?_eq_some_iff.1 h).1
    omega
  · split
    · simp [St.ending]
    · exact Nat.zero_le _
theorem within_ok {n : List UInt8} (h : nameOk n) : (within n).Ok := by
  rcases h with rfl | rfl | rfl | rfl | rfl
  all_goals
    refine ⟨by decide, by decide, by decide, fun _ _ => by decide, ?_, by decide, by decide, by decide, by decide, by decide, by decide⟩
    unfold nameOk; decide
theorem start_ok : St.start.Ok := by
  refine ⟨by decide, by decide, by decide, fun _ _ => rfl, .inl rfl, fun _ => ⟨rfl, rfl⟩, fun _ => rfl, fun _ => rfl, by decide, by decide, fun h => by revert h; decide⟩
theorem ended_ok (b : UInt8) : (St.mk (behindEnd b) [] [] 0 0 false).Ok := by
  unfold behindEnd
  split
  all_goals
    refine ⟨by decide, by decide, by decide, fun _ _ => rfl, .inl rfl, fun _ => ⟨rfl, rfl⟩, fun _ => rfl, fun _ => rfl, by decide, by decide, fun h => by revert h; decide⟩

theorem table_ok {s : St} (b : UInt8) (h : s.Ok) (hesc : s.esc = false) : (s.table b).Ok := by
  rw [table_eq]
  have hs := shape_all s.mode h.lo h.hi b
  have hn := h.named
  unfold shape at hs
  simp only [Bool.and_eq_true, decide_eq_true_eq, Bool.or_eq_true] at hs
  generalize readAt s.mode b = r at hs ⊢
  generalize leads s.mode b = t at hs ⊢
  obtain ⟨⟨⟨⟨⟨⟨⟨⟨⟨⟨r1, r2⟩, t1⟩, t2⟩, hf⟩, hr⟩, h34⟩, h3⟩, h5⟩, h4⟩, hp⟩ := hs
  obtain ⟨m, n, e, k, rd, x⟩ := s
  simp only at *
  subst hesc
  have g1 := h.name
  have g2 := h.elem
  have g3 := h.bare
  have g4 := h.low
  have g6 := h.read
  have g7 := h.wrap
  have g8 := h.high
  simp only at g1 g2 g3 g4 g6 g7 g8
  have hZ : ∃ zn ze zk, (St.mk r n e k rd false).led t b = (St.mk r zn ze zk rd false).led1 t b ∧ zn.length ≤ 9 ∧ (t ≠ 3 → t ≠ 5 → zn = []) ∧ nameOk ze ∧ -3 ≤ zk ∧ zk ≤ 3 ∧ (r ≠ 3 ∨ t = r → ze = e) ∧ (r ≠ 5 ∨ t = r → zk = k) := by
    by_cases ht : t = r
    · refine ⟨n, e, k, ?_, g1, ?_, g2, g7.1, g7.2, fun _ => rfl, fun _ => rfl⟩
      · unfold St.led; rw [if_pos ht]
      · intro a b
        refine hn ?_ ?_ <;> omega
    · refine ⟨[], if r = 3 then elementOf n else e, if r = 5 then kindOf n else k, ?_, by simp, fun _ _ => rfl, ?_, ?_, ?_, ?_, ?_⟩
      · unfold St.led; rw [if_neg ht]; rfl
      · split
        · exact nameOk_elementOf n
        · exact g2
      · split
        · have := kindOf_wrap n; omega
        · exact g7.1
      · split
        · have := kindOf_wrap n; omega
        · exact g7.2
      · intro hh
        rw [if_neg (by omega)]
      · intro hh
        rw [if_neg (by omega)]
  obtain ⟨zn, ze, zk, hled, z1, z2, z3, z4, z5, z6, z7⟩ := hZ
  rw [hled]
  unfold St.led1
  have hread : m < 19 → rd = 0 := g4
  by_cases c3 : t = 3
  · rw [if_pos c3]
    simp only [c3, if_true, Bool.or_eq_true, decide_eq_true_eq] at h3
    have hb := g3 (by omega)
    refine ⟨by simp only; omega, by simp only; omega, longer_len zn b z1, fun hh => absurd c3 hh, z3, fun _ => ?_, fun _ => g4 (by omega), fun _ => rfl, by have := g4 (by omega); simp only; omega, ⟨z4, z5⟩, fun hh => by simp only at hh; omega⟩
    refine ⟨(z6 ?_).trans hb.1, (z7 (by omega)).trans hb.2⟩
    omega
  rw [if_neg c3]
  by_cases c5 : t = 5
  · rw [if_pos c5]
    simp only [c5, if_true, Bool.or_eq_true, decide_eq_true_eq] at h5
    refine ⟨by simp only; omega, by simp only; omega, longer_len zn b z1, fun _ hh => absurd c5 hh, z3, fun hh => by simp only at hh; omega, fun _ => g4 (by omega), fun _ => rfl, by have := g4 (by omega); simp only; omega, ⟨by simp only; omega, by simp only; omega⟩, fun hh => by simp only at hh; omega⟩
  rw [if_neg c5]
  have hzn := z2 c3 c5
  by_cases c4 : t = 4 ∨ t = 10
  · rw [if_pos c4]
    rw [if_pos (by omega)] at h4
    simp only [Bool.and_eq_true, decide_eq_true_eq] at h4
    refine ⟨by simp only; omega, by simp only; omega, z1, fun _ _ => hzn, z3, fun hh => by simp only at hh; omega, fun _ => g4 (by omega), fun _ => rfl, by have := g4 (by omega); simp only; omega, ⟨by simp only; omega, by simp only; omega⟩, fun hh => by simp only at hh; omega⟩
  rw [if_neg c4]
  by_cases c34 : t = 34
  · rw [if_pos c34]
    exact within_ok z3
  rw [if_neg c34]
  have hmt : (m < 19 ↔ t < 19) ∧ (m < 19 ↔ r < 19) := by
    by_cases hm : m < 19
    · rw [if_pos hm] at hf
      simp only [Bool.and_eq_true, Bool.or_eq_true, decide_eq_true_eq] at hf
      omega
    · rw [if_neg hm] at hf
      simp only [Bool.and_eq_true, decide_eq_true_eq] at hf
      omega
  refine ⟨by simp only; omega, by simp only; omega, z1, fun _ _ => hzn, z3, fun hh => ?_, fun hh => g4 (by simp only at hh; omega), fun _ => rfl, ?_, ⟨z4, z5⟩, fun hh => ?_⟩
  · simp only at hh
    rw [if_pos (by omega)] at hp
    simp only [Bool.and_eq_true, Bool.or_eq_true, decide_eq_true_eq] at hp
    have hb := g3 (by omega)
    exact ⟨(z6 (by omega)).trans hb.1, (z7 (by omega)).trans hb.2⟩
  · by_cases hm : m < 19
    · have := g4 hm; simp only; omega
    · have := z6 (by omega)
      subst this
      exact g6
  · simp only at hh
    have hb := g8 (by omega)
    exact ⟨by rw [show ze = e from z6 (by omega)]; exact hb.1, (z7 (by omega)).trans hb.2⟩

theorem behind_ok {s : St} (b : UInt8) (h : s.Ok) : (s.behind b).Ok := by
  have quiet : ∀ s : St, s.Ok → (s.quiet b).Ok := by
    intro s h
    unfold St.quiet
    split
    · rename_i hq
      simp only [Bool.and_eq_true] at hq
      exact ⟨h.lo, h.hi, h.name, h.named, h.elem, h.bare, h.low, fun hh => (by simp only at hh; rw [hq.1] at hh; cases hh), h.read, h.wrap, h.high⟩
    · rename_i hq
      refine table_ok b h ?_
      by_cases he : escapesTab.getD s.mode false = true
      · rw [he, Bool.true_and] at hq
        simp only [Bool.or_eq_true, not_or, Bool.not_eq_true] at hq
        exact hq.1
      · exact h.calm (Bool.eq_false_iff.2 he)
  unfold St.behind
  split
  · split
    · exact ended_ok b
    · refine quiet _ ⟨h.lo, h.hi, h.name, h.named, h.elem, h.bare, fun hh => ?_, h.calm, readEnd_le s b, h.wrap, h.high⟩
      simp only at hh
      omega
  · exact quiet _ h
theorem stFrom_ok {s : St} (h : s.Ok) (l : List UInt8) : (stFrom s l).Ok := by
  induction l generalizing s with
  | nil => exact h
  | cons b l ih => exact ih (behind_ok b h)

end Go.Proofs.YtbagkoemaalnmaaDoor.Pl
