/-
  Plain laws: the modes of a beginning; what stands behind a page that ends in Text. No program is named here.
-/
import Derived.Test.YtbagkoemaalnmaaDoorPgD
namespace Go.Proofs.YtbagkoemaalnmaaDoor.Pl

/-- the modes of a page -/
def modes (l : List UInt8) : List Nat := modesFrom St.start l
theorem modes_len (l : List UInt8) : (modes l).length = l.length := modesFrom_len _ _
theorem text_start {s : St} (h : s.Ok) (hm : s.mode = 1) : s = St.start := by
  obtain ⟨m, n, e, k, r, x⟩ := s
  have h1 := h.named
  have h2 := h.bare
  have h3 := h.low
  have h4 := h.calm
  simp only at hm h1 h2 h3 h4
  subst hm
  obtain ⟨rfl, rfl⟩ := h2 (.inl (by omega))
  obtain rfl := h1 (by omega) (by omega)
  obtain rfl := h3 (by omega)
  obtain rfl := h4 (by decide)
  rfl
theorem modes_begin (a b : List UInt8) (i : Nat) (hi : i < a.length) : (modes (a ++ b)).getD i 0 = (modes a).getD i 0 := by
  unfold modes
  rw [modesFrom_append, List.getD_eq_getElem?_getD, List.getD_eq_getElem?_getD, List.getElem?_append_left (by rw [modesFrom_len]; exact hi)]
theorem mode_at (l : List UInt8) (i : Nat) (hi : i < l.length) : (modes l).getD i 0 = (stFrom St.start (l.take (i + 1))).mode := by
  unfold modes
  have e : l = l.take (i + 1) ++ l.drop (i + 1) := (List.take_append_drop _ _).symm
  have e2 : l.take (i + 1) = l.take i ++ [l[i]] := List.take_succ_eq_append_getElem hi
  rw [List.getD_eq_getElem?_getD]
  conv => lhs; rw [e, modesFrom_append, e2, modesFrom_snoc, List.append_assoc]
  rw [List.getElem?_append_right (by rw [modesFrom_len, List.length_take]; omega), modesFrom_len, List.length_take]
  rw [show i - min i l.length = 0 by omega, e2, stFrom_snoc]
  rfl
theorem mode_range (l : List UInt8) (i : Nat) (hi : i < l.length) : 1 ≤ (modes l).getD i 0 ∧ (modes l).getD i 0 ≤ 33 := by
  rw [mode_at l i hi]
  have := stFrom_ok start_ok (l.take (i + 1))
  exact ⟨this.lo, this.hi⟩
theorem modes_behind (a b : List UInt8) (i : Nat) (ha : a.length = 0 ∨ (modes a).getD (a.length - 1) 0 = 1) : (modes (a ++ b)).getD (a.length + i) 0 = (modes b).getD i 0 := by
  have hs : stFrom St.start a = St.start := by
    rcases ha with h | h
    · rw [List.eq_nil_of_length_eq_zero h]; rfl
    · by_cases h0 : a.length = 0
      · rw [List.eq_nil_of_length_eq_zero h0]; rfl
      · rw [mode_at a _ (by omega), show a.length - 1 + 1 = a.length by omega, List.take_length] at h
        exact text_start (stFrom_ok start_ok a) h
  unfold modes
  rw [modesFrom_append, hs, List.getD_eq_getElem?_getD, List.getD_eq_getElem?_getD, List.getElem?_append_right (by rw [modesFrom_len]; omega), modesFrom_len, Nat.add_sub_cancel_left]

end Go.Proofs.YtbagkoemaalnmaaDoor.Pl
