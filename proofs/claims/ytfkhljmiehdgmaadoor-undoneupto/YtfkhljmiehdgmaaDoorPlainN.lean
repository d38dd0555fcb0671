/-
  Plain: the beginning of a link, by its colon. No program is named here.
-/
import Derived.Test.YtfkhljmiehdgmaaDoorPlainM
namespace Go.Proofs.YtfkhljmiehdgmaaDoor.Pl

def open0 (p : List UInt8) : Bool := p == [104, 116, 116, 112] || (p == [104, 116, 116, 112, 115] || p == [109, 97, 105, 108, 116, 111])
theorem schemed_at (c : List UInt8) (k : Nat) (h : schemed c = k + 1) : c[k]? = some 58 := by
  unfold schemed at h
  by_cases h0 : run c false = 0
  · rw [if_pos h0] at h; omega
  rw [if_neg h0] at h
  by_cases h1 : c[run c false]? = some 58
  · rw [if_pos h1] at h
    have : run c false = k := by omega
    rw [← this]; exact h1
  · rw [if_neg h1] at h; omega
theorem lower_colon (c : List UInt8) (k : Nat) (h : schemed c = k + 1) : lower (c.take (k + 1)) = lower (c.take k) ++ [58] := by
  have hc := schemed_at c k h
  have hk := (List.getElem?_eq_some_iff.1 hc).1
  rw [List.take_succ_eq_append_getElem hk]
  have : c[k] = 58 := by rw [List.getElem?_eq_getElem hk] at hc; exact Option.some.inj hc
  rw [this]
  unfold lower
  rw [List.map_append]; rfl
theorem first_none (c : List UInt8) (h : schemed c = 0) : firstOf c = linked c := by
  unfold firstOf; rw [h, if_neg (by omega)]; rfl
theorem snoc_eq (p q : List UInt8) : (p ++ [58] = q ++ [58]) ↔ p = q := by
  constructor
  · intro h; exact List.append_cancel_right h
  · rintro rfl; rfl
theorem first_open (c : List UInt8) (k : Nat) (h : schemed c = k + 1) (ho : open0 (lower (c.take k)) = true) : firstOf c = c.take (k + 1) ++ linked (c.drop (k + 1)) := by
  unfold firstOf; rw [h, lower_colon c k h, if_neg]
  rintro ⟨_, h1, h2, h3⟩
  simp only [open0, Bool.or_eq_true, beq_iff_eq] at ho
  rcases ho with q | q | q
  · exact h1 (by rw [q]; rfl)
  · exact h2 (by rw [q]; rfl)
  · exact h3 (by rw [q]; rfl)
theorem first_blocked (c : List UInt8) (k : Nat) (h : schemed c = k + 1) (ho : open0 (lower (c.take k)) = false) : firstOf c = blocked := by
  unfold firstOf; rw [h, lower_colon c k h, if_pos]
  simp only [open0, Bool.or_eq_false_iff, beq_eq_false_iff_ne] at ho
  refine ⟨by omega, ?_, ?_, ?_⟩
  · rw [show http = [104, 116, 116, 112] ++ [58] from rfl]; exact fun q => ho.1 ((snoc_eq _ _).1 q)
  · rw [show https = [104, 116, 116, 112, 115] ++ [58] from rfl]; exact fun q => ho.2.1 ((snoc_eq _ _).1 q)
  · rw [show mailto = [109, 97, 105, 108, 116, 111] ++ [58] from rfl]; exact fun q => ho.2.2 ((snoc_eq _ _).1 q)
theorem enc3 (l : List UInt8) : encOf 3 l = linked l := rfl

end Go.Proofs.YtfkhljmiehdgmaaDoor.Pl
