/-
  The walk of package markup: has the end of an element come?
-/
import Derived.Test.YtbagkoemaalnmaaDoorPgWB
namespace Go.Proofs.YtbagkoemaalnmaaDoor
open Go.RowKit

/-- 'ends': the byte that is one -/
theorem pgIndex_yes (b : UInt8) (w : World) (h : Pl.among b Pl.endBytes = true) :
    Calls Tryd.prog 71 #[.string ⟨#[9, 10, 12, 13, 32, 47, 62]⟩, .int .u8 b.toNat] w fun e w' => ∃ x : Int, 0 ≤ x ∧ e = .returned (.int .i64 x) ∧ w = w' :=
  pgIndexByte_yes b _ Pl.endBytes w rfl h
theorem pgIndex_no (b : UInt8) (w : World) (h : Pl.among b Pl.endBytes = false) :
    Calls Tryd.prog 71 #[.string ⟨#[9, 10, 12, 13, 32, 47, 62]⟩, .int .u8 b.toNat] w fun e w' => e = .returned (.int .i64 (-1)) ∧ w = w' :=
  pgIndexByte_no b _ Pl.endBytes w rfl h

set_option maxRecDepth 100000 in
set_option maxHeartbeats 6400000 in
theorem ends_any (s : Pl.St) (b : UInt8) (w : World) (hs : s.elem.length ≤ 1000) :
    Calls Tryd.prog 63 #[stVal s, .int .u8 b.toNat] w fun e w' => e = .returned (.bool (s.ends b)) ∧ Below w.heap.size w w' := by
  have hz : (ByteArray.mk s.ending.toArray).size = s.ending.length := by simp [ByteArray.size]
  have hl := ending_len s
  have he := fun w => ending_any s w hs
  have HD : Hid (s.ends b = (decide (s.read = s.ending.length) && Pl.among b Pl.endBytes)) := rfl
  have hlo : s.ending.length ≤ 1002 := by omega
  generalize s.ending = E at hz hl he HD hlo
  clear hl
  have hst := stAt_alloc w s 69
  unfold stCells bs at hst
  unfold stVal stCells bs
  by_cases h1 : s.read = E.length
  · have h1' : ((s.read : Int) == (E.length : Int)) = true := by rw [beq_iff_eq]; omega
    have H1 : Hid (s.read = E.length) := h1
    clear h1
    by_cases h2 : Pl.among b Pl.endBytes = true
    · go_enter Tryd.func63, Tryd.ntmps63
      go_wp2_with fail
      first | go_region_with (first
        | (go_at_call 86; refine (he _).mono ?_; rintro e w1 ⟨rfl, hb1⟩; have q4 := (hst.drew.kept hb1 (by simp)).read; have hw : Below w.heap.size w w1 := (((Below.refl _ _).alloc (Nat.le_refl _) _).drew).trans (hb1.mono (by simp)))
        | (go_at_call 71; refine (pgIndex_yes b _ h2).mono ?_; rintro e w' ⟨x, hx, rfl, rfl⟩)) | fail
      all_goals
        go_wp2
        go_ret
        exact ⟨ret_bool (by rw [HD.out, h2, decide_eq_true H1.out]; rfl), hw⟩
    · have h2 := Bool.eq_false_iff.2 h2
      go_enter Tryd.func63, Tryd.ntmps63
      go_wp2_with fail
      first | go_region_with (first
        | (go_at_call 86; refine (he _).mono ?_; rintro e w1 ⟨rfl, hb1⟩; have q4 := (hst.drew.kept hb1 (by simp)).read; have hw : Below w.heap.size w w1 := (((Below.refl _ _).alloc (Nat.le_refl _) _).drew).trans (hb1.mono (by simp)))
        | (go_at_call 71; refine (pgIndex_no b _ h2).mono ?_; rintro e w' ⟨rfl, rfl⟩)) | fail
      all_goals
        go_wp2
        go_ret
        exact ⟨ret_bool (by rw [HD.out, h2]; rw [Bool.and_false]), hw⟩
  · have h1' : ((s.read : Int) == (E.length : Int)) = false := by rw [beq_eq_false_iff_ne]; omega
    have H1 : Hid (¬ s.read = E.length) := h1
    clear h1
    · go_enter Tryd.func63, Tryd.ntmps63
      go_wp2_with fail
      first | go_region_with (first
        | (go_at_call 86; refine (he _).mono ?_; rintro e w1 ⟨rfl, hb1⟩; have q4 := (hst.drew.kept hb1 (by simp)).read; have hw : Below w.heap.size w w1 := (((Below.refl _ _).alloc (Nat.le_refl _) _).drew).trans (hb1.mono (by simp)))
        | fail) | fail
      all_goals
        go_wp2
        go_ret
        exact ⟨ret_bool (by rw [HD.out, decide_eq_false H1.out]; rw [Bool.false_and]), hw⟩

end Go.Proofs.YtbagkoemaalnmaaDoor
