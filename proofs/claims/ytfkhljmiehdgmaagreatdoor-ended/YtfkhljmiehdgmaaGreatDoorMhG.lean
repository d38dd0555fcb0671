/-
  Several texts laid together: each opens with its own remark.
-/
import Derived.Test.YtfkhljmiehdgmaaGreatDoorPgWS
import Derived.Test.YtfkhljmiehdgmaaGreatDoorMhC

/-
  The walks of package markup: the end of an element.
-/
namespace Go.Proofs.YtfkhljmiehdgmaaGreatDoor
open Go.RowKit

set_option maxRecDepth 100000 in
set_option maxHeartbeats 800000 in
theorem ending_any (x : Pl.Sx) (w : World) (hs : x.st.elem.length ≤ 1000) :
    Calls Tryz.prog 129 #[sxVal x] w fun e w' => e = .returned (.string ⟨x.st.ending.toArray⟩) ∧ Below w.heap.size w w' := by
  have hz : (ByteArray.mk x.st.elem.toArray).size = x.st.elem.length := by simp [ByteArray.size]
  unfold sxVal sxCells bs
  go_enter Tryz.func129, Tryz.ntmps129
  go_wp2
  go_ret
  exact ⟨ret_str (by unfold Pl.St.ending; apply ByteArray.ext; simp), (Below.refl _ _).alloc (Nat.le_refl _) _⟩

/-- a state in a block: its cells -/
structure SxAt (w : World) (g : Nat) (s : Pl.Sx) : Prop where
  mode : w.cell? ⟨g, 0, none⟩ = some (.int .u8 (s.st.mode : Int))
  name : w.cell? ⟨g, 1, none⟩ = some (.string ⟨s.st.name.toArray⟩)
  elem : w.cell? ⟨g, 2, none⟩ = some (.string ⟨s.st.elem.toArray⟩)
  kind : w.cell? ⟨g, 3, none⟩ = some (.int .i64 s.st.kind)
  read : w.cell? ⟨g, 4, none⟩ = some (.int .i64 (s.st.read : Int))
  ref : w.cell? ⟨g, 5, none⟩ = some (.bool s.ma.ref)
  esc : w.cell? ⟨g, 6, none⟩ = some (.bool s.st.esc)
  hex : w.cell? ⟨g, 7, none⟩ = some (.int .i64 s.ma.hex)
  pct : w.cell? ⟨g, 8, none⟩ = some (.int .i64 s.ma.pct)
  far : w.cell? ⟨g, 9, none⟩ = some (.int .i64 s.ma.far)
theorem sxAt_of {w : World} {g : Nat} {s : Pl.Sx} {t : TypeId} {fz : Nat × Nat} (h : w.heap[g]? = some (.cells (sxCells s) t fz)) : SxAt w g s :=
  ⟨cells_at_block h 0 _ rfl, cells_at_block h 1 _ rfl, cells_at_block h 2 _ rfl, cells_at_block h 3 _ rfl, cells_at_block h 4 _ rfl, cells_at_block h 5 _ rfl, cells_at_block h 6 _ rfl, cells_at_block h 7 _ rfl, cells_at_block h 8 _ rfl, cells_at_block h 9 _ rfl⟩
theorem sxAt_alloc (w : World) (s : Pl.Sx) (t : TypeId) : SxAt (w.alloc (.cells (sxCells s) t)) w.heap.size s := sxAt_of (heap_alloc_new w _)
theorem SxAt.drew {w : World} {g : Nat} {s : Pl.Sx} (h : SxAt w g s) : SxAt w.drew g s := ⟨h.mode, h.name, h.elem, h.kind, h.read, h.ref, h.esc, h.hex, h.pct, h.far⟩
theorem SxAt.kept {w w' : World} {B g : Nat} {s : Pl.Sx} (h : SxAt w g s) (hb : Below B w w') (hB : g < B) : SxAt w' g s :=
  ⟨(hb.cell (p := ⟨g, 0, none⟩) hB).trans h.mode, (hb.cell (p := ⟨g, 1, none⟩) hB).trans h.name, (hb.cell (p := ⟨g, 2, none⟩) hB).trans h.elem, (hb.cell (p := ⟨g, 3, none⟩) hB).trans h.kind, (hb.cell (p := ⟨g, 4, none⟩) hB).trans h.read, (hb.cell (p := ⟨g, 5, none⟩) hB).trans h.ref, (hb.cell (p := ⟨g, 6, none⟩) hB).trans h.esc, (hb.cell (p := ⟨g, 7, none⟩) hB).trans h.hex, (hb.cell (p := ⟨g, 8, none⟩) hB).trans h.pct, (hb.cell (p := ⟨g, 9, none⟩) hB).trans h.far⟩

theorem ending_len (s : Pl.St) : s.ending.length = s.elem.length + 2 := by simp [Pl.St.ending]

theorem get_arr (E : List UInt8) (k : Nat) (h : k < (ByteArray.mk E.toArray).size) : E[k]? = some ((ByteArray.mk E.toArray)[k]'h) := by
  rw [List.getElem?_eq_getElem (by simpa [ByteArray.size] using h)]; rfl
theorem get_yes {E : List UInt8} {k : Nat} {c : UInt8} {h : k < (ByteArray.mk E.toArray).size} (e : ((c.toNat : Int) == ((ByteArray.mk E.toArray)[k]'h).toNat) = true) : E[k]? = some c := by
  rw [Pl.beq8, beq_iff_eq] at e
  rw [get_arr E k h, e]
theorem get_no {E : List UInt8} {k : Nat} {c : UInt8} {h : k < (ByteArray.mk E.toArray).size} (e : ((c.toNat : Int) == ((ByteArray.mk E.toArray)[k]'h).toNat) = false) : ¬ E[k]? = some c := by
  rw [Pl.beq8, beq_eq_false_iff_ne] at e
  rw [get_arr E k h]
  intro q
  exact e (Option.some.inj q).symm
theorem get_none {E : List UInt8} {k : Nat} {c : UInt8} (h : ¬ k < E.length) : ¬ E[k]? = some c := by
  rw [List.getElem?_eq_none (by omega)]; simp

theorem first_yes {E : List UInt8} {c : UInt8} {h : 0 < (ByteArray.mk E.toArray).size} (h0 : E[0]? = some 60) (e : ((c.toNat : Int) == ((ByteArray.mk E.toArray)[0]'h).toNat) = true) : c = 60 := by
  have := get_yes e
  rw [h0] at this
  exact (Option.some.inj this).symm
theorem first_no {E : List UInt8} {c : UInt8} {h : 0 < (ByteArray.mk E.toArray).size} (h0 : E[0]? = some 60) (e : ((c.toNat : Int) == ((ByteArray.mk E.toArray)[0]'h).toNat) = false) : ¬ c = 60 := by
  rintro rfl
  exact get_no e h0

set_option maxRecDepth 100000 in
set_option maxHeartbeats 800000 in
theorem readEnd_any (x : Pl.Sx) (b : UInt8) (w : World) (hs : x.st.elem.length ≤ 1000) :
    Calls Tryz.prog 93 #[sxVal x, .int .u8 b.toNat] w fun e w' => e = .returned (.int .i64 (x.st.readEnd b : Nat)) ∧ Below w.heap.size w w' := by
  have hz : (ByteArray.mk x.st.ending.toArray).size = x.st.ending.length := by simp [ByteArray.size]
  have hl := ending_len x.st
  have he := fun w => ending_any x w hs
  have HD : Hid (x.st.readEnd b = if x.st.ending[x.st.read]? = some (Pl.small b) then x.st.read + 1 else if b = 60 then 1 else 0) := rfl
  have HZ : Hid (x.st.ending[0]? = some 60) := rfl
  have hlo : x.st.ending.length ≤ 1002 := by omega
  have h2 : 0 < x.st.ending.length := by omega
  generalize x.st.ending = E at hz hl he HD HZ hlo h2
  clear hl
  have h2' : (0 : Int) < (E.length : Int) := by omega
  have hst := sxAt_alloc w x 162
  unfold sxCells bs at hst
  unfold sxVal sxCells bs
  by_cases hlt : x.st.read < E.length
  · have hlt' : (x.st.read : Int) < (E.length : Int) := by omega
    have hle : x.st.read + 1 ≤ 2000 := by omega
    clear hlo
    go_enter Tryz.func93, Tryz.ntmps93
    go_wp2_with fail
    refine (he _).mono ?_
    rintro e w1 ⟨rfl, hb1⟩
    have hst1 := hst.kept hb1 (by simp)
    have q4 := hst1.read
    have hw : Below w.heap.size w w1 := ((Below.refl _ _).alloc (Nat.le_refl _) _).trans (hb1.mono (by simp))
    go_wp2_with fail
    go_quiet ((go_at_call 131; refine quiet_same (SmallByte_any b _)))
    go_wp2
    · go_ret
      exact ⟨ret_int (by rw [HD.out, if_pos (get_yes ‹_›)]; rfl), below_drewN hw _⟩
    · have n1 := ‹(((Pl.small b).toNat : Int) == (((ByteArray.mk E.toArray)[x.st.read]'(by rw [hz]; exact hlt)).toNat : Int)) = false›
      have n2 := ‹((b.toNat : Int) == (((ByteArray.mk E.toArray)[0]'(by rw [hz]; exact h2)).toNat : Int)) = true›
      go_ret
      exact ⟨ret_int (by rw [HD.out, if_neg (get_no n1), if_pos (first_yes HZ.out n2)]; rfl), below_drewN hw _⟩
    · have n1 := ‹(((Pl.small b).toNat : Int) == (((ByteArray.mk E.toArray)[x.st.read]'(by rw [hz]; exact hlt)).toNat : Int)) = false›
      have n2 := ‹((b.toNat : Int) == (((ByteArray.mk E.toArray)[0]'(by rw [hz]; exact h2)).toNat : Int)) = false›
      go_ret
      exact ⟨ret_int (by rw [HD.out, if_neg (get_no n1), if_neg (first_no HZ.out n2)]; rfl), below_drewN hw _⟩
  · have hlt' : decide ((x.st.read : Int) < (E.length : Int)) = false := by rw [decide_eq_false_iff_not]; omega
    clear hlo
    go_enter Tryz.func93, Tryz.ntmps93
    go_wp2_with fail
    refine (he _).mono ?_
    rintro e w1 ⟨rfl, hb1⟩
    have hst1 := hst.kept hb1 (by simp)
    have q4 := hst1.read
    have hw : Below w.heap.size w w1 := ((Below.refl _ _).alloc (Nat.le_refl _) _).trans (hb1.mono (by simp))
    go_wp2_with fail
    go_quiet (fail)
    go_wp2
    · have n2 := ‹((b.toNat : Int) == (((ByteArray.mk E.toArray)[0]'(by rw [hz]; exact h2)).toNat : Int)) = true›
      go_ret
      exact ⟨ret_int (by rw [HD.out, if_neg (get_none hlt), if_pos (first_yes HZ.out n2)]; rfl), below_drewN hw _⟩
    · have n2 := ‹((b.toNat : Int) == (((ByteArray.mk E.toArray)[0]'(by rw [hz]; exact h2)).toNat : Int)) = false›
      go_ret
      exact ⟨ret_int (by rw [HD.out, if_neg (get_none hlt), if_neg (first_no HZ.out n2)]; rfl), below_drewN hw _⟩

end Go.Proofs.YtfkhljmiehdgmaaGreatDoor

/-
  The walks of package markup: what is marked besides the mode.
-/
namespace Go.Proofs.YtfkhljmiehdgmaaGreatDoor
open Go.RowKit

theorem hexIndex_yes (b : UInt8) (w : World) (h : Pl.among b Pl.hexB = true) :
    Calls Tryz.prog 130 #[.string ⟨#[48, 49, 50, 51, 52, 53, 54, 55, 56, 57, 97, 98, 99, 100, 101, 102, 65, 66, 67, 68, 69, 70]⟩, .int .u8 b.toNat] w fun e w' => ∃ x : Int, 0 ≤ x ∧ e = .returned (.int .i64 x) ∧ w = w' :=
  pgIndexByte_yes b _ Pl.hexB w rfl h
theorem hexIndex_no (b : UInt8) (w : World) (h : Pl.among b Pl.hexB = false) :
    Calls Tryz.prog 130 #[.string ⟨#[48, 49, 50, 51, 52, 53, 54, 55, 56, 57, 97, 98, 99, 100, 101, 102, 65, 66, 67, 68, 69, 70]⟩, .int .u8 b.toNat] w fun e w' => e = .returned (.int .i64 (-1)) ∧ w = w' :=
  pgIndexByte_no b _ Pl.hexB w rfl h

set_option maxHeartbeats 800000 in
theorem fewer_any (left : Int) (b : UInt8) (w : World) (h0 : -1000 ≤ left) (h1 : left ≤ 1000) :
    Calls Tryz.prog 182 #[.int .i64 left, .int .u8 b.toNat] w fun e w' => e = .returned (.int .i64 (Pl.fewer left b)) ∧ w = w' := by
  by_cases hl : 0 < left
  · by_cases hb : Pl.among b Pl.hexB = true
    · have HV : Hid (Pl.fewer left b = left - 1) := by show _ = _; unfold Pl.fewer; rw [if_pos ⟨hl, hb⟩]
      have hw : IntKind.i64.wrap (left - 1) = left - 1 := by rw [IntKind.wrap_i64]; omega
      go_enter Tryz.func182, Tryz.ntmps182
      go_wp2_with (go_at_call 130; refine (hexIndex_yes b _ hb).mono ?_; rintro e w' ⟨x, hx, rfl, rfl⟩)
      go_ret
      exact ⟨ret_int (by rw [HV.out]), rfl⟩
    · have hb := Bool.eq_false_iff.2 hb
      have HV : Hid (Pl.fewer left b = 0) := by show _ = _; unfold Pl.fewer; rw [if_neg (fun q => by rw [hb] at q; exact absurd q.2 (by simp))]
      go_enter Tryz.func182, Tryz.ntmps182
      go_wp2_with (go_at_call 130; refine (hexIndex_no b _ hb).mono ?_; rintro e w' ⟨rfl, rfl⟩)
      go_ret
      exact ⟨ret_int (by rw [HV.out]), rfl⟩
  · have HV : Hid (Pl.fewer left b = 0) := by show _ = _; unfold Pl.fewer; rw [if_neg (fun q => hl q.1)]
    have hl' : decide (0 < left) = false := by rw [decide_eq_false_iff_not]; exact hl
    go_enter Tryz.func182, Tryz.ntmps182
    go_wp2_with fail
    go_ret
    exact ⟨ret_int (by rw [HV.out]), rfl⟩

set_option maxHeartbeats 800000 in
theorem inRef_any (b : UInt8) (w : World) :
    Calls Tryz.prog 183 #[.int .u8 b.toNat] w fun e w' => e = .returned (.bool (Pl.inRef b)) ∧ w = w' := by
  unfold Pl.inRef
  by_cases h1 : Pl.isLetter b = true
  · rw [h1, Bool.true_or]
    go_enter Tryz.func183, Tryz.ntmps183
    go_wp2_with (go_at_call 132; refine (letter_any b _).mono ?_; rintro e w' ⟨rfl, rfl⟩; rw [h1])
    go_ret
    exact ⟨rfl, rfl⟩
  · have h1 := Bool.eq_false_iff.2 h1
    rw [h1, Bool.false_or]
    by_cases h2 : Pl.isDigit b = true
    · rw [h2, Bool.true_or]
      go_enter Tryz.func183, Tryz.ntmps183
      go_wp2_with (first | (go_at_call 132; refine (letter_any b _).mono ?_; rintro e w' ⟨rfl, rfl⟩; rw [h1]) | (go_at_call 102; refine (digit_any b _).mono ?_; rintro e w' ⟨rfl, rfl⟩; rw [h2]))
      go_ret
      exact ⟨rfl, rfl⟩
    · have h2 := Bool.eq_false_iff.2 h2
      rw [h2, Bool.false_or]
      have h3 : ((b.toNat : Int) == 35) = (b == 35) := Pl.beq8n b 35 (by omega)
      go_enter Tryz.func183, Tryz.ntmps183
      go_wp2_with (first | (go_at_call 132; refine (letter_any b _).mono ?_; rintro e w' ⟨rfl, rfl⟩; rw [h1]) | (go_at_call 102; refine (digit_any b _).mono ?_; rintro e w' ⟨rfl, rfl⟩; rw [h2]))
      go_ret
      exact ⟨rfl, rfl⟩

set_option maxHeartbeats 1600000 in
theorem writtenAs_any (m : Nat) (w : World) :
    Calls Tryz.prog 154 #[.int .u8 m] w fun e w' => e = .returned (.int .i64 (Pl.writtenAs m)) ∧ w = w' := by
  by_cases hh : m = 1 ∨ m = 19 ∨ m = 8 ∨ m = 9 ∨ m = 21 ∨ m = 22 ∨ m = 29 ∨ m = 30
  · rcases hh with rfl | rfl | rfl | rfl | rfl | rfl | rfl | rfl
    all_goals
      go_enter Tryz.func154, Tryz.ntmps154
      go_wp2
      go_ret
      exact ⟨rfl, rfl⟩
  · have HV : Hid (Pl.writtenAs m = 0) := by show _ = _; unfold Pl.writtenAs; rw [if_neg (by omega), if_neg (by omega), if_neg (by omega)]
    have q1 : ((m : Int) == 1) = false := by rw [beq_eq_false_iff_ne]; omega
    have q2 : ((m : Int) == 19) = false := by rw [beq_eq_false_iff_ne]; omega
    have q3 : ((m : Int) == 8) = false := by rw [beq_eq_false_iff_ne]; omega
    have q4 : ((m : Int) == 9) = false := by rw [beq_eq_false_iff_ne]; omega
    have q5 : ((m : Int) == 21) = false := by rw [beq_eq_false_iff_ne]; omega
    have q6 : ((m : Int) == 22) = false := by rw [beq_eq_false_iff_ne]; omega
    have q7 : ((m : Int) == 29) = false := by rw [beq_eq_false_iff_ne]; omega
    have q8 : ((m : Int) == 30) = false := by rw [beq_eq_false_iff_ne]; omega
    clear hh
    go_enter Tryz.func154, Tryz.ntmps154
    go_wp2
    go_ret
    exact ⟨ret_int (by rw [HV.out]), rfl⟩

theorem beqN (a b : Nat) : ((a : Int) == (b : Int)) = (a == b) := by rw [Bool.eq_iff_iff]; simp only [beq_iff_eq, Int.natCast_inj]
set_option maxHeartbeats 1600000 in
theorem inLink_any (x : Pl.Sx) (w : World) :
    Calls Tryz.prog 153 #[sxVal x] w fun e w' => e = .returned (.bool (Pl.inLink x.st.kind x.st.mode)) ∧ w.alloc (.cells (sxCells x) 162) = w' := by
  unfold Pl.inLink sxVal sxCells bs
  by_cases h1 : (x.st.kind == 1) = true
  · rw [h1, Bool.true_and]
    by_cases h2 : x.st.mode = 8
    · have h2' : ((x.st.mode : Int) == 8) = true := by rw [h2]; rfl
      have HV : Hid ((x.st.mode == 8 || x.st.mode == 9) = true) := by show _ = _; rw [h2]; rfl
      rw [HV.out]
      clear h2
      go_enter Tryz.func153, Tryz.ntmps153
      go_wp2_with fail
      go_ret
      exact ⟨rfl, rfl⟩
    · have h2' : ((x.st.mode : Int) == 8) = false := by rw [beq_eq_false_iff_ne]; omega
      have HV : Hid ((x.st.mode == 8 || x.st.mode == 9) = ((x.st.mode : Int) == 9)) := by
        show _ = _
        rw [show ((9 : Int)) = ((9 : Nat) : Int) from rfl, beqN, beq_eq_false_iff_ne.2 h2, Bool.false_or]
      rw [HV.out]
      clear h2
      go_enter Tryz.func153, Tryz.ntmps153
      go_wp2_with fail
      go_ret
      exact ⟨rfl, rfl⟩
  · have h1 := Bool.eq_false_iff.2 h1
    rw [h1, Bool.false_and]
    go_enter Tryz.func153, Tryz.ntmps153
    go_wp2_with fail
    go_ret
    exact ⟨rfl, rfl⟩

end Go.Proofs.YtfkhljmiehdgmaaGreatDoor

/-
  The walks of package markup: how far a link is.
-/
namespace Go.Proofs.YtfkhljmiehdgmaaGreatDoor
open Go.RowKit

/-- the worlds behind MakesScheme -/
def msW (w : World) (x : Pl.Sx) (b : UInt8) : World := if b = 58 then (w.alloc (.cells (sxCells x) 162)).alloc (.cells (sxCells x) 162) else w.alloc (.cells (sxCells x) 162)
set_option maxHeartbeats 1600000 in
theorem makesScheme_any (x : Pl.Sx) (b : UInt8) (w : World) :
    Calls Tryz.prog 106 #[sxVal x, .int .u8 b.toNat] w fun e w' => e = .returned (.bool (Pl.makesScheme x.st.kind x.st.mode x.ma.far b)) ∧ msW w x b = w' := by
  unfold Pl.makesScheme
  by_cases hb : b = 58
  · subst hb
    have hI := fun w => inLink_any x w
    have hm : msW w x 58 = (w.alloc (.cells (sxCells x) 162)).alloc (.cells (sxCells x) 162) := if_pos rfl
    rw [hm]
    by_cases h1 : Pl.inLink x.st.kind x.st.mode = true
    · rw [h1] at hI ⊢
      unfold sxVal sxCells bs at hI ⊢
      have HI := (show Hid _ from hI)
      clear hI h1 hm
      go_enter Tryz.func106, Tryz.ntmps106
      go_wp2_with (go_at_call 153; refine (HI.out _).mono ?_; rintro e w' ⟨rfl, rfl⟩)
      go_ret
      exact ⟨rfl, rfl⟩
    · have h1 := Bool.eq_false_iff.2 h1
      rw [h1] at hI ⊢
      unfold sxVal sxCells bs at hI ⊢
      have HI := (show Hid _ from hI)
      clear hI h1 hm
      go_enter Tryz.func106, Tryz.ntmps106
      go_wp2_with (go_at_call 153; refine (HI.out _).mono ?_; rintro e w' ⟨rfl, rfl⟩)
      go_ret
      exact ⟨rfl, rfl⟩
  · have hm : msW w x b = w.alloc (.cells (sxCells x) 162) := if_neg hb
    have hb' : (b == 58) = false := by rw [beq_eq_false_iff_ne]; exact hb
    have hb2 : ((b.toNat : Int) == 58) = false := (Pl.beq8n b 58 (by omega)).trans hb'
    rw [hm, hb', Bool.false_and]
    unfold sxVal sxCells bs
    clear hm hb hb'
    go_enter Tryz.func106, Tryz.ntmps106
    go_wp2_with fail
    go_ret
    exact ⟨rfl, rfl⟩

theorem decIndex_yes (b : UInt8) (w : World) (h : Pl.among b Pl.deciders = true) :
    Calls Tryz.prog 130 #[.string ⟨#[47, 63, 35, 58]⟩, .int .u8 b.toNat] w fun e w' => ∃ x : Int, 0 ≤ x ∧ e = .returned (.int .i64 x) ∧ w = w' :=
  pgIndexByte_yes b _ Pl.deciders w rfl h
theorem decIndex_no (b : UInt8) (w : World) (h : Pl.among b Pl.deciders = false) :
    Calls Tryz.prog 130 #[.string ⟨#[47, 63, 35, 58]⟩, .int .u8 b.toNat] w fun e w' => e = .returned (.int .i64 (-1)) ∧ w = w' :=
  pgIndexByte_no b _ Pl.deciders w rfl h
theorem msW_below (w : World) (x : Pl.Sx) (b : UInt8) : Below w.heap.size w (msW w x b) := by
  unfold msW
  split
  · exact ((Below.refl _ _).alloc (Nat.le_refl _) _).alloc (by simp) _
  · exact (Below.refl _ _).alloc (Nat.le_refl _) _

set_option maxHeartbeats 1600000 in
theorem farther_any (x : Pl.Sx) (b : UInt8) (w : World) :
    Calls Tryz.prog 184 #[sxVal x, .int .u8 b.toNat] w fun e w' => e = .returned (.int .i64 (Pl.fartherMk x.st.kind x.st.mode x.ma.far b)) ∧ Below w.heap.size w w' := by
  have hI := fun w => makesScheme_any x b w
  have hBl := fun w => msW_below w x b
  have hw : Below w.heap.size w (msW (w.alloc (.cells (sxCells x) 162)) x b) := ((Below.refl _ _).alloc (Nat.le_refl _) _).trans ((hBl _).mono (by simp))
  have hat : SxAt (msW (w.alloc (.cells (sxCells x) 162)) x b) w.heap.size x := (sxAt_alloc w x _).kept (hBl _) (by simp)
  have q9 := hat.far
  clear hat hBl
  unfold Pl.fartherMk
  by_cases h1 : Pl.makesScheme x.st.kind x.st.mode x.ma.far b = true
  · rw [if_pos h1]
    rw [h1] at hI
    generalize hW : msW (w.alloc (.cells (sxCells x) 162)) x b = W at hw q9
    have hI := hI (w.alloc (.cells (sxCells x) 162))
    rw [hW] at hI
    unfold sxVal sxCells bs at hI ⊢
    have HI := (show Hid _ from hI)
    clear hI h1 hW
    go_enter Tryz.func184, Tryz.ntmps184
    go_wp2_with (go_at_call 106; refine (Calls.mono HI.out) ?_; rintro e w' ⟨rfl, rfl⟩)
    go_ret
    exact ⟨rfl, hw⟩
  · rw [if_neg h1]
    rw [Bool.eq_false_iff.2 h1] at hI
    generalize hW : msW (w.alloc (.cells (sxCells x) 162)) x b = W at hw q9
    have hI := hI (w.alloc (.cells (sxCells x) 162))
    rw [hW] at hI
    unfold sxVal sxCells bs at hI ⊢
    have HI := (show Hid _ from hI)
    clear hI h1 hW
    by_cases h2 : Pl.among b Pl.deciders = true
    · rw [if_pos h2]
      go_enter Tryz.func184, Tryz.ntmps184
      go_wp2_with (first | (go_at_call 106; refine (Calls.mono HI.out) ?_; rintro e w' ⟨rfl, rfl⟩) | (go_at_call 130; refine (decIndex_yes b _ h2).mono ?_; rintro e w' ⟨x', hx', rfl, rfl⟩))
      go_ret
      exact ⟨rfl, hw⟩
    · rw [if_neg h2]
      have h2 := Bool.eq_false_iff.2 h2
      by_cases h3 : x.ma.far = 0
      · rw [if_pos h3]
        have h3' : (x.ma.far == 0) = true := by rw [h3]; rfl
        clear h3
        go_enter Tryz.func184, Tryz.ntmps184
        go_wp2_with (first | (go_at_call 106; refine (Calls.mono HI.out) ?_; rintro e w' ⟨rfl, rfl⟩) | (go_at_call 130; refine (decIndex_no b _ h2).mono ?_; rintro e w' ⟨rfl, rfl⟩))
        go_ret
        exact ⟨rfl, hw⟩
      · rw [if_neg h3]
        have h3' : (x.ma.far == 0) = false := by rw [beq_eq_false_iff_ne]; exact h3
        clear h3
        go_enter Tryz.func184, Tryz.ntmps184
        go_wp2_with (first | (go_at_call 106; refine (Calls.mono HI.out) ?_; rintro e w' ⟨rfl, rfl⟩) | (go_at_call 130; refine (decIndex_no b _ h2).mono ?_; rintro e w' ⟨rfl, rfl⟩))
        go_ret
        exact ⟨rfl, hw⟩

end Go.Proofs.YtfkhljmiehdgmaaGreatDoor

/-
  The walks of package markup: what is marked behind a byte that an escape says.
-/
namespace Go.Proofs.YtfkhljmiehdgmaaGreatDoor
open Go.RowKit

set_option maxRecDepth 100000 in
set_option maxHeartbeats 1600000 in
theorem escaped_first (x : Pl.Sx) (b : UInt8) (w : World) (he : x.st.esc = false) :
    Calls Tryz.prog 94 #[sxVal x, .int .u8 b.toNat] w fun e w' => e = .returned (mkVal (Pl.escapedMk x.st.mode x.st.esc b) (!x.st.esc)) ∧ Below w.heap.size w w' := by
  have HV : Hid (Pl.escapedMk x.st.mode x.st.esc b = Pl.Mk.none) := by show _ = _; unfold Pl.escapedMk; rw [if_pos he]
  rw [HV.out]
  unfold mkVal mkCells Pl.Mk.none sxVal sxCells bs
  rw [he]
  clear HV he
  go_enter Tryz.func94, Tryz.ntmps94
  go_wp2_with fail
  refine bodyPost_cell Tryz.results94 (w.heap.size + 1) _ _ Tryz.underlying160 rfl rfl (heap2_0 w _ _) (by kernel_rfl) rfl ?_
  exact ⟨rfl, (by repeat (first | refine Below.alloc ?_ (by simp <;> omega) _ | exact Below.refl _ _))⟩

theorem long_here {l : List (Nat × Nat × List UInt8 × Int)} {m : Nat} {b : UInt8} (k : Nat) (r : Nat × Nat × List UInt8 × Int) (hr : l[k]? = some r) (hn : (l.take k).find? (Pl.longHit m b) = none) (h : Pl.longHit m b r = true) : l.find? (Pl.longHit m b) = some r := Pl.tab_here _ k r hr hn h
theorem escaped_hit {m : Nat} {b : UInt8} (k : Nat) (r : Nat × Nat × List UInt8 × Int) (hr : Pl.longTab[k]? = some r) (hn : (Pl.longTab.take k).find? (Pl.longHit m b) = none) (h : Pl.longHit m b r = true) : Pl.escapedMk m true b = ⟨false, r.2.2.2, 0, 0⟩ := by
  unfold Pl.escapedMk
  rw [if_neg (by simp), Pl.tab_here _ k r hr hn h]
theorem escaped_none {m : Nat} {b : UInt8} (hn : (Pl.longTab.take 3).find? (Pl.longHit m b) = none) : Pl.escapedMk m true b = Pl.Mk.none := by
  unfold Pl.escapedMk
  rw [if_neg (by simp), show Pl.longTab = Pl.longTab.take 3 from rfl, hn]

/-- what holds ahead of each round -/
structure EscAt (w0 w : World) (g : Nat) (x : Pl.Sx) : Prop where
  at' : SxAt w g x
  res : SlotN 5 w (g + 1)
  below : Below g w0 w
  eq : w0.heap.size = g
theorem EscAt.alloc {w0 w : World} {g : Nat} {x : Pl.Sx} (h : EscAt w0 w g x) (o : Obj) : EscAt w0 (w.alloc o) g x :=
  ⟨h.at'.kept ((Below.refl _ w).alloc (Nat.le_refl _) o) (by have := h.res.lt; omega), h.res.alloc o, h.below.alloc (by have := h.res.lt; omega) o, h.eq⟩

set_option maxRecDepth 100000 in
set_option maxHeartbeats 3200000 in
theorem escaped_second (x : Pl.Sx) (b : UInt8) (w : World) (ht : PTabs w) (he : x.st.esc = true) :
    Calls Tryz.prog 94 #[sxVal x, .int .u8 b.toNat] w fun e w' => e = .returned (mkVal (Pl.escapedMk x.st.mode x.st.esc b) (!x.st.esc)) ∧ Below w.heap.size w w' := by
  have HE : EscAt w ((w.alloc (.cells (sxCells x) 162)).alloc (.cells #[.bool false, .bool false, .int .i64 0, .int .i64 0, .int .i64 0] 160)) w.heap.size x :=
    ⟨(sxAt_alloc w x _).kept ((Below.refl _ _).alloc (Nat.le_refl _) _) (by simp), slotN_new 5 _ _ _ _ (by simp) rfl, ((Below.refl _ _).alloc (Nat.le_refl _) _).alloc (by simp) _, rfl⟩
  have HE := (show Hid _ from HE)
  rw [he]
  have HX := (show Hid _ from he)
  have HT := (show Hid _ from ht)
  clear he ht
  unfold mkVal mkCells
  unfold sxVal
  unfold sxCells bs at HE ⊢
  rw [HX.out] at HE ⊢
  go_enter Tryz.func94, Tryz.ntmps94
  go_wp2_with fail
  go_loopw [5, 6, 12] (fun _ _ i wr => ∃ k : Nat, k ≤ 3 ∧ i = .int .i64 k ∧ Hid (EscAt w wr w.heap.size x ∧ (Pl.longTab.take k).find? (Pl.longHit x.st.mode b) = none)) (fun _ _ i _ => 3 - (intOf i).toNat)
  case atStart => exact ⟨0, by omega, rfl, HE.out, rfl⟩
  case round =>
    obtain ⟨k, hk, rfl, HR⟩ := hrel
    clear HE
    by_cases hlt : k < 3
    · obtain ⟨r, hr⟩ : ∃ r, Pl.longTab[k]? = some r := ⟨_, List.getElem?_eq_getElem (show k < Pl.longTab.length from hlt)⟩
      have htr : PTabs wr := HT.out.kept HR.out.1.below
      obtain ⟨c0, c1, c2, c3⟩ := longs_at htr.le k r hr
      rw [Nat.mul_comm 4 k] at c0 c1 c2 c3
      unfold bs at c2
      have HN := (show Hid _ from HR.out.2)
      have HR' := (show Hid _ from HR.out.1)
      have HRR := (show Hid _ from hr)
      have hlt' : (k : Int) < 3 := by omega
      have q0 := fun o => (HR.out.1.alloc o).at'.mode
      clear htr hr
      by_cases h1 : r.1 ≤ x.st.mode
      · have h1' : (r.1 : Int) ≤ (x.st.mode : Int) := by omega
        by_cases h2 : x.st.mode ≤ r.2.1
        · have h2' : (x.st.mode : Int) ≤ (r.2.1 : Int) := by omega
          by_cases h3 : Pl.among b r.2.2.1 = true
          · have HV := (show Hid _ from escaped_hit k r HRR.out HN.out (by unfold Pl.longHit; rw [decide_eq_true h1, decide_eq_true h2, h3]; rfl))
            have hslot := HR'.out.res
            have hbel := HR'.out.below
            obtain ⟨v0, p0⟩ := HR'.out.res.cellA 0 (by omega)
            obtain ⟨v1, p1⟩ := HR'.out.res.cellA 1 (by omega)
            obtain ⟨v2, p2⟩ := HR'.out.res.cellA 2 (by omega)
            obtain ⟨v3, p3⟩ := HR'.out.res.cellA 3 (by omega)
            obtain ⟨v4, p4⟩ := HR'.out.res.cellA 4 (by omega)
            have f0 := HR'.out.res.thawA 0
            have f1 := HR'.out.res.thawA 1
            have f2 := HR'.out.res.thawA 2
            have f3 := HR'.out.res.thawA 3
            have f4 := HR'.out.res.thawA 4
            clear HR
            go_wp2_with (go_at_call 130; refine (pgIndexByte_yes b _ r.2.2.1 _ rfl h3).mono ?_; rintro e w' ⟨x', hx', rfl, rfl⟩)
            refine bodyPost_set5 Tryz.results94 (w.heap.size + 1) _ Tryz.underlying160 rfl (by kernel_rfl) rfl (hslot.alloc _) rfl _ _ _ _ _ ?_
            rw [HV.out]
            exact ⟨rfl, below_set5 (hbel.alloc hbel.size _) (by omega) _ _ _ _ _⟩
          · have h3 := Bool.eq_false_iff.2 h3
            have HV := (show Hid _ from Pl.tab_next (Pl.longHit x.st.mode b) k r HRR.out HN.out (by unfold Pl.longHit; rw [h3]; simp))
            clear HR
            go_wp2_with (go_at_call 130; refine (pgIndexByte_no b _ r.2.2.1 _ rfl h3).mono ?_; rintro e w' ⟨rfl, rfl⟩)
            go_roundw
            case rel => exact ⟨k + 1, by omega, by go_num, HR'.out.alloc _, HV.out⟩
            case measure => simp [intOf]; omega
        · have h2' : decide (x.st.mode ≤ r.2.1) = false := decide_eq_false h2
          have HV := (show Hid _ from Pl.tab_next (Pl.longHit x.st.mode b) k r HRR.out HN.out (by unfold Pl.longHit; rw [decide_eq_false h2]; simp))
          clear HR h2
          go_wp2_with fail
          go_roundw
          case rel => exact ⟨k + 1, by omega, by go_num, HR'.out.alloc _, HV.out⟩
          case measure => simp [intOf]; omega
      · have h1' : decide (r.1 ≤ x.st.mode) = false := decide_eq_false h1
        have HV := (show Hid _ from Pl.tab_next (Pl.longHit x.st.mode b) k r HRR.out HN.out (by unfold Pl.longHit; rw [decide_eq_false h1]; simp))
        clear HR h1
        go_wp2_with fail
        go_roundw
        case rel => exact ⟨k + 1, by omega, by go_num, HR'.out.alloc _, HV.out⟩
        case measure => simp [intOf]; omega
    · obtain rfl : k = 3 := by omega
      have HV := (show Hid _ from escaped_none HR.out.2)
      have hslot := HR.out.1.res
      have hbel := HR.out.1.below
      obtain ⟨v0, p0⟩ := hslot.cell 0 (by omega)
      obtain ⟨v1, p1⟩ := hslot.cell 1 (by omega)
      obtain ⟨v2, p2⟩ := hslot.cell 2 (by omega)
      obtain ⟨v3, p3⟩ := hslot.cell 3 (by omega)
      obtain ⟨v4, p4⟩ := hslot.cell 4 (by omega)
      have f0 := hslot.thaw 0
      have f1 := hslot.thaw 1
      have f2 := hslot.thaw 2
      have f3 := hslot.thaw 3
      have f4 := hslot.thaw 4
      clear HR
      go_wp2_with fail
      refine bodyPost_set5 Tryz.results94 (w.heap.size + 1) _ Tryz.underlying160 rfl (by kernel_rfl) rfl hslot rfl _ _ _ _ _ ?_
      rw [HV.out]
      exact ⟨rfl, below_set5 hbel (by omega) _ _ _ _ _⟩

theorem escaped_any (x : Pl.Sx) (b : UInt8) (w : World) (ht : PTabs w) :
    Calls Tryz.prog 94 #[sxVal x, .int .u8 b.toNat] w fun e w' => e = .returned (mkVal (Pl.escapedMk x.st.mode x.st.esc b) (!x.st.esc)) ∧ Below w.heap.size w w' := by
  by_cases he : x.st.esc = true
  · exact escaped_second x b w ht he
  · exact escaped_first x b w (Bool.eq_false_iff.2 he)

end Go.Proofs.YtfkhljmiehdgmaaGreatDoor

/-
  The walks of package markup: what is marked behind a byte by which one stays in the mode.
-/
namespace Go.Proofs.YtfkhljmiehdgmaaGreatDoor
open Go.RowKit

set_option maxRecDepth 100000 in
set_option maxHeartbeats 1600000 in
theorem stayed_out (x : Pl.Sx) (b : UInt8) (w : World) (hx : -1000 ≤ x.ma.hex ∧ x.ma.hex ≤ 1000) (hm : ¬ Pl.writtenAs x.st.mode = 1) :
    Calls Tryz.prog 133 #[sxVal x, .int .u8 b.toNat] w fun e w' => e = .returned (mkVal (Pl.stayedMk x.st.kind x.st.mode x.ma b) false) ∧ Below w.heap.size w w' := by
  have hl : Pl.inLink x.st.kind x.st.mode = false := by
    unfold Pl.inLink
    rw [Bool.and_eq_false_iff]
    right
    rw [Bool.or_eq_false_iff, beq_eq_false_iff_ne, beq_eq_false_iff_ne]
    constructor
    all_goals
      intro q
      apply hm
      unfold Pl.writtenAs
      rw [if_pos (by omega)]
  have HV : Hid (Pl.stayedMk x.st.kind x.st.mode x.ma b = ⟨false, Pl.fewer x.ma.hex b, 0, 0⟩) := by
    show _ = _
    unfold Pl.stayedMk
    rw [if_neg hm, hl, if_neg (by simp), if_neg (by simp)]
  rw [HV.out]
  have hI := fun w => inLink_any x w
  rw [hl] at hI
  have hW := fun w => writtenAs_any x.st.mode w
  have hF := fun w => fewer_any x.ma.hex b w hx.1 hx.2
  have hm' : (Pl.writtenAs x.st.mode == 1) = false := by rw [beq_eq_false_iff_ne]; exact hm
  generalize Pl.writtenAs x.st.mode = WA at hW hm'
  generalize Pl.fewer x.ma.hex b = FE at hF ⊢
  unfold mkVal mkCells
  unfold sxVal sxCells bs at hI ⊢
  have HI := (show Hid _ from hI)
  clear hI HV hl hm hx
  go_enter Tryz.func133, Tryz.ntmps133
  go_wp2_with (first
    | (go_at_call 182; refine (hF _).mono ?_; rintro e w' ⟨rfl, rfl⟩)
    | (go_at_call 154; refine (hW _).mono ?_; rintro e w' ⟨rfl, rfl⟩)
    | (go_at_call 153; refine (HI.out _).mono ?_; rintro e w' ⟨rfl, rfl⟩))
  refine bodyPost_cell Tryz.results133 (w.heap.size + 1) _ _ Tryz.underlying160 rfl rfl (heap2_2 w _ _ _ _) (by kernel_rfl) rfl ?_
  exact ⟨rfl, (by repeat (first | refine Below.alloc ?_ (by simp <;> omega) _ | exact Below.refl _ _))⟩

set_option maxRecDepth 100000 in
set_option maxHeartbeats 1600000 in
theorem stayed_text_amp (x : Pl.Sx) (b : UInt8) (w : World) (hx : -1000 ≤ x.ma.hex ∧ x.ma.hex ≤ 1000) (hy : -1000 ≤ x.ma.pct ∧ x.ma.pct ≤ 1000) (hm : Pl.writtenAs x.st.mode = 1) (hl : Pl.inLink x.st.kind x.st.mode = false) (hb : b = 38) :
    Calls Tryz.prog 133 #[sxVal x, .int .u8 b.toNat] w fun e w' => e = .returned (mkVal (Pl.stayedMk x.st.kind x.st.mode x.ma b) false) ∧ Below w.heap.size w w' := by
  have HV : Hid (Pl.stayedMk x.st.kind x.st.mode x.ma b = ⟨true, Pl.fewer x.ma.hex b, 0, 0⟩) := by
    show _ = _
    have hr0 : (b == 38 || (x.ma.ref && Pl.inRef b)) = true := by subst hb; rfl
    unfold Pl.stayedMk
    rw [if_pos hm, hl, if_neg (by simp), if_neg (by simp)]
    rw [hr0]
  rw [HV.out]
  have hI := fun w => inLink_any x w
  rw [hl] at hI
  have hW := fun w => writtenAs_any x.st.mode w
  rw [hm] at hW
  have hF := fun w => fewer_any x.ma.hex b w hx.1 hx.2
  have hF2 := fun w => fewer_any x.ma.pct b w hy.1 hy.2
  have hFA := fun w => farther_any x b w
  have hb' : ((b.toNat : Int) == 38) = true := by rw [hb]; rfl
  generalize Pl.fewer x.ma.hex b = FE at hF ⊢
  generalize Pl.fewer x.ma.pct b = FP at hF2
  clear hFA
  unfold mkVal mkCells
  unfold sxVal sxCells bs at hI ⊢
  have HI := (show Hid _ from hI)
  clear hI HV hl hm hx hy hb
  go_enter Tryz.func133, Tryz.ntmps133
  go_wp2_with (first
    | (go_at_call 182; refine (hF _).mono ?_; rintro e w' ⟨rfl, rfl⟩)
    | (go_at_call 154; refine (hW _).mono ?_; rintro e w' ⟨rfl, rfl⟩)
    | (go_at_call 183; refine (inRef_any b _).mono ?_; rintro e w' ⟨rfl, rfl⟩)
    | (go_at_call 153; refine (HI.out _).mono ?_; rintro e w' ⟨rfl, rfl⟩))
  refine bodyPost_cell Tryz.results133 (w.heap.size + 1) _ _ Tryz.underlying160 rfl rfl (heap2_2 w _ _ _ _) (by kernel_rfl) rfl ?_
  exact ⟨rfl, (by repeat (first | refine Below.alloc ?_ (by simp <;> omega) _ | exact Below.refl _ _))⟩

set_option maxRecDepth 100000 in
set_option maxHeartbeats 1600000 in
theorem stayed_text_ref (x : Pl.Sx) (b : UInt8) (w : World) (hx : -1000 ≤ x.ma.hex ∧ x.ma.hex ≤ 1000) (hy : -1000 ≤ x.ma.pct ∧ x.ma.pct ≤ 1000) (hm : Pl.writtenAs x.st.mode = 1) (hl : Pl.inLink x.st.kind x.st.mode = false) (hb : ¬ b = 38) (hr : x.ma.ref = true) :
    Calls Tryz.prog 133 #[sxVal x, .int .u8 b.toNat] w fun e w' => e = .returned (mkVal (Pl.stayedMk x.st.kind x.st.mode x.ma b) false) ∧ Below w.heap.size w w' := by
  have HV : Hid (Pl.stayedMk x.st.kind x.st.mode x.ma b = ⟨(Pl.inRef b), Pl.fewer x.ma.hex b, 0, 0⟩) := by
    show _ = _
    have hr0 : (b == 38 || (x.ma.ref && Pl.inRef b)) = (Pl.inRef b) := by rw [beq_eq_false_iff_ne.2 hb, hr]; rfl
    unfold Pl.stayedMk
    rw [if_pos hm, hl, if_neg (by simp), if_neg (by simp)]
    rw [hr0]
  rw [HV.out]
  have hI := fun w => inLink_any x w
  rw [hl] at hI
  have hW := fun w => writtenAs_any x.st.mode w
  rw [hm] at hW
  have hF := fun w => fewer_any x.ma.hex b w hx.1 hx.2
  have hF2 := fun w => fewer_any x.ma.pct b w hy.1 hy.2
  have hFA := fun w => farther_any x b w
  have hb' : ((b.toNat : Int) == 38) = false := (Pl.beq8n b 38 (by omega)).trans (beq_eq_false_iff_ne.2 hb)
  generalize Pl.fewer x.ma.hex b = FE at hF ⊢
  generalize Pl.fewer x.ma.pct b = FP at hF2
  clear hFA
  unfold mkVal mkCells
  unfold sxVal sxCells bs at hI ⊢
  rw [hr] at hI ⊢
  have HI := (show Hid _ from hI)
  clear hI HV hl hm hx hy hb
  go_enter Tryz.func133, Tryz.ntmps133
  go_wp2_with (first
    | (go_at_call 182; refine (hF _).mono ?_; rintro e w' ⟨rfl, rfl⟩)
    | (go_at_call 154; refine (hW _).mono ?_; rintro e w' ⟨rfl, rfl⟩)
    | (go_at_call 183; refine (inRef_any b _).mono ?_; rintro e w' ⟨rfl, rfl⟩)
    | (go_at_call 153; refine (HI.out _).mono ?_; rintro e w' ⟨rfl, rfl⟩))
  refine bodyPost_cell Tryz.results133 (w.heap.size + 1) _ _ Tryz.underlying160 rfl rfl (heap2_2 w _ _ _ _) (by kernel_rfl) rfl ?_
  exact ⟨rfl, (by repeat (first | refine Below.alloc ?_ (by simp <;> omega) _ | exact Below.refl _ _))⟩

set_option maxRecDepth 100000 in
set_option maxHeartbeats 1600000 in
theorem stayed_text_not (x : Pl.Sx) (b : UInt8) (w : World) (hx : -1000 ≤ x.ma.hex ∧ x.ma.hex ≤ 1000) (hy : -1000 ≤ x.ma.pct ∧ x.ma.pct ≤ 1000) (hm : Pl.writtenAs x.st.mode = 1) (hl : Pl.inLink x.st.kind x.st.mode = false) (hb : ¬ b = 38) (hr : x.ma.ref = false) :
    Calls Tryz.prog 133 #[sxVal x, .int .u8 b.toNat] w fun e w' => e = .returned (mkVal (Pl.stayedMk x.st.kind x.st.mode x.ma b) false) ∧ Below w.heap.size w w' := by
  have HV : Hid (Pl.stayedMk x.st.kind x.st.mode x.ma b = ⟨false, Pl.fewer x.ma.hex b, 0, 0⟩) := by
    show _ = _
    have hr0 : (b == 38 || (x.ma.ref && Pl.inRef b)) = false := by rw [beq_eq_false_iff_ne.2 hb, hr]; rfl
    unfold Pl.stayedMk
    rw [if_pos hm, hl, if_neg (by simp), if_neg (by simp)]
    rw [hr0]
  rw [HV.out]
  have hI := fun w => inLink_any x w
  rw [hl] at hI
  have hW := fun w => writtenAs_any x.st.mode w
  rw [hm] at hW
  have hF := fun w => fewer_any x.ma.hex b w hx.1 hx.2
  have hF2 := fun w => fewer_any x.ma.pct b w hy.1 hy.2
  have hFA := fun w => farther_any x b w
  have hb' : ((b.toNat : Int) == 38) = false := (Pl.beq8n b 38 (by omega)).trans (beq_eq_false_iff_ne.2 hb)
  generalize Pl.fewer x.ma.hex b = FE at hF ⊢
  generalize Pl.fewer x.ma.pct b = FP at hF2
  clear hFA
  unfold mkVal mkCells
  unfold sxVal sxCells bs at hI ⊢
  rw [hr] at hI ⊢
  have HI := (show Hid _ from hI)
  clear hI HV hl hm hx hy hb
  go_enter Tryz.func133, Tryz.ntmps133
  go_wp2_with (first
    | (go_at_call 182; refine (hF _).mono ?_; rintro e w' ⟨rfl, rfl⟩)
    | (go_at_call 154; refine (hW _).mono ?_; rintro e w' ⟨rfl, rfl⟩)
    | (go_at_call 183; refine (inRef_any b _).mono ?_; rintro e w' ⟨rfl, rfl⟩)
    | (go_at_call 153; refine (HI.out _).mono ?_; rintro e w' ⟨rfl, rfl⟩))
  refine bodyPost_cell Tryz.results133 (w.heap.size + 1) _ _ Tryz.underlying160 rfl rfl (heap2_2 w _ _ _ _) (by kernel_rfl) rfl ?_
  exact ⟨rfl, (by repeat (first | refine Below.alloc ?_ (by simp <;> omega) _ | exact Below.refl _ _))⟩

end Go.Proofs.YtfkhljmiehdgmaaGreatDoor

/-
  The walks of package markup: what is marked behind a byte by which one stays in the mode, in a link.
-/
namespace Go.Proofs.YtfkhljmiehdgmaaGreatDoor
open Go.RowKit

set_option maxRecDepth 100000 in
set_option maxHeartbeats 1600000 in
theorem stayed_link_ampn (x : Pl.Sx) (b : UInt8) (w : World) (hx : -1000 ≤ x.ma.hex ∧ x.ma.hex ≤ 1000) (hy : -1000 ≤ x.ma.pct ∧ x.ma.pct ≤ 1000) (hm : Pl.writtenAs x.st.mode = 1) (hl : Pl.inLink x.st.kind x.st.mode = true) (hb : b = 38) (hp : ¬ b = 37) :
    Calls Tryz.prog 133 #[sxVal x, .int .u8 b.toNat] w fun e w' => e = .returned (mkVal (Pl.stayedMk x.st.kind x.st.mode x.ma b) false) ∧ Below w.heap.size w w' := by
  have HV : Hid (Pl.stayedMk x.st.kind x.st.mode x.ma b = ⟨true, Pl.fewer x.ma.hex b, (Pl.fewer x.ma.pct b), (Pl.fartherMk x.st.kind x.st.mode x.ma.far b)⟩) := by
    show _ = _
    have hr0 : (b == 38 || (x.ma.ref && Pl.inRef b)) = true := by subst hb; rfl
    unfold Pl.stayedMk
    rw [if_pos hm, hl, if_pos rfl, if_pos rfl, if_neg hp]
    rw [hr0]
  rw [HV.out]
  have hI := fun w => inLink_any x w
  rw [hl] at hI
  have hW := fun w => writtenAs_any x.st.mode w
  rw [hm] at hW
  obtain ⟨hx1, hx2⟩ := hx
  obtain ⟨hy1, hy2⟩ := hy
  have hFA := fun w => farther_any x b w
  have hb' : ((b.toNat : Int) == 38) = true := by rw [hb]; rfl
  have hp' : ((b.toNat : Int) == 37) = false := (Pl.beq8n b 37 (by omega)).trans (beq_eq_false_iff_ne.2 hp)
  generalize Pl.fartherMk x.st.kind x.st.mode x.ma.far b = FA at hFA ⊢
  unfold mkVal mkCells
  unfold sxVal sxCells bs at hI hFA ⊢
  have HI := (show Hid _ from hI)
  clear hI HV hl hm hb hp
  have HFA := (show Hid _ from hFA)
  clear hFA
  go_enter Tryz.func133, Tryz.ntmps133
  go_wp2_with (first
    | (go_at_call 182; refine (fewer_any _ b _ (by omega) (by omega)).mono ?_; rintro e w' ⟨rfl, rfl⟩)
    | (go_at_call 154; refine (hW _).mono ?_; rintro e w' ⟨rfl, rfl⟩)
    | (go_at_call 183; refine (inRef_any b _).mono ?_; rintro e w' ⟨rfl, rfl⟩)
    | (go_at_call 153; refine (HI.out _).mono ?_; rintro e w' ⟨rfl, rfl⟩))
  refine (HFA.out _).mono ?_
  rintro e w1 ⟨rfl, hb1⟩
  have hw : Below w.heap.size w w1 := Below.trans (by repeat (first | refine Below.alloc ?_ (by simp <;> omega) _ | exact Below.refl _ _)) (hb1.mono (by simp <;> omega))
  have hn := (hb1.block (w.heap.size + 1 + 1) (by simp)).trans (heap3_1 w _ _ _ _)
  have hr : SlotN 5 w1 (w.heap.size + 1) := ⟨_, _, (hb1.block (w.heap.size + 1) (by simp)).trans (heap2_2 w _ _ _ _), rfl⟩
  have hs : SlotN 5 w1 (w.heap.size + 1 + 1) := ⟨_, _, hn, rfl⟩
  have n0 := cells_at_block hn 0 _ rfl
  have n1 := cells_at_block hn 1 _ rfl
  have n2 := cells_at_block hn 2 _ rfl
  have n3 := cells_at_block hn 3 _ rfl
  have n4 := cells_at_block hn 4 _ rfl
  have z4 := hs.thaw 4
  obtain ⟨v0, p0⟩ := hr.cell 0 (by omega)
  obtain ⟨v1, p1⟩ := hr.cell 1 (by omega)
  obtain ⟨v2, p2⟩ := hr.cell 2 (by omega)
  obtain ⟨v3, p3⟩ := hr.cell 3 (by omega)
  obtain ⟨v4, p4⟩ := hr.cell 4 (by omega)
  have f0 := hr.thaw 0
  have f1 := hr.thaw 1
  have f2 := hr.thaw 2
  have f3 := hr.thaw 3
  have f4 := hr.thaw 4
  have hr2 := hr.set ⟨w.heap.size + 1 + 1, 4, none⟩ (.int .i64 FA)
  have hw2 := hw.setCell (p := ⟨w.heap.size + 1 + 1, 4, none⟩) (by simp <;> omega) (.int .i64 FA)
  clear hn hs hr hb1 hw
  go_wp2_with fail
  refine bodyPost_set5 Tryz.results133 (w.heap.size + 1) _ Tryz.underlying160 rfl (by kernel_rfl) rfl hr2 rfl _ _ _ _ _ ?_
  exact ⟨rfl, below_set5 hw2 (by simp) _ _ _ _ _⟩

set_option maxRecDepth 100000 in
set_option maxHeartbeats 1600000 in
theorem stayed_link_refy (x : Pl.Sx) (b : UInt8) (w : World) (hx : -1000 ≤ x.ma.hex ∧ x.ma.hex ≤ 1000) (hy : -1000 ≤ x.ma.pct ∧ x.ma.pct ≤ 1000) (hm : Pl.writtenAs x.st.mode = 1) (hl : Pl.inLink x.st.kind x.st.mode = true) (hb : ¬ b = 38) (hr : x.ma.ref = true) (hp : b = 37) :
    Calls Tryz.prog 133 #[sxVal x, .int .u8 b.toNat] w fun e w' => e = .returned (mkVal (Pl.stayedMk x.st.kind x.st.mode x.ma b) false) ∧ Below w.heap.size w w' := by
  have HV : Hid (Pl.stayedMk x.st.kind x.st.mode x.ma b = ⟨(Pl.inRef b), Pl.fewer x.ma.hex b, 2, (Pl.fartherMk x.st.kind x.st.mode x.ma.far b)⟩) := by
    show _ = _
    have hr0 : (b == 38 || (x.ma.ref && Pl.inRef b)) = (Pl.inRef b) := by rw [beq_eq_false_iff_ne.2 hb, hr]; rfl
    unfold Pl.stayedMk
    rw [if_pos hm, hl, if_pos rfl, if_pos rfl, if_pos hp]
    rw [hr0]
  rw [HV.out]
  have hI := fun w => inLink_any x w
  rw [hl] at hI
  have hW := fun w => writtenAs_any x.st.mode w
  rw [hm] at hW
  obtain ⟨hx1, hx2⟩ := hx
  obtain ⟨hy1, hy2⟩ := hy
  have hFA := fun w => farther_any x b w
  have hb' : ((b.toNat : Int) == 38) = false := (Pl.beq8n b 38 (by omega)).trans (beq_eq_false_iff_ne.2 hb)
  have hp' : ((b.toNat : Int) == 37) = true := by rw [hp]; rfl
  generalize Pl.fartherMk x.st.kind x.st.mode x.ma.far b = FA at hFA ⊢
  unfold mkVal mkCells
  unfold sxVal sxCells bs at hI hFA ⊢
  rw [hr] at hI hFA ⊢
  have HI := (show Hid _ from hI)
  clear hI HV hl hm hb hp
  have HFA := (show Hid _ from hFA)
  clear hFA
  go_enter Tryz.func133, Tryz.ntmps133
  go_wp2_with (first
    | (go_at_call 182; refine (fewer_any _ b _ (by omega) (by omega)).mono ?_; rintro e w' ⟨rfl, rfl⟩)
    | (go_at_call 154; refine (hW _).mono ?_; rintro e w' ⟨rfl, rfl⟩)
    | (go_at_call 183; refine (inRef_any b _).mono ?_; rintro e w' ⟨rfl, rfl⟩)
    | (go_at_call 153; refine (HI.out _).mono ?_; rintro e w' ⟨rfl, rfl⟩))
  refine (HFA.out _).mono ?_
  rintro e w1 ⟨rfl, hb1⟩
  have hw : Below w.heap.size w w1 := Below.trans (by repeat (first | refine Below.alloc ?_ (by simp <;> omega) _ | exact Below.refl _ _)) (hb1.mono (by simp <;> omega))
  have hn := (hb1.block (w.heap.size + 1 + 1) (by simp)).trans (heap3_1 w _ _ _ _)
  have hr : SlotN 5 w1 (w.heap.size + 1) := ⟨_, _, (hb1.block (w.heap.size + 1) (by simp)).trans (heap2_2 w _ _ _ _), rfl⟩
  have hs : SlotN 5 w1 (w.heap.size + 1 + 1) := ⟨_, _, hn, rfl⟩
  have n0 := cells_at_block hn 0 _ rfl
  have n1 := cells_at_block hn 1 _ rfl
  have n2 := cells_at_block hn 2 _ rfl
  have n3 := cells_at_block hn 3 _ rfl
  have n4 := cells_at_block hn 4 _ rfl
  have z4 := hs.thaw 4
  obtain ⟨v0, p0⟩ := hr.cell 0 (by omega)
  obtain ⟨v1, p1⟩ := hr.cell 1 (by omega)
  obtain ⟨v2, p2⟩ := hr.cell 2 (by omega)
  obtain ⟨v3, p3⟩ := hr.cell 3 (by omega)
  obtain ⟨v4, p4⟩ := hr.cell 4 (by omega)
  have f0 := hr.thaw 0
  have f1 := hr.thaw 1
  have f2 := hr.thaw 2
  have f3 := hr.thaw 3
  have f4 := hr.thaw 4
  have hr2 := hr.set ⟨w.heap.size + 1 + 1, 4, none⟩ (.int .i64 FA)
  have hw2 := hw.setCell (p := ⟨w.heap.size + 1 + 1, 4, none⟩) (by simp <;> omega) (.int .i64 FA)
  clear hn hs hr hb1 hw
  go_wp2_with fail
  refine bodyPost_set5 Tryz.results133 (w.heap.size + 1) _ Tryz.underlying160 rfl (by kernel_rfl) rfl hr2 rfl _ _ _ _ _ ?_
  exact ⟨rfl, below_set5 hw2 (by simp) _ _ _ _ _⟩

set_option maxRecDepth 100000 in
set_option maxHeartbeats 1600000 in
theorem stayed_link_refn (x : Pl.Sx) (b : UInt8) (w : World) (hx : -1000 ≤ x.ma.hex ∧ x.ma.hex ≤ 1000) (hy : -1000 ≤ x.ma.pct ∧ x.ma.pct ≤ 1000) (hm : Pl.writtenAs x.st.mode = 1) (hl : Pl.inLink x.st.kind x.st.mode = true) (hb : ¬ b = 38) (hr : x.ma.ref = true) (hp : ¬ b = 37) :
    Calls Tryz.prog 133 #[sxVal x, .int .u8 b.toNat] w fun e w' => e = .returned (mkVal (Pl.stayedMk x.st.kind x.st.mode x.ma b) false) ∧ Below w.heap.size w w' := by
  have HV : Hid (Pl.stayedMk x.st.kind x.st.mode x.ma b = ⟨(Pl.inRef b), Pl.fewer x.ma.hex b, (Pl.fewer x.ma.pct b), (Pl.fartherMk x.st.kind x.st.mode x.ma.far b)⟩) := by
    show _ = _
    have hr0 : (b == 38 || (x.ma.ref && Pl.inRef b)) = (Pl.inRef b) := by rw [beq_eq_false_iff_ne.2 hb, hr]; rfl
    unfold Pl.stayedMk
    rw [if_pos hm, hl, if_pos rfl, if_pos rfl, if_neg hp]
    rw [hr0]
  rw [HV.out]
  have hI := fun w => inLink_any x w
  rw [hl] at hI
  have hW := fun w => writtenAs_any x.st.mode w
  rw [hm] at hW
  obtain ⟨hx1, hx2⟩ := hx
  obtain ⟨hy1, hy2⟩ := hy
  have hFA := fun w => farther_any x b w
  have hb' : ((b.toNat : Int) == 38) = false := (Pl.beq8n b 38 (by omega)).trans (beq_eq_false_iff_ne.2 hb)
  have hp' : ((b.toNat : Int) == 37) = false := (Pl.beq8n b 37 (by omega)).trans (beq_eq_false_iff_ne.2 hp)
  generalize Pl.fartherMk x.st.kind x.st.mode x.ma.far b = FA at hFA ⊢
  unfold mkVal mkCells
  unfold sxVal sxCells bs at hI hFA ⊢
  rw [hr] at hI hFA ⊢
  have HI := (show Hid _ from hI)
  clear hI HV hl hm hb hp
  have HFA := (show Hid _ from hFA)
  clear hFA
  go_enter Tryz.func133, Tryz.ntmps133
  go_wp2_with (first
    | (go_at_call 182; refine (fewer_any _ b _ (by omega) (by omega)).mono ?_; rintro e w' ⟨rfl, rfl⟩)
    | (go_at_call 154; refine (hW _).mono ?_; rintro e w' ⟨rfl, rfl⟩)
    | (go_at_call 183; refine (inRef_any b _).mono ?_; rintro e w' ⟨rfl, rfl⟩)
    | (go_at_call 153; refine (HI.out _).mono ?_; rintro e w' ⟨rfl, rfl⟩))
  refine (HFA.out _).mono ?_
  rintro e w1 ⟨rfl, hb1⟩
  have hw : Below w.heap.size w w1 := Below.trans (by repeat (first | refine Below.alloc ?_ (by simp <;> omega) _ | exact Below.refl _ _)) (hb1.mono (by simp <;> omega))
  have hn := (hb1.block (w.heap.size + 1 + 1) (by simp)).trans (heap3_1 w _ _ _ _)
  have hr : SlotN 5 w1 (w.heap.size + 1) := ⟨_, _, (hb1.block (w.heap.size + 1) (by simp)).trans (heap2_2 w _ _ _ _), rfl⟩
  have hs : SlotN 5 w1 (w.heap.size + 1 + 1) := ⟨_, _, hn, rfl⟩
  have n0 := cells_at_block hn 0 _ rfl
  have n1 := cells_at_block hn 1 _ rfl
  have n2 := cells_at_block hn 2 _ rfl
  have n3 := cells_at_block hn 3 _ rfl
  have n4 := cells_at_block hn 4 _ rfl
  have z4 := hs.thaw 4
  obtain ⟨v0, p0⟩ := hr.cell 0 (by omega)
  obtain ⟨v1, p1⟩ := hr.cell 1 (by omega)
  obtain ⟨v2, p2⟩ := hr.cell 2 (by omega)
  obtain ⟨v3, p3⟩ := hr.cell 3 (by omega)
  obtain ⟨v4, p4⟩ := hr.cell 4 (by omega)
  have f0 := hr.thaw 0
  have f1 := hr.thaw 1
  have f2 := hr.thaw 2
  have f3 := hr.thaw 3
  have f4 := hr.thaw 4
  have hr2 := hr.set ⟨w.heap.size + 1 + 1, 4, none⟩ (.int .i64 FA)
  have hw2 := hw.setCell (p := ⟨w.heap.size + 1 + 1, 4, none⟩) (by simp <;> omega) (.int .i64 FA)
  clear hn hs hr hb1 hw
  go_wp2_with fail
  refine bodyPost_set5 Tryz.results133 (w.heap.size + 1) _ Tryz.underlying160 rfl (by kernel_rfl) rfl hr2 rfl _ _ _ _ _ ?_
  exact ⟨rfl, below_set5 hw2 (by simp) _ _ _ _ _⟩

set_option maxRecDepth 100000 in
set_option maxHeartbeats 1600000 in
theorem stayed_link_noty (x : Pl.Sx) (b : UInt8) (w : World) (hx : -1000 ≤ x.ma.hex ∧ x.ma.hex ≤ 1000) (hy : -1000 ≤ x.ma.pct ∧ x.ma.pct ≤ 1000) (hm : Pl.writtenAs x.st.mode = 1) (hl : Pl.inLink x.st.kind x.st.mode = true) (hb : ¬ b = 38) (hr : x.ma.ref = false) (hp : b = 37) :
    Calls Tryz.prog 133 #[sxVal x, .int .u8 b.toNat] w fun e w' => e = .returned (mkVal (Pl.stayedMk x.st.kind x.st.mode x.ma b) false) ∧ Below w.heap.size w w' := by
  have HV : Hid (Pl.stayedMk x.st.kind x.st.mode x.ma b = ⟨false, Pl.fewer x.ma.hex b, 2, (Pl.fartherMk x.st.kind x.st.mode x.ma.far b)⟩) := by
    show _ = _
    have hr0 : (b == 38 || (x.ma.ref && Pl.inRef b)) = false := by rw [beq_eq_false_iff_ne.2 hb, hr]; rfl
    unfold Pl.stayedMk
    rw [if_pos hm, hl, if_pos rfl, if_pos rfl, if_pos hp]
    rw [hr0]
  rw [HV.out]
  have hI := fun w => inLink_any x w
  rw [hl] at hI
  have hW := fun w => writtenAs_any x.st.mode w
  rw [hm] at hW
  obtain ⟨hx1, hx2⟩ := hx
  obtain ⟨hy1, hy2⟩ := hy
  have hFA := fun w => farther_any x b w
  have hb' : ((b.toNat : Int) == 38) = false := (Pl.beq8n b 38 (by omega)).trans (beq_eq_false_iff_ne.2 hb)
  have hp' : ((b.toNat : Int) == 37) = true := by rw [hp]; rfl
  generalize Pl.fartherMk x.st.kind x.st.mode x.ma.far b = FA at hFA ⊢
  unfold mkVal mkCells
  unfold sxVal sxCells bs at hI hFA ⊢
  rw [hr] at hI hFA ⊢
  have HI := (show Hid _ from hI)
  clear hI HV hl hm hb hp
  have HFA := (show Hid _ from hFA)
  clear hFA
  go_enter Tryz.func133, Tryz.ntmps133
  go_wp2_with (first
    | (go_at_call 182; refine (fewer_any _ b _ (by omega) (by omega)).mono ?_; rintro e w' ⟨rfl, rfl⟩)
    | (go_at_call 154; refine (hW _).mono ?_; rintro e w' ⟨rfl, rfl⟩)
    | (go_at_call 183; refine (inRef_any b _).mono ?_; rintro e w' ⟨rfl, rfl⟩)
    | (go_at_call 153; refine (HI.out _).mono ?_; rintro e w' ⟨rfl, rfl⟩))
  refine (HFA.out _).mono ?_
  rintro e w1 ⟨rfl, hb1⟩
  have hw : Below w.heap.size w w1 := Below.trans (by repeat (first | refine Below.alloc ?_ (by simp <;> omega) _ | exact Below.refl _ _)) (hb1.mono (by simp <;> omega))
  have hn := (hb1.block (w.heap.size + 1 + 1) (by simp)).trans (heap3_1 w _ _ _ _)
  have hr : SlotN 5 w1 (w.heap.size + 1) := ⟨_, _, (hb1.block (w.heap.size + 1) (by simp)).trans (heap2_2 w _ _ _ _), rfl⟩
  have hs : SlotN 5 w1 (w.heap.size + 1 + 1) := ⟨_, _, hn, rfl⟩
  have n0 := cells_at_block hn 0 _ rfl
  have n1 := cells_at_block hn 1 _ rfl
  have n2 := cells_at_block hn 2 _ rfl
  have n3 := cells_at_block hn 3 _ rfl
  have n4 := cells_at_block hn 4 _ rfl
  have z4 := hs.thaw 4
  obtain ⟨v0, p0⟩ := hr.cell 0 (by omega)
  obtain ⟨v1, p1⟩ := hr.cell 1 (by omega)
  obtain ⟨v2, p2⟩ := hr.cell 2 (by omega)
  obtain ⟨v3, p3⟩ := hr.cell 3 (by omega)
  obtain ⟨v4, p4⟩ := hr.cell 4 (by omega)
  have f0 := hr.thaw 0
  have f1 := hr.thaw 1
  have f2 := hr.thaw 2
  have f3 := hr.thaw 3
  have f4 := hr.thaw 4
  have hr2 := hr.set ⟨w.heap.size + 1 + 1, 4, none⟩ (.int .i64 FA)
  have hw2 := hw.setCell (p := ⟨w.heap.size + 1 + 1, 4, none⟩) (by simp <;> omega) (.int .i64 FA)
  clear hn hs hr hb1 hw
  go_wp2_with fail
  refine bodyPost_set5 Tryz.results133 (w.heap.size + 1) _ Tryz.underlying160 rfl (by kernel_rfl) rfl hr2 rfl _ _ _ _ _ ?_
  exact ⟨rfl, below_set5 hw2 (by simp) _ _ _ _ _⟩

set_option maxRecDepth 100000 in
set_option maxHeartbeats 1600000 in
theorem stayed_link_notn (x : Pl.Sx) (b : UInt8) (w : World) (hx : -1000 ≤ x.ma.hex ∧ x.ma.hex ≤ 1000) (hy : -1000 ≤ x.ma.pct ∧ x.ma.pct ≤ 1000) (hm : Pl.writtenAs x.st.mode = 1) (hl : Pl.inLink x.st.kind x.st.mode = true) (hb : ¬ b = 38) (hr : x.ma.ref = false) (hp : ¬ b = 37) :
    Calls Tryz.prog 133 #[sxVal x, .int .u8 b.toNat] w fun e w' => e = .returned (mkVal (Pl.stayedMk x.st.kind x.st.mode x.ma b) false) ∧ Below w.heap.size w w' := by
  have HV : Hid (Pl.stayedMk x.st.kind x.st.mode x.ma b = ⟨false, Pl.fewer x.ma.hex b, (Pl.fewer x.ma.pct b), (Pl.fartherMk x.st.kind x.st.mode x.ma.far b)⟩) := by
    show _ = _
    have hr0 : (b == 38 || (x.ma.ref && Pl.inRef b)) = false := by rw [beq_eq_false_iff_ne.2 hb, hr]; rfl
    unfold Pl.stayedMk
    rw [if_pos hm, hl, if_pos rfl, if_pos rfl, if_neg hp]
    rw [hr0]
  rw [HV.out]
  have hI := fun w => inLink_any x w
  rw [hl] at hI
  have hW := fun w => writtenAs_any x.st.mode w
  rw [hm] at hW
  obtain ⟨hx1, hx2⟩ := hx
  obtain ⟨hy1, hy2⟩ := hy
  have hFA := fun w => farther_any x b w
  have hb' : ((b.toNat : Int) == 38) = false := (Pl.beq8n b 38 (by omega)).trans (beq_eq_false_iff_ne.2 hb)
  have hp' : ((b.toNat : Int) == 37) = false := (Pl.beq8n b 37 (by omega)).trans (beq_eq_false_iff_ne.2 hp)
  generalize Pl.fartherMk x.st.kind x.st.mode x.ma.far b = FA at hFA ⊢
  unfold mkVal mkCells
  unfold sxVal sxCells bs at hI hFA ⊢
  rw [hr] at hI hFA ⊢
  have HI := (show Hid _ from hI)
  clear hI HV hl hm hb hp
  have HFA := (show Hid _ from hFA)
  clear hFA
  go_enter Tryz.func133, Tryz.ntmps133
  go_wp2_with (first
    | (go_at_call 182; refine (fewer_any _ b _ (by omega) (by omega)).mono ?_; rintro e w' ⟨rfl, rfl⟩)
    | (go_at_call 154; refine (hW _).mono ?_; rintro e w' ⟨rfl, rfl⟩)
    | (go_at_call 183; refine (inRef_any b _).mono ?_; rintro e w' ⟨rfl, rfl⟩)
    | (go_at_call 153; refine (HI.out _).mono ?_; rintro e w' ⟨rfl, rfl⟩))
  refine (HFA.out _).mono ?_
  rintro e w1 ⟨rfl, hb1⟩
  have hw : Below w.heap.size w w1 := Below.trans (by repeat (first | refine Below.alloc ?_ (by simp <;> omega) _ | exact Below.refl _ _)) (hb1.mono (by simp <;> omega))
  have hn := (hb1.block (w.heap.size + 1 + 1) (by simp)).trans (heap3_1 w _ _ _ _)
  have hr : SlotN 5 w1 (w.heap.size + 1) := ⟨_, _, (hb1.block (w.heap.size + 1) (by simp)).trans (heap2_2 w _ _ _ _), rfl⟩
  have hs : SlotN 5 w1 (w.heap.size + 1 + 1) := ⟨_, _, hn, rfl⟩
  have n0 := cells_at_block hn 0 _ rfl
  have n1 := cells_at_block hn 1 _ rfl
  have n2 := cells_at_block hn 2 _ rfl
  have n3 := cells_at_block hn 3 _ rfl
  have n4 := cells_at_block hn 4 _ rfl
  have z4 := hs.thaw 4
  obtain ⟨v0, p0⟩ := hr.cell 0 (by omega)
  obtain ⟨v1, p1⟩ := hr.cell 1 (by omega)
  obtain ⟨v2, p2⟩ := hr.cell 2 (by omega)
  obtain ⟨v3, p3⟩ := hr.cell 3 (by omega)
  obtain ⟨v4, p4⟩ := hr.cell 4 (by omega)
  have f0 := hr.thaw 0
  have f1 := hr.thaw 1
  have f2 := hr.thaw 2
  have f3 := hr.thaw 3
  have f4 := hr.thaw 4
  have hr2 := hr.set ⟨w.heap.size + 1 + 1, 4, none⟩ (.int .i64 FA)
  have hw2 := hw.setCell (p := ⟨w.heap.size + 1 + 1, 4, none⟩) (by simp <;> omega) (.int .i64 FA)
  clear hn hs hr hb1 hw
  go_wp2_with fail
  refine bodyPost_set5 Tryz.results133 (w.heap.size + 1) _ Tryz.underlying160 rfl (by kernel_rfl) rfl hr2 rfl _ _ _ _ _ ?_
  exact ⟨rfl, below_set5 hw2 (by simp) _ _ _ _ _⟩

theorem stayed_any (x : Pl.Sx) (b : UInt8) (w : World) (hx : -1000 ≤ x.ma.hex ∧ x.ma.hex ≤ 1000) (hy : -1000 ≤ x.ma.pct ∧ x.ma.pct ≤ 1000) :
    Calls Tryz.prog 133 #[sxVal x, .int .u8 b.toNat] w fun e w' => e = .returned (mkVal (Pl.stayedMk x.st.kind x.st.mode x.ma b) false) ∧ Below w.heap.size w w' := by
  by_cases hm : Pl.writtenAs x.st.mode = 1
  · by_cases hl : Pl.inLink x.st.kind x.st.mode = true
    · by_cases hb : b = 38
      · exact stayed_link_ampn x b w hx hy hm hl hb (by rw [hb]; decide)
      · by_cases hr : x.ma.ref = true
        · by_cases hp : b = 37
          · exact stayed_link_refy x b w hx hy hm hl hb hr hp
          · exact stayed_link_refn x b w hx hy hm hl hb hr hp
        · have hr := Bool.eq_false_iff.2 hr
          by_cases hp : b = 37
          · exact stayed_link_noty x b w hx hy hm hl hb hr hp
          · exact stayed_link_notn x b w hx hy hm hl hb hr hp
    · have hl := Bool.eq_false_iff.2 hl
      by_cases hb : b = 38
      · exact stayed_text_amp x b w hx hy hm hl hb
      · by_cases hr : x.ma.ref = true
        · exact stayed_text_ref x b w hx hy hm hl hb hr
        · exact stayed_text_not x b w hx hy hm hl hb (Bool.eq_false_iff.2 hr)
  · exact stayed_out x b w hx hm

end Go.Proofs.YtfkhljmiehdgmaaGreatDoor
