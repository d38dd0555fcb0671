/-
  The walks of package markup: the end of an element.
-/
import Derived.Test.YtbagkoemaalnmaaDoorPgWS
namespace Go.Proofs.YtbagkoemaalnmaaDoor
open Go.RowKit

set_option maxRecDepth 100000 in
set_option maxHeartbeats 800000 in
theorem ending_any (s : Pl.St) (w : World) (hs : s.elem.length ≤ 1000) :
    Calls Tryd.prog 86 #[stVal s] w fun e w' => e = .returned (.string ⟨s.ending.toArray⟩) ∧ Below w.heap.size w w' := by
  have hz : (ByteArray.mk s.elem.toArray).size = s.elem.length := by simp [ByteArray.size]
  unfold stVal stCells bs
  go_enter Tryd.func86, Tryd.ntmps86
  go_wp2
  go_ret
  exact ⟨ret_str (by unfold Pl.St.ending; apply ByteArray.ext; simp), (Below.refl _ _).alloc (Nat.le_refl _) _⟩

/-- a state in a block: its cells -/
structure StAt (w : World) (g : Nat) (s : Pl.St) : Prop where
  mode : w.cell? ⟨g, 0, none⟩ = some (.int .u8 (s.mode : Int))
  name : w.cell? ⟨g, 1, none⟩ = some (.string ⟨s.name.toArray⟩)
  elem : w.cell? ⟨g, 2, none⟩ = some (.string ⟨s.elem.toArray⟩)
  kind : w.cell? ⟨g, 3, none⟩ = some (.int .i64 s.kind)
  read : w.cell? ⟨g, 4, none⟩ = some (.int .i64 (s.read : Int))
  esc : w.cell? ⟨g, 5, none⟩ = some (.bool s.esc)
theorem stAt_of {w : World} {g : Nat} {s : Pl.St} {t : TypeId} {fz : Nat × Nat} (h : w.heap[g]? = some (.cells (stCells s) t fz)) : StAt w g s :=
  ⟨cells_at_block h 0 _ rfl, cells_at_block h 1 _ rfl, cells_at_block h 2 _ rfl, cells_at_block h 3 _ rfl, cells_at_block h 4 _ rfl, cells_at_block h 5 _ rfl⟩
theorem stAt_alloc (w : World) (s : Pl.St) (t : TypeId) : StAt (w.alloc (.cells (stCells s) t)) w.heap.size s := stAt_of (heap_alloc_new w _)
theorem StAt.drew {w : World} {g : Nat} {s : Pl.St} (h : StAt w g s) : StAt w.drew g s := ⟨h.mode, h.name, h.elem, h.kind, h.read, h.esc⟩
theorem StAt.kept {w w' : World} {B g : Nat} {s : Pl.St} (h : StAt w g s) (hb : Below B w w') (hB : g < B) : StAt w' g s :=
  ⟨(hb.cell (p := ⟨g, 0, none⟩) hB).trans h.mode, (hb.cell (p := ⟨g, 1, none⟩) hB).trans h.name, (hb.cell (p := ⟨g, 2, none⟩) hB).trans h.elem, (hb.cell (p := ⟨g, 3, none⟩) hB).trans h.kind, (hb.cell (p := ⟨g, 4, none⟩) hB).trans h.read, (hb.cell (p := ⟨g, 5, none⟩) hB).trans h.esc⟩

theorem ending_len (s : Pl.St) : s.ending.length = s.elem.length + 2 := by simp [Pl.St.ending]

theorem get_arr (E : List UInt8) (k : Nat) (h : k < (ByteArray.mk E.toArray).size) : E[k]? = some ((ByteArray.mk E.toArray)[k]'h) := by
  rw [List.getElem?_eq_getElem (by simpa [ByteArray.size] using h)]; rfl
theorem get_yes {E : List UInt8} {k : Nat} {c : UInt8} {h : k < (ByteArray.mk E.toArray).size} (e : ((c.toNat : Int) == ((ByteArray.mk E.toArray)[k]'h).toNat) = true) : E[k]? = some c := by
  rw [Pl.beq8, beq_iff_eq] at e
  rw [get_arr E k h, e]
theorem get_no {E : List UInt8} {k : Nat} {c : UInt8} {h : k < (ByteArray.mk E.toArray).size} (e : ((c.toNat : Int) == ((ByteArray.mk E.toArray)[k]'h).toNat) = false) : ¬ E[k]? = some c := by
  rw [Pl.beq8, beq_eq_false_iff_ne] at e
  rw [get_arr E k h]
  intro q
  exact e (Option.some.inj q).symm
theorem get_none {E : List UInt8} {k : Nat} {c : UInt8} (h : ¬ k < E.length) : ¬ E[k]? = some c := by
  rw [List.getElem?_eq_none (by omega)]; simp

theorem first_yes {E : List UInt8} {c : UInt8} {h : 0 < (ByteArray.mk E.toArray).size} (h0 : E[0]? = some 60) (e : ((c.toNat : Int) == ((ByteArray.mk E.toArray)[0]'h).toNat) = true) : c = 60 := by
  have := get_yes e
  rw [h0] at this
  exact (Option.some.inj this).symm
theorem first_no {E : List UInt8} {c : UInt8} {h : 0 < (ByteArray.mk E.toArray).size} (h0 : E[0]? = some 60) (e : ((c.toNat : Int) == ((ByteArray.mk E.toArray)[0]'h).toNat) = false) : ¬ c = 60 := by
  rintro rfl
  exact get_no e h0

set_option maxRecDepth 100000 in
set_option maxHeartbeats 800000 in
theorem readEnd_any (s : Pl.St) (b : UInt8) (w : World) (hs : s.elem.length ≤ 1000) :
    Calls Tryd.prog 65 #[stVal s, .int .u8 b.toNat] w fun e w' => e = .returned (.int .i64 (s.readEnd b : Nat)) ∧ Below w.heap.size w w' := by
  have hz : (ByteArray.mk s.ending.toArray).size = s.ending.length := by simp [ByteArray.size]
  have hl := ending_len s
  have he := fun w => ending_any s w hs
  have HD : Hid (s.readEnd b = if s.ending[s.read]? = some (Pl.small b) then s.read + 1 else if b = 60 then 1 else 0) := rfl
  have HZ : Hid (s.ending[0]? = some 60) := rfl
  have hlo : s.ending.length ≤ 1002 := by omega
  have h2 : 0 < s.ending.length := by omega
  generalize s.ending = E at hz hl he HD HZ hlo h2
  clear hl
  have h2' : (0 : Int) < (E.length : Int) := by omega
  have hst := stAt_alloc w s 69
  unfold stCells bs at hst
  unfold stVal stCells bs
  by_cases hlt : s.read < E.length
  · have hlt' : (s.read : Int) < (E.length : Int) := by omega
    have hle : s.read + 1 ≤ 2000 := by omega
    clear hlo
    go_enter Tryd.func65, Tryd.ntmps65
    go_wp2_with fail
    refine (he _).mono ?_
    rintro e w1 ⟨rfl, hb1⟩
    have hst1 := hst.kept hb1 (by simp)
    have q4 := hst1.read
    have hw : Below w.heap.size w w1 := ((Below.refl _ _).alloc (Nat.le_refl _) _).trans (hb1.mono (by simp))
    go_wp2_with fail
    go_quiet ((go_at_call 87; refine quiet_same (SmallByte_any b _)))
    go_wp2
    · go_ret
      exact ⟨ret_int (by rw [HD.out, if_pos (get_yes ‹_›)]; rfl), below_drewN hw _⟩
    · have n1 := ‹(((Pl.small b).toNat : Int) == (((ByteArray.mk E.toArray)[s.read]'(by rw [hz]; exact hlt)).toNat : Int)) = false›
      have n2 := ‹((b.toNat : Int) == (((ByteArray.mk E.toArray)[0]'(by rw [hz]; exact h2)).toNat : Int)) = true›
      go_ret
      exact ⟨ret_int (by rw [HD.out, if_neg (get_no n1), if_pos (first_yes HZ.out n2)]; rfl), below_drewN hw _⟩
    · have n1 := ‹(((Pl.small b).toNat : Int) == (((ByteArray.mk E.toArray)[s.read]'(by rw [hz]; exact hlt)).toNat : Int)) = false›
      have n2 := ‹((b.toNat : Int) == (((ByteArray.mk E.toArray)[0]'(by rw [hz]; exact h2)).toNat : Int)) = false›
      go_ret
      exact ⟨ret_int (by rw [HD.out, if_neg (get_no n1), if_neg (first_no HZ.out n2)]; rfl), below_drewN hw _⟩
  · have hlt' : decide ((s.read : Int) < (E.length : Int)) = false := by rw [decide_eq_false_iff_not]; omega
    clear hlo
    go_enter Tryd.func65, Tryd.ntmps65
    go_wp2_with fail
    refine (he _).mono ?_
    rintro e w1 ⟨rfl, hb1⟩
    have hst1 := hst.kept hb1 (by simp)
    have q4 := hst1.read
    have hw : Below w.heap.size w w1 := ((Below.refl _ _).alloc (Nat.le_refl _) _).trans (hb1.mono (by simp))
    go_wp2_with fail
    go_quiet (fail)
    go_wp2
    · have n2 := ‹((b.toNat : Int) == (((ByteArray.mk E.toArray)[0]'(by rw [hz]; exact h2)).toNat : Int)) = true›
      go_ret
      exact ⟨ret_int (by rw [HD.out, if_neg (get_none hlt), if_pos (first_yes HZ.out n2)]; rfl), below_drewN hw _⟩
    · have n2 := ‹((b.toNat : Int) == (((ByteArray.mk E.toArray)[0]'(by rw [hz]; exact h2)).toNat : Int)) = false›
      go_ret
      exact ⟨ret_int (by rw [HD.out, if_neg (get_none hlt), if_neg (first_no HZ.out n2)]; rfl), below_drewN hw _⟩

end Go.Proofs.YtbagkoemaalnmaaDoor
