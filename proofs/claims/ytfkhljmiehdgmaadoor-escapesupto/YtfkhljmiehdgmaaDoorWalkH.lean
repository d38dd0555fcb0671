/-
  The walk of the program's Clean: every rune of the value goes into a strings.Builder.
-/
import Derived.Test.YtfkhljmiehdgmaaDoorShelf
import Derived.Test.YtfkhljmiehdgmaaDoorWalkA
import Derived.Test.YtfkhljmiehdgmaaDoorPlainG
import Derived.BigCall
namespace Go.Proofs.YtfkhljmiehdgmaaDoor
open Go.RowKit

theorem rc_len (r : Int) : (Lib.runeCells r).length ≤ 4 := (Lib.runeCells_le r).2
theorem fresh_head (w : World) : (w.alloc (Obj.cells #[Value.pointer none, Value.slice none 0 0] 54)).heap[w.heap.size]? = some (.cells #[.pointer none, .slice none 0 0] 54 (0, 0)) := by
  show (w.heap.push _)[w.heap.size]? = _
  simp

set_option maxRecDepth 1000000 in
set_option maxHeartbeats 4000000 in
theorem clean_any (s : ByteArray) (w : World) (hs : s.size ≤ 100000000) :
    Calls Tryd.prog 21 #[.string s] w fun e w' => e = .returned (.string ⟨(Pl.clean s.data.toList).toArray⟩) ∧ Below w.heap.size w w' := by
  go_enter Tryd.func21, Tryd.ntmps21
  go_wp2_with fail
  refine (Tryd.Builder_Grow_fresh w.heap.size w.heap.size s.size _ (Nat.le_refl _) (fresh_head w) (by simp) (by omega)).mono ?_
  rintro e W1 ⟨rfl, hB1, hbe⟩
  have hz1 : w.heap.size + 1 ≤ W1.heap.size := by have := hbe.size; simpa using this
  have hbw1 : Below w.heap.size w W1 := ((Below.refl _ w).alloc (Nat.le_refl _) _).trans hbe
  go_wp2
  go_loopw [] (fun wr => ∃ (pos : Nat) (acc : List UInt8), Lib.IsBuilderF 54 5 w.heap.size w.heap.size (Lib.byteCells acc) wr ∧ wr.heap[W1.heap.size]? = some (.stringIter s pos) ∧ Below w.heap.size w wr ∧ acc ++ Pl.clean (s.data.toList.drop pos) = Pl.clean s.data.toList ∧ acc.length ≤ 4 * pos ∧ pos ≤ s.size) (fun wr => s.size - wr.iterPos (W1.heap.size))
  case atStart =>
    refine ⟨0, [], (Lib.IsBuilderF.of (Or.inr hB1)).alloc _, ?_, hbw1.alloc (by omega) _, rfl, by simp, by omega⟩
    exact World.iter_heap W1 s 0
  case round =>
    obtain ⟨pos, acc, hI, hit, hbw, hacc, hal, hps⟩ := hrel
    have HA : Hid (acc ++ Pl.clean (s.data.toList.drop pos) = Pl.clean s.data.toList) := hacc
    clear hacc
    have hsz : W1.heap.size < wr.heap.size := (Array.getElem?_eq_some_iff.1 hit).1
    by_cases hp : pos < s.size
    · have hnx : ∀ ty, (Instr.next (.pointer (some ⟨W1.heap.size, 0, none⟩)) true ty).run Tryd.prog wr = _ := fun ty => Lib.run_next_any_at wr W1.heap.size s pos ty hit hp
      have hwd : 1 ≤ (Utf8.decode s pos).2 := Lib.decode_width_pos s pos hp
      have hd1 := decode_le s pos
      have hwl : pos + (Utf8.decode s pos).2 ≤ s.size := by
        have := Lib.decodeL_le (s.data.toList.drop pos) (by rw [Pl.drop_at s pos hp]; simp)
        rw [← Pl.decode_drop] at this
        rw [List.length_drop, Pl.len_eq] at this; omega
      have hst : Hid (Pl.clean (s.data.toList.drop pos) = _) := Pl.clean_step s pos hp
      have hI2 := hI.iterAt hit (pos + (Utf8.decode s pos).2)
      have hit2 := Lib.iterAt_heap wr W1.heap.size s pos (pos + (Utf8.decode s pos).2) hit
      have hbw2 := Lib.below_iterAt hbw (k := W1.heap.size) (by omega) s (pos + (Utf8.decode s pos).2)
      have hsz2 : w.heap.size ≤ (wr.iterAt W1.heap.size s (pos + (Utf8.decode s pos).2)).heap.size := by rw [Lib.iterAt_size]; omega
      by_cases h0 : ((Utf8.decode s pos).1 : Int) = 0
      · have H0 : Hid (((Utf8.decode s pos).1 : Int) = 0) := h0
        have h1 : (((Utf8.decode s pos).1 : Int) == 0) = true := beq_iff_eq.2 h0
        clear h0
        go_wp2_with (go_at_call 40; refine (Tryd.Builder_WriteRune_k w.heap.size w.heap.size _ 65533 (by omega) (by omega) _ hI2 (by rw [Lib.byteCells_length]; omega) hsz2).mono ?_)
        rintro e W2 ⟨rfl, h2, b2, k2⟩
        go_wp2
        go_roundw
        case rel =>
          refine ⟨pos + (Utf8.decode s pos).2, acc ++ Lib.encodeRune 65533, ?_, k2.iter hit2 (by omega), hbw2.trans b2, ?_, ?_, hwl⟩
          · rw [Lib.byteCells_append, Lib.byteCells_encodeRune]; exact Or.inr h2
          · rw [← HA.out, hst.out, if_pos H0.out, List.append_assoc]
          · have hl4 := rc_len 65533
            rw [Lib.runeCells_length] at hl4
            simp only [List.length_append]; omega
        case measure =>
          simp only [World.iterPos, k2.iter hit2 (by omega), hit]
          omega
      · have H0 : Hid (¬ ((Utf8.decode s pos).1 : Int) = 0) := h0
        have h1 : (((Utf8.decode s pos).1 : Int) == 0) = false := beq_eq_false_iff_ne.2 h0
        clear h0
        go_wp2_with (go_at_call 40; refine (Tryd.Builder_WriteRune_k w.heap.size w.heap.size _ _ (by omega) (by omega) _ hI2 (by rw [Lib.byteCells_length]; omega) hsz2).mono ?_)
        rintro e W2 ⟨rfl, h2, b2, k2⟩
        go_wp2
        go_roundw
        case rel =>
          refine ⟨pos + (Utf8.decode s pos).2, acc ++ Lib.encodeRune ((Utf8.decode s pos).1 : Int), ?_, k2.iter hit2 (by omega), hbw2.trans b2, ?_, ?_, hwl⟩
          · rw [Lib.byteCells_append, Lib.byteCells_encodeRune]; exact Or.inr h2
          · rw [← HA.out, hst.out, if_neg H0.out, List.append_assoc]
          · have hl4 := rc_len ((Utf8.decode s pos).1 : Int)
            rw [Lib.runeCells_length] at hl4
            simp only [List.length_append]; omega
        case measure =>
          simp only [World.iterPos, k2.iter hit2 (by omega), hit]
          omega
    · have hnx : ∀ ty, (Instr.next (.pointer (some ⟨W1.heap.size, 0, none⟩)) true ty).run Tryd.prog wr = _ := fun ty => Lib.run_next_end_at wr W1.heap.size s pos ty hit hp
      go_wp2_with (go_at_call 41; refine (Tryd.Builder_String_any_k w.heap.size w.heap.size acc _ hI (by omega)).mono ?_)
      rintro e W2 ⟨rfl, _, b2, _⟩
      go_wp2
      go_ret
      have e := HA.out
      rw [Pl.drop_end s pos hp, Pl.clean_nil, List.append_nil] at e
      exact ⟨ret_str (by rw [← e]), hbw.trans b2⟩

end Go.Proofs.YtfkhljmiehdgmaaDoor
