/-
  Plain laws: what a byte does to a state of the program, by cases. No program is named here.
-/
import Derived.Test.YtfkhljmiehdgmaaDoorPgA
namespace Go.Proofs.YtfkhljmiehdgmaaDoor.Pl

theorem quiet_a (s : St) (b : UInt8) (hq : (escapesTab.getD s.mode false && (s.esc || b == 92)) = false) (hT : ¬ stepOn s.mode b = 0) : s.quiet b = s.led (or3 (stepOn s.mode b) (othersTab.getD s.mode 0) s.mode) b := by
  unfold St.quiet St.table St.table2
  rw [hq, if_neg (by simp), if_neg (fun h => hT h.1)]
theorem quiet_b (s : St) (b : UInt8) (hq : (escapesTab.getD s.mode false && (s.esc || b == 92)) = false) (hT : stepOn s.mode b = 0) (hR : readInTab.getD s.mode 0 = 0) : s.quiet b = s.led (or3 0 (othersTab.getD s.mode 0) s.mode) b := by
  unfold St.quiet St.table St.table2
  rw [hq, if_neg (by simp), if_neg (fun h => h.2 hR), hT]
theorem quiet_c (s : St) (b : UInt8) (R : Nat) (hq : (escapesTab.getD s.mode false && (s.esc || b == 92)) = false) (hT : stepOn s.mode b = 0) (hR : readInTab.getD s.mode 0 = R) (h0 : R ≠ 0) : s.quiet b = (St.mk R s.name s.elem s.kind s.read s.esc).led (or3 (stepOn R b) (othersTab.getD R 0) R) b := by
  unfold St.quiet St.table St.table2
  rw [hq, if_neg (by simp)]
  unfold around
  rw [hR, if_pos ⟨hT, h0⟩]
theorem quiet_e (s : St) (b : UInt8) (hq : (escapesTab.getD s.mode false && (s.esc || b == 92)) = true) : s.quiet b = ⟨s.mode, s.name, s.elem, s.kind, s.read, !s.esc⟩ := by
  unfold St.quiet
  rw [hq, if_pos rfl]

end Go.Proofs.YtfkhljmiehdgmaaDoor.Pl
