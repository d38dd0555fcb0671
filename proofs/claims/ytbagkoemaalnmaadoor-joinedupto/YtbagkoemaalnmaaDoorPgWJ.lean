/-
  The walk of package markup: the state behind a byte, ahead of the contents: a byte that no row has.
-/
import Derived.Test.YtbagkoemaalnmaaDoorPgWG
import Derived.Test.YtbagkoemaalnmaaDoorPgWH
import Derived.Test.YtbagkoemaalnmaaDoorPgScope
namespace Go.Proofs.YtbagkoemaalnmaaDoor
open Go.RowKit

set_option maxRecDepth 100000 in
set_option maxHeartbeats 3200000 in
theorem behind_low_b (s : Pl.St) (b : UInt8) (w : World) (ht : PTabs w) (hn : s.name.length ≤ 9) (hm : s.mode < 19) (hT : Pl.stepOn s.mode b = 0) (hR : Pl.readInTab.getD s.mode 0 = 0) :
    Calls Tryd.prog 46 #[stVal s, .int .u8 b.toNat] w fun e w' => e = .returned (stVal (s.behind b)) ∧ Below w.heap.size w w' := by
  have he : Pl.escapesTab.getD s.mode false = false := by
    have : ∀ m, m < 19 → Pl.escapesTab.getD m false = false := by decide
    exact this _ hm
  have HV : Hid (s.behind b = s.led (Pl.or3 0 (Pl.othersTab.getD s.mode 0) s.mode) b) := by
    show _ = _
    unfold Pl.St.behind Pl.St.quiet Pl.St.table Pl.St.table2
    rw [if_neg (by omega), he, Bool.false_and, if_neg (by simp), if_neg (fun h => h.2 hR), hT]
  have ht2 := fun o o' => (ht.alloc o).alloc o'
  have c0 := fun o o' => bools_at (ht2 o o').es s.mode (by show _ < 34; omega)
  have c1 := fun o o' => modes_at (ht2 o o').rd s.mode (by show _ < 34; omega)
  have c2 := fun o o' => modes_at (ht2 o o').ot s.mode (by show _ < 34; omega)
  have hS := fun w h => stepOn_any s.mode b w h
  have hL := led_any s (Pl.or3 0 (Pl.othersTab.getD s.mode 0) s.mode) b
  have hL := fun w h => hL w h hn (by omega)
  rw [hT] at hS
  rw [HV.out]
  generalize Pl.othersTab.getD s.mode 0 = O at HV c2 hL ⊢
  have hm' : decide ((19 : Int) ≤ (s.mode : Int)) = false := by rw [decide_eq_false_iff_not]; omega
  have hm34 : (s.mode : Int) < 34 := by omega
  simp only [he, hR] at c0 c1
  generalize s.led (Pl.or3 0 O s.mode) b = Y at hL ⊢
  obtain ⟨m1, n1, e1, k1, r1, x1⟩ := Y
  unfold stVal stCells bs at hL ⊢
  simp only at hL ⊢
  have HL := (show Hid _ from hL)
  clear hL hT hm hn he hR HV
  go_enter Tryd.func46, Tryd.ntmps46
  go_wp2
  go_step3
  go_wp2_with fail
  go_step3
  go_wp2_with fail
  refine (hS _ (ht2 _ _)).mono ?_
  rintro e w' ⟨rfl, rfl⟩
  go_wp2_with fail
  go_region_with (first
    | (go_at_call 68; refine (or_drew 0 O s.mode _ _ _ (by simp)).mono ?_; rintro e w' ⟨rfl, rfl⟩)
    | (go_at_call 67; refine (HL.out _ (by repeat (first | exact ht | apply PTabs.alloc | apply PTabs.drew))).mono ?_; rintro e w1 ⟨rfl, hb1⟩
       have hsl : Slot6 w1 (w.heap.size + 1) := Slot6.kept (by repeat (first | exact slot6_new _ _ _ _ (by simp) rfl | apply Slot6.drew | refine Slot6.alloc ?_ _)) hb1 (by simp)
       have hw : Below w.heap.size w w1 := Below.trans (by repeat (first | exact Below.refl _ _ | refine Below.alloc ?_ (by simp <;> omega) _ | apply Below.drew)) (hb1.mono (by simp <;> omega))
       obtain ⟨v0, p0⟩ := hsl.cell 0 (by omega)
       obtain ⟨v1, p1⟩ := hsl.cell 1 (by omega)
       obtain ⟨v2, p2⟩ := hsl.cell 2 (by omega)
       obtain ⟨v3, p3⟩ := hsl.cell 3 (by omega)
       obtain ⟨v4, p4⟩ := hsl.cell 4 (by omega)
       obtain ⟨v5, p5⟩ := hsl.cell 5 (by omega)
       have f0 := hsl.thaw 0
       have f1 := hsl.thaw 1
       have f2 := hsl.thaw 2
       have f3 := hsl.thaw 3
       have f4 := hsl.thaw 4
       have f5 := hsl.thaw 5))
  all_goals
    go_wp2
    try rw [Exit.noGoto_ret]
    refine bodyPost_set6 Tryd.results46 (w.heap.size + 1) _ Tryd.underlying69 rfl (by kernel_rfl) rfl hsl rfl _ _ _ _ _ _ ?_
    exact ⟨rfl, below_set6 hw (by simp) _ _ _ _ _ _⟩

end Go.Proofs.YtbagkoemaalnmaaDoor
