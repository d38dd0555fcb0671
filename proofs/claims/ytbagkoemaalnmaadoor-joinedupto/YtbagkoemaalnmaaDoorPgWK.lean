/-
  The walk of package markup: the state behind a byte, ahead of the contents: a byte that is read in Text.
-/
import Derived.Test.YtbagkoemaalnmaaDoorPgWG
import Derived.Test.YtbagkoemaalnmaaDoorPgWH
import Derived.Test.YtbagkoemaalnmaaDoorPgScope
namespace Go.Proofs.YtbagkoemaalnmaaDoor
open Go.RowKit

set_option maxRecDepth 100000 in
set_option maxHeartbeats 3200000 in
theorem behind_low_c (s : Pl.St) (b : UInt8) (w : World) (ht : PTabs w) (hn : s.name.length ≤ 9) (hm : s.mode = 2) (hT : Pl.stepOn 2 b = 0) (hT1 : ¬ Pl.stepOn 1 b = 0) :
    Calls Tryd.prog 46 #[stVal s, .int .u8 b.toNat] w fun e w' => e = .returned (stVal (s.behind b)) ∧ Below w.heap.size w w' := by
  have HV : Hid (s.behind b = (Pl.St.mk 1 s.name s.elem s.kind s.read s.esc).led (Pl.or3 (Pl.stepOn 1 b) 0 1) b) := by
    show _ = _
    unfold Pl.St.behind Pl.St.quiet Pl.St.table Pl.St.table2
    rw [if_neg (by omega), hm, show Pl.escapesTab.getD 2 false = false from rfl, Bool.false_and, if_neg (by simp), if_pos ⟨hT, by decide⟩]; rfl
  have ht2 := fun o o' => (ht.alloc o).alloc o'
  have c0 := fun o o' => bools_at (ht2 o o').es 2 (by decide)
  have c1 := fun o o' => modes_at (ht2 o o').rd 2 (by decide)
  have d1 := fun o o' => modes_at (ht2 o o').rd 1 (by decide)
  have d2 := fun o o' => modes_at (ht2 o o').ot 1 (by decide)
  rw [show Pl.escapesTab.getD 2 false = false from rfl] at c0
  rw [show Pl.readInTab.getD 2 0 = 1 from rfl] at c1
  rw [show Pl.readInTab.getD 1 0 = 0 from rfl] at d1
  rw [show Pl.othersTab.getD 1 0 = 0 from rfl] at d2
  have hS := fun w h => stepOn_any 2 b w h
  have hS1 := fun w h => stepOn_any 1 b w h
  have hL := led_any (Pl.St.mk 1 s.name s.elem s.kind s.read s.esc) (Pl.or3 (Pl.stepOn 1 b) 0 1) b
  have hL := fun w h => hL w h hn (by show 1 ≤ 33; omega)
  rw [hT] at hS
  rw [HV.out]
  generalize Pl.stepOn 1 b = T at hS1 hT1 hL ⊢
  have hT' : ((T : Int) == 0) = false := by rw [beq_eq_false_iff_ne]; omega
  generalize Pl.St.led _ _ _ = Y at hL ⊢
  obtain ⟨m1, n1, e1, k1, r1, x1⟩ := Y
  unfold stVal stCells bs at hL ⊢
  rw [hm]
  simp only at hL ⊢
  have HL := (show Hid _ from hL)
  clear hL hT hm hn hT1 HV
  go_enter Tryd.func46, Tryd.ntmps46
  go_wp2
  refine wp_scope_once 0 rfl ?_
  generalize hQ : Exit.jump 0 _ _ = QQ
  have HQ := (show Hid _ from hQ)
  clear hQ
  go_wp2_with fail
  go_step3
  go_wp2_with fail
  refine (hS _ (ht2 _ _)).mono ?_
  rintro e w' ⟨rfl, rfl⟩
  go_wp2_with fail
  go_step3
  rw [← HQ.out]
  clear HQ
  refine ⟨rfl, ?_⟩
  go_wp2_with fail
  refine (hS1 _ (ht2 _ _)).mono ?_
  rintro e w' ⟨rfl, rfl⟩
  go_wp2_with fail
  go_region_with (first
    | (go_at_call 68; refine (or_drew T 0 1 _ _ _ (by simp)).mono ?_; rintro e w' ⟨rfl, rfl⟩)
    | (go_at_call 67; refine (HL.out _ (by repeat (first | exact ht | apply PTabs.alloc | apply PTabs.drew))).mono ?_; rintro e w1 ⟨rfl, hb1⟩
       have hsl : Slot6 w1 (w.heap.size + 1) := Slot6.kept (by repeat (first | exact slot6_new _ _ _ _ (by simp) rfl | apply Slot6.drew | refine Slot6.alloc ?_ _)) hb1 (by simp)
       have hw : Below w.heap.size w w1 := Below.trans (by repeat (first | exact Below.refl _ _ | refine Below.alloc ?_ (by simp <;> omega) _ | apply Below.drew)) (hb1.mono (by simp <;> omega))
       obtain ⟨v0, p0⟩ := hsl.cell 0 (by omega)
       obtain ⟨v1, p1⟩ := hsl.cell 1 (by omega)
       obtain ⟨v2, p2⟩ := hsl.cell 2 (by omega)
       obtain ⟨v3, p3⟩ := hsl.cell 3 (by omega)
       obtain ⟨v4, p4⟩ := hsl.cell 4 (by omega)
       obtain ⟨v5, p5⟩ := hsl.cell 5 (by omega)
       have f0 := hsl.thaw 0
       have f1 := hsl.thaw 1
       have f2 := hsl.thaw 2
       have f3 := hsl.thaw 3
       have f4 := hsl.thaw 4
       have f5 := hsl.thaw 5))
  all_goals
    go_wp2
    try rw [Exit.noGoto_ret]
    refine bodyPost_set6 Tryd.results46 (w.heap.size + 1) _ Tryd.underlying69 rfl (by kernel_rfl) rfl hsl rfl _ _ _ _ _ _ ?_
    exact ⟨rfl, below_set6 hw (by simp) _ _ _ _ _ _⟩

end Go.Proofs.YtbagkoemaalnmaaDoor
