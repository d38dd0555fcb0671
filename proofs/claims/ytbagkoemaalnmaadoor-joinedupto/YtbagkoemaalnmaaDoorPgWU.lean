/-
  The walk of package markup: the state behind a byte within an element.
-/
import Derived.Test.YtbagkoemaalnmaaDoorPgWG
import Derived.Test.YtbagkoemaalnmaaDoorPgWH
import Derived.Test.YtbagkoemaalnmaaDoorPgHi
import Derived.Test.YtbagkoemaalnmaaDoorPgB
import Derived.Test.YtbagkoemaalnmaaDoorPgWC
namespace Go.Proofs.YtbagkoemaalnmaaDoor
open Go.RowKit

set_option maxRecDepth 100000 in
set_option maxHeartbeats 6400000 in
theorem behind_high_sb (s : Pl.St) (b : UInt8) (w : World) (ht : PTabs w) (hs : s.elem.length ≤ 1000) (hn : s.name.length ≤ 9) (hm : 19 ≤ s.mode) (hm33 : s.mode ≤ 33) (he : s.ends b = false) (hesc : Pl.escapesTab.getD s.mode false = true) (hx : s.esc = false) (hb : (b == 92) = false) (hT : Pl.stepOn s.mode b = 0) (hR : Pl.readInTab.getD s.mode 0 = 0) :
    Calls Tryd.prog 46 #[stVal s, .int .u8 b.toNat] w fun e w' => e = .returned (stVal (s.behind b)) ∧ Below w.heap.size w w' := by
  have HV : Hid (s.behind b = (Pl.St.mk s.mode s.name s.elem s.kind (s.readEnd b) s.esc).led (Pl.or3 0 (Pl.othersTab.getD s.mode 0) s.mode) b) := by
    show _ = _
    unfold Pl.St.behind
    rw [if_pos hm, he, if_neg (by simp)]
    exact Pl.quiet_b (Pl.St.mk s.mode s.name s.elem s.kind (s.readEnd b) s.esc) b (by show (Pl.escapesTab.getD s.mode false && (s.esc || _)) = false; rw [hesc, hx, hb]; rfl) hT hR
  have hE := fun w => ends_any s b w hs
  rw [he] at hE
  have hRE := fun w => readEnd_any s b w hs
  have HM := fun t t' cs hc => Mid.start s ht cs t t' hc
  have hm' : (19 : Int) ≤ (s.mode : Int) := by omega
  have hm34 : (s.mode : Int) < 34 := by omega
  have hm34' : s.mode < 34 := by omega
  rw [HV.out]
  have hO := fun (w : World) (h : PTabs w) => modes_at h.ot s.mode hm34'
  have hS := fun w h => stepOn_any s.mode b w h
  have hL := led_any (Pl.St.mk s.mode s.name s.elem s.kind (s.readEnd b) s.esc) (Pl.or3 0 (Pl.othersTab.getD s.mode 0) s.mode) b
  have hL := fun w h => hL w h hn hm33
  generalize Pl.othersTab.getD s.mode 0 = O at hO hL HV ⊢
  rw [hT] at hS
  clear hT
  rw [hx] at hL ⊢
  have HX : Hid (s.esc = false) := hx
  clear hx
  have hb' : ((b.toNat : Int) == 92) = false := (Pl.beq8n b 92 (by omega)).trans hb
  clear hb
  generalize Pl.St.led _ _ _ = Y at hL ⊢
  obtain ⟨m1, n1, e1, k1, r1, x1⟩ := Y
  unfold stVal stCells bs at hL ⊢
  simp only at hL ⊢
  have HL := (show Hid _ from hL)
  clear hL
  unfold stVal stCells bs at hE hRE
  unfold stCells bs at HM
  have HE := (show Hid _ from hE)
  have HRE := (show Hid _ from hRE)
  clear hE hRE HV ht
  generalize s.readEnd b = rd at *
  go_enter Tryd.func46, Tryd.ntmps46
  go_wp2
  go_step3
  go_wp2_with fail
  refine (HE.out _).mono ?_
  rintro e w1 ⟨rfl, hb1⟩
  have mid0 := (HM _ _ _ rfl).kept hb1
  clear HM hb1
  have mid := mid0
  have q0 := mid.at'.mode
  have q1 := mid.at'.name
  have q2 := mid.at'.elem
  have q3 := mid.at'.kind
  have q4 := mid.at'.read
  have q5 := mid.at'.esc
  have f0 := mid.slot.thaw 0
  have f4 := mid.slot.thaw 4
  have f5 := mid.slot.thaw 5
  go_wp2_with fail
  refine (HRE.out _).mono ?_
  rintro e w2 ⟨rfl, hb2⟩
  clear mid q0 q1 q2 q3 q4 q5 f0 f4 f5
  have mid := mid0.kept hb2
  clear mid0 hb2
  have q0 := mid.at'.mode
  have q1 := mid.at'.name
  have q2 := mid.at'.elem
  have q3 := mid.at'.kind
  have q4 := mid.at'.read
  have q5 := mid.at'.esc
  have f0 := mid.slot.thaw 0
  have f4 := mid.slot.thaw 4
  have f5 := mid.slot.thaw 5
  rw [HX.out] at q5
  have mid3 := mid.setRead rd
  have c0 := bools_at mid3.tabs.es s.mode hm34'
  rw [hesc] at c0
  clear hm he
  go_wp2_with fail
  go_step3
  go_wp2_with fail
  refine (hS _ mid3.tabs).mono ?_
  rintro e w' ⟨rfl, rfl⟩
  clear q0 q1 q2 q3 q4 q5 f0 f4 f5 c0 mid
  generalize w2.setCell _ _ = w3 at mid3 ⊢
  have mid := mid3
  clear mid3
  have q0 := mid.at'.mode
  have q1 := mid.at'.name
  have q2 := mid.at'.elem
  have q3 := mid.at'.kind
  have q4 := mid.at'.read
  have q5 := mid.at'.esc
  have f0 := mid.slot.thaw 0
  have f4 := mid.slot.thaw 4
  have f5 := mid.slot.thaw 5
  have mlt := mid.slot.lt
  have rlt := mid.res.lt
  have msz := mid.below.size
  have a0 := fun o => (mid.at'.alloc mid.slot.lt o).mode
  have a1 := fun o => (mid.at'.alloc mid.slot.lt o).name
  have a2 := fun o => (mid.at'.alloc mid.slot.lt o).elem
  have a3 := fun o => (mid.at'.alloc mid.slot.lt o).kind
  have a4 := fun o => (mid.at'.alloc mid.slot.lt o).read
  have a5 := fun o => (mid.at'.alloc mid.slot.lt o).esc
  dsimp only at q0 q1 q2 q3 q4 q5 a0 a1 a2 a3 a4 a5
  simp only [HX.out] at q5 a5
  have c2 := hO _ mid.tabs
  have d1 := modes_at mid.tabs.rd s.mode hm34'
  rw [hR] at d1
  go_wp2_with fail
  go_region_with (first
    | (go_at_call 68; refine (or_drew 0 O s.mode _ _ _ (by simp)).mono ?_; rintro e w' ⟨rfl, rfl⟩)
    | (go_at_call 67; refine (HL.out _ ((mid.tabs.alloc _).drew)).mono ?_; rintro e w1 ⟨rfl, hb1⟩
       have hsl : Slot6 w1 (w.heap.size + 1) := Slot6.kept (mid.res.alloc _).drew hb1 (mid.res.alloc _).drew.lt
       have hw : Below w.heap.size w w1 := Below.trans (mid.below.alloc mid.below.size _).drew (hb1.mono (Nat.le_trans msz (by simp)))
       obtain ⟨v0, p0⟩ := hsl.cell 0 (by omega)
       obtain ⟨v1, p1⟩ := hsl.cell 1 (by omega)
       obtain ⟨v2, p2⟩ := hsl.cell 2 (by omega)
       obtain ⟨v3, p3⟩ := hsl.cell 3 (by omega)
       obtain ⟨v4, p4⟩ := hsl.cell 4 (by omega)
       obtain ⟨v5, p5⟩ := hsl.cell 5 (by omega)
       have f0 := hsl.thaw 0
       have f1 := hsl.thaw 1
       have f2 := hsl.thaw 2
       have f3 := hsl.thaw 3
       have f4 := hsl.thaw 4
       have f5 := hsl.thaw 5))
  all_goals
    go_wp2
    try rw [Exit.noGoto_ret]
    refine bodyPost_set6 Tryd.results46 (w.heap.size + 1) _ Tryd.underlying69 rfl (by kernel_rfl) rfl hsl rfl _ _ _ _ _ _ ?_
    exact ⟨rfl, below_set6 hw (by simp) _ _ _ _ _ _⟩

end Go.Proofs.YtbagkoemaalnmaaDoor
