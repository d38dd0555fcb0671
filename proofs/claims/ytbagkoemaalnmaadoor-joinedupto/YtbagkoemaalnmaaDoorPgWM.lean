/-
  The walk of package markup: the state behind a byte within an element: its end.
-/
import Derived.Test.YtbagkoemaalnmaaDoorPgWG
import Derived.Test.YtbagkoemaalnmaaDoorPgWH
import Derived.Test.YtbagkoemaalnmaaDoorPgHi
import Derived.Test.YtbagkoemaalnmaaDoorPgWC
namespace Go.Proofs.YtbagkoemaalnmaaDoor
open Go.RowKit

set_option maxHeartbeats 800000 in
theorem behindEnd_any (b : UInt8) (w : World) :
    Calls Tryd.prog 64 #[.int .u8 b.toNat] w fun e w' => e = .returned (.int .u8 (Pl.behindEnd b : Nat)) ∧ w = w' := by
  by_cases h : b = 62
  · subst h
    go_enter Tryd.func64, Tryd.ntmps64
    go_wp2
    go_ret
    exact ⟨rfl, rfl⟩
  · have h' : ((b.toNat : Int) == 62) = false := (Pl.beq8n b 62 (by omega)).trans (by rw [beq_eq_false_iff_ne]; exact h)
    have HV : Hid (Pl.behindEnd b = 12) := by show _ = _; unfold Pl.behindEnd; rw [if_neg h]
    go_enter Tryd.func64, Tryd.ntmps64
    go_wp2
    go_ret
    exact ⟨ret_int (by rw [HV.out]; rfl), rfl⟩

set_option maxRecDepth 100000 in
set_option maxHeartbeats 3200000 in
theorem behind_ends (s : Pl.St) (b : UInt8) (w : World) (ht : PTabs w) (hs : s.elem.length ≤ 1000) (hm : 19 ≤ s.mode) (he : s.ends b = true) :
    Calls Tryd.prog 46 #[stVal s, .int .u8 b.toNat] w fun e w' => e = .returned (stVal (s.behind b)) ∧ Below w.heap.size w w' := by
  have HV : Hid (s.behind b = ⟨Pl.behindEnd b, [], [], 0, 0, false⟩) := by
    show _ = _
    unfold Pl.St.behind
    rw [if_pos hm, if_pos he]
  have hE := fun w => ends_any s b w hs
  rw [he] at hE
  have HM := fun t t' cs hc => Mid.start s ht cs t t' hc
  have hm' : (19 : Int) ≤ (s.mode : Int) := by omega
  rw [HV.out]
  unfold stVal stCells bs at hE ⊢
  unfold stCells bs at HM
  have HE := (show Hid _ from hE)
  clear hE HV ht
  go_enter Tryd.func46, Tryd.ntmps46
  go_wp2
  go_step3
  go_wp2_with fail
  refine (HE.out _).mono ?_
  rintro e w1 ⟨rfl, hb1⟩
  have mid := (HM _ _ _ rfl).kept hb1
  have hw := mid.below
  have hsl := mid.res
  obtain ⟨v0, p0⟩ := hsl.cell 0 (by omega)
  obtain ⟨v1, p1⟩ := hsl.cell 1 (by omega)
  obtain ⟨v2, p2⟩ := hsl.cell 2 (by omega)
  obtain ⟨v3, p3⟩ := hsl.cell 3 (by omega)
  obtain ⟨v4, p4⟩ := hsl.cell 4 (by omega)
  obtain ⟨v5, p5⟩ := hsl.cell 5 (by omega)
  have f0 := hsl.thaw 0
  have f1 := hsl.thaw 1
  have f2 := hsl.thaw 2
  have f3 := hsl.thaw 3
  have f4 := hsl.thaw 4
  have f5 := hsl.thaw 5
  clear mid HM
  go_wp2_with (go_at_call 64; refine (behindEnd_any b _).mono ?_; rintro e w' ⟨rfl, rfl⟩)
  try rw [Exit.noGoto_ret]
  refine bodyPost_set6 Tryd.results46 (w.heap.size + 1) _ Tryd.underlying69 rfl (by kernel_rfl) rfl hsl rfl _ _ _ _ _ _ ?_
  exact ⟨rfl, below_set6 hw (by simp) _ _ _ _ _ _⟩

end Go.Proofs.YtbagkoemaalnmaaDoor
