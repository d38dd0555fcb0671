/-
  Several texts laid together: each opens with its own remark.
-/
import Derived.Test.YtfkhljmiehdgmaaGreatDoorMhH
import Derived.Test.YtfkhljmiehdgmaaGreatDoorMhI
import Derived.Test.YtfkhljmiehdgmaaGreatDoorMhB
import Derived.Test.YtfkhljmiehdgmaaGreatDoorMhC

/-
  The walk of package markup: the state behind a byte: the end of an element
-/
namespace Go.Proofs.YtfkhljmiehdgmaaGreatDoor
open Go.RowKit

set_option maxHeartbeats 800000 in
theorem behindEnd_any (b : UInt8) (w : World) :
    Calls Tryz.prog 92 #[.int .u8 b.toNat] w fun e w' => e = .returned (.int .u8 (Pl.behindEnd b : Nat)) ∧ w = w' := by
  by_cases h : b = 62
  · subst h
    go_enter Tryz.func92, Tryz.ntmps92
    go_wp2
    go_ret
    exact ⟨rfl, rfl⟩
  · have h' : ((b.toNat : Int) == 62) = false := (Pl.beq8n b 62 (by omega)).trans (by rw [beq_eq_false_iff_ne]; exact h)
    have HV : Hid (Pl.behindEnd b = 12) := by show _ = _; unfold Pl.behindEnd; rw [if_neg h]
    go_enter Tryz.func92, Tryz.ntmps92
    go_wp2
    go_ret
    exact ⟨ret_int (by rw [HV.out]; rfl), rfl⟩

set_option maxRecDepth 100000 in
set_option maxHeartbeats 3200000 in
theorem behind_ends (s : Pl.St) (k : Pl.Mk) (b : UInt8) (w : World) (ht : PTabs w) (hm33 : s.mode ≤ 33) (hs : s.elem.length ≤ 1000) (hm : 19 ≤ s.mode) (he : s.ends b = true) :
    Calls Tryz.prog 63 #[sxVal ⟨s, k⟩, .int .u8 b.toNat] w fun e w' => e = .returned (sxVal (Pl.Sx.behind ⟨s, k⟩ b)) ∧ Below w.heap.size w w' := by
  have HV : Hid (Pl.Sx.behind ⟨s, k⟩ b = ⟨⟨Pl.behindEnd b, [], [], 0, 0, false⟩, Pl.Mk.none⟩) := by
    show _ = _
    exact Pl.bx_end ⟨s, k⟩ b hm he
  rw [HV.out]
  clear HV
  have HM := (show Hid _ from fun t t' cs hc => Mid.start ⟨s, k⟩ ht cs t t' hc)
  have hE := fun w => ends_any ⟨s, k⟩ b w hs
  simp only at hE
  rw [he] at hE
  have hm' : (19 : Int) ≤ (s.mode : Int) := by omega
  have hm34 : (s.mode : Int) < 34 := by omega
  unfold Pl.Mk.none
  unfold sxVal at hE ⊢
  unfold sxCells bs at hE HM ⊢
  simp only at hE HM ⊢
  have HE' := (show Hid _ from hE)
  clear hE
  go_enter Tryz.func63, Tryz.ntmps63
  go_wp2
  go_step3
  go_wp2_with fail
  refine (HE'.out _).mono ?_
  rintro e w1 ⟨rfl, hb1⟩
  have mid := (HM.out _ _ _ rfl).kept hb1
  clear HM hb1
  obtain ⟨v0, p0⟩ := mid.res.cell 0 (by omega)
  obtain ⟨v1, p1⟩ := mid.res.cell 1 (by omega)
  obtain ⟨v2, p2⟩ := mid.res.cell 2 (by omega)
  obtain ⟨v3, p3⟩ := mid.res.cell 3 (by omega)
  obtain ⟨v4, p4⟩ := mid.res.cell 4 (by omega)
  obtain ⟨v5, p5⟩ := mid.res.cell 5 (by omega)
  obtain ⟨v6, p6⟩ := mid.res.cell 6 (by omega)
  obtain ⟨v7, p7⟩ := mid.res.cell 7 (by omega)
  obtain ⟨v8, p8⟩ := mid.res.cell 8 (by omega)
  obtain ⟨v9, p9⟩ := mid.res.cell 9 (by omega)
  have g0 := mid.res.thaw 0
  have g1 := mid.res.thaw 1
  have g2 := mid.res.thaw 2
  have g3 := mid.res.thaw 3
  have g4 := mid.res.thaw 4
  have g5 := mid.res.thaw 5
  have g6 := mid.res.thaw 6
  have g7 := mid.res.thaw 7
  have g8 := mid.res.thaw 8
  have g9 := mid.res.thaw 9
  go_wp2_with (go_at_call 92; refine (behindEnd_any b _).mono ?_; rintro e w' ⟨rfl, rfl⟩)
  try rw [Exit.noGoto_ret]
  refine bodyPost_set10 Tryz.results63 (w.heap.size + 1) _ Tryz.underlying162 rfl (by kernel_rfl) rfl mid.res rfl _ _ _ _ _ _ _ _ _ _ ?_
  exact ⟨rfl, below_set10 mid.below (by simp) _ _ _ _ _ _ _ _ _ _⟩

end Go.Proofs.YtfkhljmiehdgmaaGreatDoor

/-
  The walk of package markup: the state behind a byte: behind a backslash
-/
namespace Go.Proofs.YtfkhljmiehdgmaaGreatDoor
open Go.RowKit

set_option maxRecDepth 100000 in
set_option maxHeartbeats 3200000 in
theorem behind_esc1 (s : Pl.St) (k : Pl.Mk) (b : UInt8) (w : World) (ht : PTabs w) (hm33 : s.mode ≤ 33) (hs : s.elem.length ≤ 1000) (hm : 19 ≤ s.mode) (he : s.ends b = false) (hesc : Pl.escapesTab.getD s.mode false = true) (hx0 : s.esc = true) :
    Calls Tryz.prog 63 #[sxVal ⟨s, k⟩, .int .u8 b.toNat] w fun e w' => e = .returned (sxVal (Pl.Sx.behind ⟨s, k⟩ b)) ∧ Below w.heap.size w w' := by
  have HV : Hid (Pl.Sx.behind ⟨s, k⟩ b = ⟨⟨s.mode, s.name, s.elem, s.kind, (s.readEnd b), false⟩, Pl.escapedMk s.mode s.esc b⟩) := by
    show _ = _
    have hrd : s.nowRead b = (s.readEnd b) := by unfold Pl.St.nowRead; rw [if_pos hm]
    rw [Pl.bx_esc ⟨s, k⟩ b (fun q => by have := q.2; simp only at this; rw [he] at this; cases this) (by show (_ && (s.esc || _)) = true; rw [hesc, hx0]; rfl)]
    simp only
    rw [hrd, hx0]; rfl
  rw [HV.out]
  clear HV
  have hC := fun (w : World) (h : PTabs w) => bools_at h.es s.mode (by show _ < 34; omega)
  rw [hesc] at hC
  clear hesc
  have hEs := fun w h => escaped_any ⟨⟨s.mode, s.name, s.elem, s.kind, (s.readEnd b), s.esc⟩, k⟩ b w h
  simp only at hEs
  generalize Pl.escapedMk s.mode s.esc b = K at hEs ⊢
  have HM := (show Hid _ from fun t t' cs hc => Mid.start ⟨s, k⟩ ht cs t t' hc)
  have hE := fun w => ends_any ⟨s, k⟩ b w hs
  simp only at hE
  rw [he] at hE
  have hRE := fun w => readEnd_any ⟨s, k⟩ b w hs
  simp only at hRE
  generalize s.readEnd b = rd at *
  have hm' : (19 : Int) ≤ (s.mode : Int) := by omega
  have hm34 : (s.mode : Int) < 34 := by omega
  unfold sxVal at hE hRE hEs ⊢
  unfold mkVal mkCells at hEs
  unfold sxCells bs at hE hRE hEs HM ⊢
  simp only at hE hRE hEs HM ⊢
  rw [hx0] at hE hRE hEs HM ⊢
  have HX0 := (show Hid _ from hx0)
  clear hx0
  have HE' := (show Hid _ from hE)
  have HRE' := (show Hid _ from hRE)
  have HES' := (show Hid _ from hEs)
  clear hE hRE hEs
  have HC := (show Hid _ from hC)
  clear hC
  go_enter Tryz.func63, Tryz.ntmps63
  go_wp2
  go_step3
  go_wp2_with fail
  refine (HE'.out _).mono ?_
  rintro e w1 ⟨rfl, hb1⟩
  have mid := (HM.out _ _ _ rfl).kept hb1
  clear HM hb1
  have q0 := mid.at'.mode
  have q1 := mid.at'.name
  have q2 := mid.at'.elem
  have q3 := mid.at'.kind
  have q4 := mid.at'.read
  have q5 := mid.at'.ref
  have q6 := mid.at'.esc
  have q7 := mid.at'.hex
  have q8 := mid.at'.pct
  have q9 := mid.at'.far
  have f0 := mid.slot.thaw 0
  have f1 := mid.slot.thaw 1
  have f2 := mid.slot.thaw 2
  have f3 := mid.slot.thaw 3
  have f4 := mid.slot.thaw 4
  have f5 := mid.slot.thaw 5
  have f6 := mid.slot.thaw 6
  have f7 := mid.slot.thaw 7
  have f8 := mid.slot.thaw 8
  have f9 := mid.slot.thaw 9
  dsimp only at q0 q1 q2 q3 q4 q5 q6 q7 q8 q9
  rw [HX0.out] at q6
  go_wp2_with fail
  refine (HRE'.out _).mono ?_
  rintro e w2 ⟨rfl, hb2⟩
  clear q0 q1 q2 q3 q4 q5 q6 q7 q8 q9 f0 f1 f2 f3 f4 f5 f6 f7 f8 f9
  have mid2 := mid.kept hb2
  clear mid hb2
  have mid := mid2
  clear mid2
  have q0 := mid.at'.mode
  have q1 := mid.at'.name
  have q2 := mid.at'.elem
  have q3 := mid.at'.kind
  have q4 := mid.at'.read
  have q5 := mid.at'.ref
  have q6 := mid.at'.esc
  have q7 := mid.at'.hex
  have q8 := mid.at'.pct
  have q9 := mid.at'.far
  have f0 := mid.slot.thaw 0
  have f1 := mid.slot.thaw 1
  have f2 := mid.slot.thaw 2
  have f3 := mid.slot.thaw 3
  have f4 := mid.slot.thaw 4
  have f5 := mid.slot.thaw 5
  have f6 := mid.slot.thaw 6
  have f7 := mid.slot.thaw 7
  have f8 := mid.slot.thaw 8
  have f9 := mid.slot.thaw 9
  dsimp only at q0 q1 q2 q3 q4 q5 q6 q7 q8 q9
  rw [HX0.out] at q6
  have mid3 := mid.setRead rd
  have c0 := HC.out _ mid3.tabs
  go_wp2_with fail
  refine (HES'.out _ mid3.tabs).mono ?_
  rintro e w4 ⟨rfl, hb4⟩
  clear q0 q1 q2 q3 q4 q5 q6 q7 q8 q9 f0 f1 f2 f3 f4 f5 f6 f7 f8 f9 c0
  have mid5 := mid3.kept hb4
  clear mid hb4 mid3
  have mid := mid5
  clear mid5
  have q0 := mid.at'.mode
  have q1 := mid.at'.name
  have q2 := mid.at'.elem
  have q3 := mid.at'.kind
  have q4 := mid.at'.read
  have q5 := mid.at'.ref
  have q6 := mid.at'.esc
  have q7 := mid.at'.hex
  have q8 := mid.at'.pct
  have q9 := mid.at'.far
  have f0 := mid.slot.thaw 0
  have f1 := mid.slot.thaw 1
  have f2 := mid.slot.thaw 2
  have f3 := mid.slot.thaw 3
  have f4 := mid.slot.thaw 4
  have f5 := mid.slot.thaw 5
  have f6 := mid.slot.thaw 6
  have f7 := mid.slot.thaw 7
  have f8 := mid.slot.thaw 8
  have f9 := mid.slot.thaw 9
  dsimp only at q0 q1 q2 q3 q4 q5 q6 q7 q8 q9
  rw [HX0.out] at q6
  obtain ⟨v0, p0⟩ := mid.res.cell 0 (by omega)
  obtain ⟨v1, p1⟩ := mid.res.cell 1 (by omega)
  obtain ⟨v2, p2⟩ := mid.res.cell 2 (by omega)
  obtain ⟨v3, p3⟩ := mid.res.cell 3 (by omega)
  obtain ⟨v4, p4⟩ := mid.res.cell 4 (by omega)
  obtain ⟨v5, p5⟩ := mid.res.cell 5 (by omega)
  obtain ⟨v6, p6⟩ := mid.res.cell 6 (by omega)
  obtain ⟨v7, p7⟩ := mid.res.cell 7 (by omega)
  obtain ⟨v8, p8⟩ := mid.res.cell 8 (by omega)
  obtain ⟨v9, p9⟩ := mid.res.cell 9 (by omega)
  have g0 := mid.res.thaw 0
  have g1 := mid.res.thaw 1
  have g2 := mid.res.thaw 2
  have g3 := mid.res.thaw 3
  have g4 := mid.res.thaw 4
  have g5 := mid.res.thaw 5
  have g6 := mid.res.thaw 6
  have g7 := mid.res.thaw 7
  have g8 := mid.res.thaw 8
  have g9 := mid.res.thaw 9
  go_wp2_with fail
  have mid := ((((mid.setRef K.ref).setEsc false).setHex K.hex).setPct K.pct).setFar K.far
  try rw [Exit.noGoto_ret]
  refine bodyPost_set10 Tryz.results63 (w.heap.size + 1) _ Tryz.underlying162 rfl (by kernel_rfl) rfl mid.res rfl _ _ _ _ _ _ _ _ _ _ ?_
  exact ⟨rfl, below_set10 mid.below (by simp) _ _ _ _ _ _ _ _ _ _⟩

end Go.Proofs.YtfkhljmiehdgmaaGreatDoor

/-
  The walk of package markup: the state behind a byte: a backslash
-/
namespace Go.Proofs.YtfkhljmiehdgmaaGreatDoor
open Go.RowKit

set_option maxRecDepth 100000 in
set_option maxHeartbeats 3200000 in
theorem behind_esc0 (s : Pl.St) (k : Pl.Mk) (b : UInt8) (w : World) (ht : PTabs w) (hm33 : s.mode ≤ 33) (hs : s.elem.length ≤ 1000) (hm : 19 ≤ s.mode) (he : s.ends b = false) (hesc : Pl.escapesTab.getD s.mode false = true) (hx0 : s.esc = false) (hb : (b == 92) = true) :
    Calls Tryz.prog 63 #[sxVal ⟨s, k⟩, .int .u8 b.toNat] w fun e w' => e = .returned (sxVal (Pl.Sx.behind ⟨s, k⟩ b)) ∧ Below w.heap.size w w' := by
  have HV : Hid (Pl.Sx.behind ⟨s, k⟩ b = ⟨⟨s.mode, s.name, s.elem, s.kind, (s.readEnd b), true⟩, Pl.escapedMk s.mode s.esc b⟩) := by
    show _ = _
    have hrd : s.nowRead b = (s.readEnd b) := by unfold Pl.St.nowRead; rw [if_pos hm]
    rw [Pl.bx_esc ⟨s, k⟩ b (fun q => by have := q.2; simp only at this; rw [he] at this; cases this) (by show (_ && (s.esc || _)) = true; rw [hesc, hx0, hb]; rfl)]
    simp only
    rw [hrd, hx0]; rfl
  rw [HV.out]
  clear HV
  have hb' : ((b.toNat : Int) == 92) = true := (Pl.beq8n b 92 (by omega)).trans hb
  clear hb
  have hC := fun (w : World) (h : PTabs w) => bools_at h.es s.mode (by show _ < 34; omega)
  rw [hesc] at hC
  clear hesc
  have hEs := fun w h => escaped_any ⟨⟨s.mode, s.name, s.elem, s.kind, (s.readEnd b), s.esc⟩, k⟩ b w h
  simp only at hEs
  generalize Pl.escapedMk s.mode s.esc b = K at hEs ⊢
  have HM := (show Hid _ from fun t t' cs hc => Mid.start ⟨s, k⟩ ht cs t t' hc)
  have hE := fun w => ends_any ⟨s, k⟩ b w hs
  simp only at hE
  rw [he] at hE
  have hRE := fun w => readEnd_any ⟨s, k⟩ b w hs
  simp only at hRE
  generalize s.readEnd b = rd at *
  have hm' : (19 : Int) ≤ (s.mode : Int) := by omega
  have hm34 : (s.mode : Int) < 34 := by omega
  unfold sxVal at hE hRE hEs ⊢
  unfold mkVal mkCells at hEs
  unfold sxCells bs at hE hRE hEs HM ⊢
  simp only at hE hRE hEs HM ⊢
  rw [hx0] at hE hRE hEs HM ⊢
  have HX0 := (show Hid _ from hx0)
  clear hx0
  have HE' := (show Hid _ from hE)
  have HRE' := (show Hid _ from hRE)
  have HES' := (show Hid _ from hEs)
  clear hE hRE hEs
  have HC := (show Hid _ from hC)
  clear hC
  go_enter Tryz.func63, Tryz.ntmps63
  go_wp2
  go_step3
  go_wp2_with fail
  refine (HE'.out _).mono ?_
  rintro e w1 ⟨rfl, hb1⟩
  have mid := (HM.out _ _ _ rfl).kept hb1
  clear HM hb1
  have q0 := mid.at'.mode
  have q1 := mid.at'.name
  have q2 := mid.at'.elem
  have q3 := mid.at'.kind
  have q4 := mid.at'.read
  have q5 := mid.at'.ref
  have q6 := mid.at'.esc
  have q7 := mid.at'.hex
  have q8 := mid.at'.pct
  have q9 := mid.at'.far
  have f0 := mid.slot.thaw 0
  have f1 := mid.slot.thaw 1
  have f2 := mid.slot.thaw 2
  have f3 := mid.slot.thaw 3
  have f4 := mid.slot.thaw 4
  have f5 := mid.slot.thaw 5
  have f6 := mid.slot.thaw 6
  have f7 := mid.slot.thaw 7
  have f8 := mid.slot.thaw 8
  have f9 := mid.slot.thaw 9
  dsimp only at q0 q1 q2 q3 q4 q5 q6 q7 q8 q9
  rw [HX0.out] at q6
  go_wp2_with fail
  refine (HRE'.out _).mono ?_
  rintro e w2 ⟨rfl, hb2⟩
  clear q0 q1 q2 q3 q4 q5 q6 q7 q8 q9 f0 f1 f2 f3 f4 f5 f6 f7 f8 f9
  have mid2 := mid.kept hb2
  clear mid hb2
  have mid := mid2
  clear mid2
  have q0 := mid.at'.mode
  have q1 := mid.at'.name
  have q2 := mid.at'.elem
  have q3 := mid.at'.kind
  have q4 := mid.at'.read
  have q5 := mid.at'.ref
  have q6 := mid.at'.esc
  have q7 := mid.at'.hex
  have q8 := mid.at'.pct
  have q9 := mid.at'.far
  have f0 := mid.slot.thaw 0
  have f1 := mid.slot.thaw 1
  have f2 := mid.slot.thaw 2
  have f3 := mid.slot.thaw 3
  have f4 := mid.slot.thaw 4
  have f5 := mid.slot.thaw 5
  have f6 := mid.slot.thaw 6
  have f7 := mid.slot.thaw 7
  have f8 := mid.slot.thaw 8
  have f9 := mid.slot.thaw 9
  dsimp only at q0 q1 q2 q3 q4 q5 q6 q7 q8 q9
  rw [HX0.out] at q6
  have mid3 := mid.setRead rd
  have c0 := HC.out _ mid3.tabs
  go_wp2_with fail
  refine (HES'.out _ mid3.tabs).mono ?_
  rintro e w4 ⟨rfl, hb4⟩
  clear q0 q1 q2 q3 q4 q5 q6 q7 q8 q9 f0 f1 f2 f3 f4 f5 f6 f7 f8 f9 c0
  have mid5 := mid3.kept hb4
  clear mid hb4 mid3
  have mid := mid5
  clear mid5
  have q0 := mid.at'.mode
  have q1 := mid.at'.name
  have q2 := mid.at'.elem
  have q3 := mid.at'.kind
  have q4 := mid.at'.read
  have q5 := mid.at'.ref
  have q6 := mid.at'.esc
  have q7 := mid.at'.hex
  have q8 := mid.at'.pct
  have q9 := mid.at'.far
  have f0 := mid.slot.thaw 0
  have f1 := mid.slot.thaw 1
  have f2 := mid.slot.thaw 2
  have f3 := mid.slot.thaw 3
  have f4 := mid.slot.thaw 4
  have f5 := mid.slot.thaw 5
  have f6 := mid.slot.thaw 6
  have f7 := mid.slot.thaw 7
  have f8 := mid.slot.thaw 8
  have f9 := mid.slot.thaw 9
  dsimp only at q0 q1 q2 q3 q4 q5 q6 q7 q8 q9
  rw [HX0.out] at q6
  obtain ⟨v0, p0⟩ := mid.res.cell 0 (by omega)
  obtain ⟨v1, p1⟩ := mid.res.cell 1 (by omega)
  obtain ⟨v2, p2⟩ := mid.res.cell 2 (by omega)
  obtain ⟨v3, p3⟩ := mid.res.cell 3 (by omega)
  obtain ⟨v4, p4⟩ := mid.res.cell 4 (by omega)
  obtain ⟨v5, p5⟩ := mid.res.cell 5 (by omega)
  obtain ⟨v6, p6⟩ := mid.res.cell 6 (by omega)
  obtain ⟨v7, p7⟩ := mid.res.cell 7 (by omega)
  obtain ⟨v8, p8⟩ := mid.res.cell 8 (by omega)
  obtain ⟨v9, p9⟩ := mid.res.cell 9 (by omega)
  have g0 := mid.res.thaw 0
  have g1 := mid.res.thaw 1
  have g2 := mid.res.thaw 2
  have g3 := mid.res.thaw 3
  have g4 := mid.res.thaw 4
  have g5 := mid.res.thaw 5
  have g6 := mid.res.thaw 6
  have g7 := mid.res.thaw 7
  have g8 := mid.res.thaw 8
  have g9 := mid.res.thaw 9
  go_wp2_with fail
  have mid := ((((mid.setRef K.ref).setEsc true).setHex K.hex).setPct K.pct).setFar K.far
  try rw [Exit.noGoto_ret]
  refine bodyPost_set10 Tryz.results63 (w.heap.size + 1) _ Tryz.underlying162 rfl (by kernel_rfl) rfl mid.res rfl _ _ _ _ _ _ _ _ _ _ ?_
  exact ⟨rfl, below_set10 mid.below (by simp) _ _ _ _ _ _ _ _ _ _⟩

end Go.Proofs.YtfkhljmiehdgmaaGreatDoor
