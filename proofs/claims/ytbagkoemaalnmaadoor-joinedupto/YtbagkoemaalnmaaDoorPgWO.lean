/-
  The walk of package markup: the state behind a byte within an element.
-/
import Derived.Test.YtbagkoemaalnmaaDoorPgWG
import Derived.Test.YtbagkoemaalnmaaDoorPgWH
import Derived.Test.YtbagkoemaalnmaaDoorPgHi
import Derived.Test.YtbagkoemaalnmaaDoorPgB
import Derived.Test.YtbagkoemaalnmaaDoorPgWC
namespace Go.Proofs.YtbagkoemaalnmaaDoor
open Go.RowKit

set_option maxRecDepth 100000 in
set_option maxHeartbeats 6400000 in
theorem behind_esc0 (s : Pl.St) (b : UInt8) (w : World) (ht : PTabs w) (hs : s.elem.length ≤ 1000) (hm : 19 ≤ s.mode) (hm33 : s.mode ≤ 33) (he : s.ends b = false) (hesc : Pl.escapesTab.getD s.mode false = true) (hx : s.esc = false) (hb : (b == 92) = true) :
    Calls Tryd.prog 46 #[stVal s, .int .u8 b.toNat] w fun e w' => e = .returned (stVal (s.behind b)) ∧ Below w.heap.size w w' := by
  have HV : Hid (s.behind b = ⟨s.mode, s.name, s.elem, s.kind, s.readEnd b, true⟩) := by
    show _ = _
    unfold Pl.St.behind
    rw [if_pos hm, he, if_neg (by simp)]
    have := Pl.quiet_e (Pl.St.mk s.mode s.name s.elem s.kind (s.readEnd b) s.esc) b (by show (_ && (s.esc || _)) = true; rw [hesc, hx, hb]; rfl)
    rw [this]
    show Pl.St.mk _ _ _ _ _ (!s.esc) = _
    rw [hx]; rfl
  have hE := fun w => ends_any s b w hs
  rw [he] at hE
  have hRE := fun w => readEnd_any s b w hs
  have HM := fun t t' cs hc => Mid.start s ht cs t t' hc
  have hm' : (19 : Int) ≤ (s.mode : Int) := by omega
  have hm34 : (s.mode : Int) < 34 := by omega
  have hm34' : s.mode < 34 := by omega
  rw [HV.out]
  unfold stVal stCells bs
  simp only
  have HX : Hid (s.esc = false) := hx
  clear hx
  have hb' : ((b.toNat : Int) == 92) = true := (Pl.beq8n b 92 (by omega)).trans hb
  clear hb
  unfold stVal stCells bs at hE hRE
  unfold stCells bs at HM
  have HE := (show Hid _ from hE)
  have HRE := (show Hid _ from hRE)
  clear hE hRE HV ht
  generalize s.readEnd b = rd at *
  go_enter Tryd.func46, Tryd.ntmps46
  go_wp2
  go_step3
  go_wp2_with fail
  refine (HE.out _).mono ?_
  rintro e w1 ⟨rfl, hb1⟩
  have mid0 := (HM _ _ _ rfl).kept hb1
  clear HM hb1
  have mid := mid0
  have q0 := mid.at'.mode
  have q1 := mid.at'.name
  have q2 := mid.at'.elem
  have q3 := mid.at'.kind
  have q4 := mid.at'.read
  have q5 := mid.at'.esc
  have f0 := mid.slot.thaw 0
  have f4 := mid.slot.thaw 4
  have f5 := mid.slot.thaw 5
  go_wp2_with fail
  refine (HRE.out _).mono ?_
  rintro e w2 ⟨rfl, hb2⟩
  clear mid q0 q1 q2 q3 q4 q5 f0 f4 f5
  have mid := mid0.kept hb2
  clear mid0 hb2
  have q0 := mid.at'.mode
  have q1 := mid.at'.name
  have q2 := mid.at'.elem
  have q3 := mid.at'.kind
  have q4 := mid.at'.read
  have q5 := mid.at'.esc
  have f0 := mid.slot.thaw 0
  have f4 := mid.slot.thaw 4
  have f5 := mid.slot.thaw 5
  rw [HX.out] at q5
  have mid3 := mid.setRead rd
  have c0 := bools_at mid3.tabs.es s.mode hm34'
  rw [hesc] at c0
  have hsl := (mid3.setEsc true).res
  have hw := (mid3.setEsc true).below
  obtain ⟨v0, p0⟩ := mid.res.cell 0 (by omega)
  obtain ⟨v1, p1⟩ := mid.res.cell 1 (by omega)
  obtain ⟨v2, p2⟩ := mid.res.cell 2 (by omega)
  obtain ⟨v3, p3⟩ := mid.res.cell 3 (by omega)
  obtain ⟨v4, p4⟩ := mid.res.cell 4 (by omega)
  obtain ⟨v5, p5⟩ := mid.res.cell 5 (by omega)
  have g0 := mid.res.thaw 0
  have g1 := mid.res.thaw 1
  have g2 := mid.res.thaw 2
  have g3 := mid.res.thaw 3
  have g4 := mid.res.thaw 4
  have g5 := mid.res.thaw 5
  clear hm hm33 hs hesc he mid mid3
  go_wp2_with fail
  try rw [Exit.noGoto_ret]
  refine bodyPost_set6 Tryd.results46 (w.heap.size + 1) _ Tryd.underlying69 rfl (by kernel_rfl) rfl hsl rfl _ _ _ _ _ _ ?_
  exact ⟨rfl, below_set6 hw (by simp) _ _ _ _ _ _⟩

end Go.Proofs.YtbagkoemaalnmaaDoor
