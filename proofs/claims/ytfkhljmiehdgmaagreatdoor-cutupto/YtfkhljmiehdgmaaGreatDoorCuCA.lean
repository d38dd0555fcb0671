/-
  For every text, all partials and data, every depth and every room (together of bulk at most 1048576) the statement Cut returns true, and its arguments read as before. Condition: the package-level tables that the row lists hold what their texts lay (tied by the card).
-/
import Derived.Test.YtfkhljmiehdgmaaGreatDoorCuBX
import Derived.Test.YtfkhljmiehdgmaaGreatDoorCuBY
import Derived.Test.YtfkhljmiehdgmaaGreatDoorCards
import Derived.Test.YtfkhljmiehdgmaaGreatDoorCuBZ
set_option maxRecDepth 100000
set_option maxHeartbeats 40000000
namespace Go.Proofs.YtfkhljmiehdgmaaGreatDoor
open Go.RowKit Go.Proofs.Tryz Pl
namespace fnCut
open Go.ChangeShapes Go.WideShapes Go.ChangeAt Go.WideMaps Go.WideElems
theorem enOwn:ownKnob prog.godebug=none:=by kernel_rfl
theorem liftedUpto(os:Os)(started:os.Started)(H:Type)(enc:TypeId×Value->H)(F:Stop.Interp) :
  ReturnsInHanded {} checked os 8 .any ((Rows.OpenSpec.upto Rows.cutSpec).preRow enc prog f8 Rows.cutUptoRow.domain false Rows.cutUptoRow.laid) (((Rows.OpenSpec.upto Rows.cutSpec).at F).post enc prog f8 false true false false):=by
 obtain⟨places,I⟩:=reads os enc
 refine returnsInHanded_of_row (C:=checked) (s:=Rows.OpenSpec.upto Rows.cutSpec) enOwn started (by kernel_rfl) func8
  (witness_row_Z (enc:=enc) (C:=checked) false (World.laidAll prog os Rows.cutRow.laid) #[.string .empty,zN,zN,zI 0,zI 0] (World.laidAll_os _ _ _) (qr3 os) (by kernel_rfl)
   (OpenSpec.preRow_of_cond 8 I (by kernel_rfl) (fun k J=>by cases J;kernel_rfl) (by kernel_rfl) (laid_met os))) ?_
 intro W base args ds gs before z O _ y _ T D _;exact contract H enc W base args ds gs before z O (y _ rfl) T D
end fnCut
namespace fnCut
open Go.ChangeShapes Go.WideShapes Go.ChangeAt
theorem saidUpto:Rows.CutUptoSaid:=
 OpenClaim.holds_of_cond 8 f8 rfl rfl rfl rfl rfl rfl rfl ⟨rfl,rfl,rfl,rfl,rfl⟩ rfl rfl rfl rfl rfl (by kernel_rfl) func8 jf
  (of_decide_eq_true (by kernel_rfl)) (by unfold Func.isWrapper;first|(rw[if_pos (by decide +kernel)];kernel_rfl)|(rw[if_neg (by decide +kernel)];exact⟨rfl,rfl⟩))
  (fun os started H enc _ F=>by rw[OpenClaim.pre_eq_preRow];exact liftedUpto os started H enc F)
theorem plain(f:FuncId)(fn:Func)(z:Tryz.pinned.checked.prog.funcNamed "stencil/stencilkeep.Cut"=some f)(y:Tryz.pinned.checked.prog.funcs[f]?=some fn) :
  false=Tryz.pinned.checked.prog.looks []∧∀(j:Nat) t,fn.params[j]?=some t→Tryz.pinned.checked.prog.wantsStandIn t=false:=by
 obtain rfl:f=8:=yk ((show prog.funcNamed "stencil/stencilkeep.Cut"=some 8 by kernel_rfl).symm.trans z) |>.symm;obtain rfl:fn=f8:=(yk (func8.symm.trans y)).symm;refine⟨by kernel_rfl,fun j t D=>?_⟩;rw[params8]at D;have I:t=9∨t=22∨t=44∨t=3:=by
  have:=Array.mem_of_getElem? D;simp at this;omega
 rcases I with rfl|rfl|rfl|rfl
 ·exact(show prog.wantsStandIn 9=false by kernel_rfl)
 ·exact(show prog.wantsStandIn 22=false by kernel_rfl)
 ·exact(show prog.wantsStandIn 44=false by kernel_rfl)
 ·exact(show prog.wantsStandIn 3=false by kernel_rfl)
theorem cardUpto:Rows.CutUptoCardSaid:=
 Claim7.holds_tied_plain_at .later [] _ _ _ _ saidUpto (fun _ h=>by cases h) (by kernel_rfl) (fun _ h=>by cases h) cutUpto_row_tie rfl ⟨rfl,rfl⟩ (by kernel_rfl) rfl plain (by kernel_rfl)
end fnCut
end Go.Proofs.YtfkhljmiehdgmaaGreatDoor
