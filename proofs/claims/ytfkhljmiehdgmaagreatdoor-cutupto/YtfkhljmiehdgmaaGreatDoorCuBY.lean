/-
  Steps of the proof.
-/
import Derived.Lay
import Derived.Stop.Joined
import Derived.Test.YtfkhljmiehdgmaaGreatDoorCuAQ
namespace Go.Proofs.YtfkhljmiehdgmaaGreatDoor
open Go.RowKit Go.Proofs.Tryz Pl
section
open Go.ChangeShapes Go.WideShapes
theorem witness_row_Z{H:Type}{enc:TypeId×Value->H}{C:Checked}{os:Os}{f:FuncId}{fn:Func}{s:OpenSpec}{conds:List PathCond}{apart:Bool}{laid:List (String×DataW Unit)}(modest:Bool)(w0:World)(args:Array Value)(D:w0.os=os)
  (I:(w0.forCall (fun _ _=>0) ⟨#[],args,[]⟩).Shaped C.prog)
  (z:Input.okWideB C.prog (w0.forCall (fun _ _=>0) ⟨#[],args,[]⟩) f ⟨#[],args,[]⟩=true)
  (y:s.preRow enc C.prog fn conds apart laid (w0.forCall (fun _ _=>0) ⟨#[],args,[]⟩).memory args) :
  ∃(w:World) (tape:Tape) (i:Input),w.os=os/\(w.forCall tape i).Shaped C.prog/\i.vars=[]/\Input.okWide C.prog (w.forCall tape i) .any w.heap.size f i /\
   s.preRow enc C.prog fn conds apart laid (w.forCall tape i).memory i.args/\({ modest:=modest }:Assume).holds C.prog (lone (Frame.enter C.prog f i.args .normal) [] (w.forCall tape i)):=
 ⟨w0,fun _ _=>0,⟨#[],args,[]⟩,D,I,(Input.okWide_of_okWideB (base:=0) z).1,(Input.okWide_of_okWideB z).2,y,by
  simp only[Assume.holds];exact⟨by simp,by simp,fun _=>Modest.zero,by simp,by simp⟩⟩
end
namespace fnCut
open Go.ChangeShapes Go.WideShapes Go.ChangeAt Go.WideMaps Go.WideElems
open Go.ChangeMaps (setBlock shut_map_nil open_string shut_string keptBut_setBlock frozen?_setBlock heap_setBlock_same)
theorem laid_met(os:Os):laidMet prog Rows.cutRow.laid ((World.laidAll prog os Rows.cutRow.laid).forCall (fun _ _=>0) ⟨#[],#[.string .empty,zN,zN,zI 0,zI 0],[]⟩).memory:=
 laidMet_laidAll _ (by kernel_rfl) (by kernel_rfl)
theorem qr3(os:Os):((World.laidAll prog os Rows.cutRow.laid).forCall (fun _ _=>0) ⟨#[],#[.string .empty,zN,zN,zI 0,zI 0],[]⟩).Shaped prog:=World.shaped_of_ZipB (by kernel_rfl) (by kernel_rfl)
theorem reads(os:Os){H:Type}(enc:TypeId×Value->H):∃places,DataW.whole enc prog ((World.laidAll prog os Rows.cutRow.laid).forCall (fun _ _=>0) ⟨#[],#[.string .empty,zN,zN,zI 0,zI 0],[]⟩).memory f8.params.toList Rows.cutSpec.vars false #[Value.string .empty,zN,zN,zI 0,zI 0].toList 8=some ([.lit (.string []),.nil,.nil,.lit (.int .i64 0),.lit (.int .i64 0)],[],places):=
 ⟨[],by kernel_rfl⟩
end fnCut
end Go.Proofs.YtfkhljmiehdgmaaGreatDoor
