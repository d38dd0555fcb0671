/-
  Steps of the proof.
-/
import Derived.ProofKit
import Derived.OpenShut
import Derived.Lib.LaidTab
import Derived.Test.YtfkhljmiehdgmaaGreatDoorCards
import Derived.Test.YtfkhljmiehdgmaaGreatDoorTie
import Derived.Deep.DeepHandedRow
import Derived.Shelf.Vars
import Derived.Test.YtfkhljmiehdgmaaGreatDoorCmAD
import Derived.Lay
import Derived.Stop.Joined
namespace Go.Proofs.YtfkhljmiehdgmaaGreatDoor
open Go.ChangeShapes Go.WideShapes Go.ChangeAt Go.RowKit
def qhg{H:Type}:Nat→DataW H→List Value
 | 0,_=>[]
 | _+1,.lit (.int k n)=>[.int k n]
 | _+1,.lit (.bool b)=>[.bool b]
 | _+1,.lit (.string l)=>[.string ⟨l.toArray⟩]
 | n+1,.agg ps=>ps.flatMap (qhg n)
 | _+1,_=>[]
def q2a(P:Program):Nat→List Field→Option Nat
 | o,[]=>some o
 | o,f::fs=>if f.offset=o then q2a P (o+P.cellsOf f.type) fs else none
def qhv(P:Program):Nat→TypeId→Bool
 | 0,_=>false
 | n+1,t=>match P.underlying t with
   | some (.int _)=>true
   | some .bool=>true
   | some .string=>true
   | some (.array k e)=>P.cellsOf t==k*P.cellsOf e && qhv P n e
   | some (.struct fs)=>q2a P 0 fs.toList==some (P.cellsOf t) && fs.toList.all fun f=>qhv P n f.type
   | _=>false
theorem qtz{α β:Type}(g:α→List β)(sz:Nat):∀(xs:List α) (cs:List β),cs.length=xs.length*sz→(∀i x,xs[i]?=some x→(cs.drop (i*sz)).take sz=g x)→cs=xs.flatMap g
 | [],cs,h,_=>by simpa using h
 | x::xs,cs,h,hx=>by
   have h0:cs.take sz=g x:=by simpa using hx 0 x rfl
   have ih:=qtz g sz xs (cs.drop sz) (by rw[List.length_drop,h,List.length_cons,Nat.succ_mul];omega) (fun i y hy=>by
    have:=hx (i+1) y (by simpa using hy);rw[List.drop_drop,show sz+i*sz=(i+1)*sz by rw[Nat.succ_mul];omega];exact this)
   rw[List.flatMap_cons,←h0,←ih,List.take_append_drop]
theorem q2b{α β:Type}{P:Program}(g:α→List β)(cs:List β):∀(fs:List Field) (xs:List α) (o e:Nat),fs.length=xs.length→q2a P o fs=some e→e=cs.length →
  (∀(i:Nat) (f:Field) (x:α),fs[i]?=some f→xs[i]?=some x→(cs.drop f.offset).take (P.cellsOf f.type)=g x)→cs.drop o=xs.flatMap g
 | [],[],o,e,_,ht,he,_=>by
   simp only[q2a,Option.some.injEq]at ht;subst ht;subst he;simp
 | [],_::_,_,_,hl,_,_,_=>by simp at hl
 | _::_,[],_,_,hl,_,_,_=>by simp at hl
 | f::fs,x::xs,o,e,hl,ht,he,hx=>by
   simp only[q2a]at ht;split at ht
   ·rename_i ho
    have h0:=hx 0 f x rfl rfl;rw[ho]at h0;have ih:=q2b g cs fs xs (o+P.cellsOf f.type) e (by simpa using hl) ht he (fun i f' x' hf ha=>hx (i+1) f' x' (by simpa using hf) (by simpa using ha));rw[List.flatMap_cons,←h0,←ih,←List.drop_drop,List.take_append_drop]
   ·cases ht
theorem qkw{H:Type}{enc:TypeId×Value→H}{P:Program}{w:World}{base:Nat}{sp:Nat→Bool}{ha:Bool}:∀(F fuel:Nat) (t:TypeId) (cs:List Value) (d:DataW H) (p:List MemPlace),
  qhv P F t=true→DataW.trod enc P w base sp ha fuel t cs=some (d,p)→cs=qhg F d
 | 0,_,_,_,_,_,h,_=>by simp[qhv]at h
 | F+1,fuel,t,cs,d,p,h,hd=>by
   unfold qhv at h;split at h
   ·rename_i k hu
    obtain⟨n,rfl,e,_⟩:=DataW.trod_int hu hd;cases e;rfl
   ·rename_i hu
    obtain⟨b,rfl,e⟩:=DataW.trod_bool hu hd;cases e;rfl
   ·rename_i hu
    obtain⟨s,rfl,e,_⟩:=DataW.trod_string hu hd;cases e;rfl
   ·rename_i k e hu
    simp only[Bool.and_eq_true,beq_iff_eq]at h;obtain⟨xs,m,rfl,hx,hl,hn,hi⟩:=DataW.trod_array hu hd;cases hx;show cs=(xs.map (·.1)).flatMap (qhg F);rw[List.flatMap_map];refine qtz _ (P.cellsOf e) xs cs (by rw[hl,h.1,hn]) ?_;intro i x hx;have Ha:i<k:=by
     have:=(List.getElem?_eq_some_iff.1 hx).1;omega
    have:=hi i Ha;rw[hx]at this;exact qkw F m e _ x.1 x.2 h.2 this
   ·rename_i fs hu
    simp only[Bool.and_eq_true,beq_iff_eq]at h;obtain⟨xs,m,rfl,hx,hl,hn,hi⟩:=DataW.trod_struct hu hd;cases hx;show cs=(xs.map (·.1)).flatMap (qhg F);rw[List.flatMap_map];have:=q2b (P:=P) (fun x:DataW H×List MemPlace=>qhg F x.1) cs fs.toList xs 0 _ (by simpa using hn.symm) h.1 hl.symm (fun i f x hf hx=>by
     have h1:=hi i f (by simpa using hf);rw[hx]at h1;exact qkw F m f.type _ x.1 x.2 (List.all_eq_true.1 h.2 f (List.mem_of_getElem? hf)) h1)
    simpa using this
   ·cases h
theorem qct{P:Program}{W:World}:∀ {laid:List (String×DataW Unit)} {ps:List MemPlace},DataW.LaidVars P W laid ps→∀(i:Nat) (name:String) (d:DataW Unit),laid[i]?=some (name,d) →
  ∀(g:Nat) (t:TypeId) (F:Nat),P.globalNamed name=some g→(P.globals[g]?).map (·.type)=some t→qhv P F t=true→∀(j:Nat) (v:Value),(qhg F d)[j]?=some v→W.cell? ⟨g,j,none⟩=some v
 | [],_,_,i,_,_,hi=>by simp at hi
 | (n,d)::r,ps,h,i,name,d',hi=>by
   obtain⟨g',t',cs,fuel,p,q,Ha,hb,ha,hd,hr,_⟩:=h;intro g t F hg ht hp j v hv
   match i with
   | 0=>
     simp only[List.getElem?_cons_zero,Option.some.injEq,Prod.mk.injEq]at hi;obtain⟨rfl,rfl⟩:=hi;obtain rfl:=Option.some.inj (hg.symm.trans Ha);obtain rfl:=Option.some.inj (ht.symm.trans hb);have e:=qkw F fuel t _ _ _ hp hd;rw[←e]at hv;have:=World.var?_cell hg ha j;rw[this];simpa using hv
   | i+1=>exact qct hr i name d' (by simpa using hi) g t F hg ht hp j v hv
theorem zaq:ownKnob Tryz.prog.godebug=none:=by kernel_rfl
theorem gMt:Tryz.prog.globalNamed "stencil/markup.markupSteps"=some 4:=by kernel_rfl
theorem gCt:Tryz.prog.globalNamed "stencil/markup.contentSteps"=some 5:=by kernel_rfl
theorem gRd:Tryz.prog.globalNamed "stencil/markup.readIn"=some 1:=by kernel_rfl
theorem gOt:Tryz.prog.globalNamed "stencil/markup.others"=some 2:=by kernel_rfl
theorem gEs:Tryz.prog.globalNamed "stencil/markup.escapes"=some 0:=by kernel_rfl
theorem gEl:Tryz.prog.globalNamed "stencil/markup.elements"=some 6:=by kernel_rfl
theorem gAt:Tryz.prog.globalNamed "stencil/markup.attributes"=some 10:=by kernel_rfl
theorem gLe:Tryz.prog.globalNamed "stencil/markup.longEscapes"=some 3:=by kernel_rfl
theorem tLe:(Tryz.prog.globals[3]?).map (·.type)=some 252:=by kernel_rfl
theorem pLe:qhv Tryz.prog 4 252=true:=by kernel_rfl
theorem dLe:qhg 4 (Rows.laid_stencil_markup_longEscapes (H:=Unit))=qox:=rfl
theorem tMt:(Tryz.prog.globals[4]?).map (·.type)=some 255:=by kernel_rfl
theorem tCt:(Tryz.prog.globals[5]?).map (·.type)=some 256:=by kernel_rfl
theorem tRd:(Tryz.prog.globals[1]?).map (·.type)=some 216:=by kernel_rfl
theorem tOt:(Tryz.prog.globals[2]?).map (·.type)=some 216:=by kernel_rfl
theorem tEs:(Tryz.prog.globals[0]?).map (·.type)=some 213:=by kernel_rfl
theorem tEl:(Tryz.prog.globals[6]?).map (·.type)=some 293:=by kernel_rfl
theorem tAt:(Tryz.prog.globals[10]?).map (·.type)=some 327:=by kernel_rfl
theorem pMt:qhv Tryz.prog 4 255=true:=by kernel_rfl
theorem pCt:qhv Tryz.prog 4 256=true:=by kernel_rfl
theorem pRd:qhv Tryz.prog 4 216=true:=by kernel_rfl
theorem pEs:qhv Tryz.prog 4 213=true:=by kernel_rfl
theorem pEl:qhv Tryz.prog 4 293=true:=by kernel_rfl
theorem pAt:qhv Tryz.prog 4 327=true:=by kernel_rfl
theorem dMt:qhg 4 (Rows.laid_stencil_markup_markupSteps (H:=Unit))=qiv Pl.qbs:=rfl
theorem dCt:qhg 4 (Rows.laid_stencil_markup_contentSteps (H:=Unit))=qiv Pl.qbf:=rfl
theorem dRd:qhg 4 (Rows.laid_stencil_markup_readIn (H:=Unit))=qhx Pl.qeb:=rfl
theorem dOt:qhg 4 (Rows.laid_stencil_markup_others (H:=Unit))=qhx Pl.qeo:=rfl
theorem dEs:qhg 4 (Rows.laid_stencil_markup_escapes (H:=Unit))=qlm Pl.qa3:=rfl
theorem dEl:qhg 4 (Rows.laid_stencil_markup_elements (H:=Unit))=qo8:=rfl
theorem dAt:qhg 4 (Rows.laid_stencil_markup_attributes (H:=Unit))=qpk:=rfl
theorem q5m{W:World}(h:laidMetH Tryz.prog Rows.endedRow.laid W):PTabs W:=by
 obtain⟨ps,hv,_⟩:=(show laidMet Tryz.prog Rows.endedRow.laid W from h);refine⟨fun j v hj=>?_,fun j v hj=>?_,fun j v hj=>?_,fun j v hj=>?_,fun j v hj=>?_,fun j v hj=>?_,fun j v hj=>?_,fun j v hj=>?_⟩
 ·exact qct hv 1 _ _ rfl _ _ 4 gMt tMt pMt j v (by rw[dMt];exact hj)
 ·exact qct hv 2 _ _ rfl _ _ 4 gCt tCt pCt j v (by rw[dCt];exact hj)
 ·exact qct hv 3 _ _ rfl _ _ 4 gRd tRd pRd j v (by rw[dRd];exact hj)
 ·exact qct hv 4 _ _ rfl _ _ 4 gOt tOt pRd j v (by rw[dOt];exact hj)
 ·exact qct hv 5 _ _ rfl _ _ 4 gEs tEs pEs j v (by rw[dEs];exact hj)
 ·exact qct hv 7 _ _ rfl _ _ 4 gEl tEl pEl j v (by rw[dEl];exact hj)
 ·exact qct hv 8 _ _ rfl _ _ 4 gAt tAt pAt j v (by rw[dAt];exact hj)
 ·exact qct hv 6 _ _ rfl _ _ 4 gLe tLe pLe j v (by rw[dLe];exact hj)
theorem q3e{W:World}(h:W.ShapedOpen Tryz.prog):qay W:=
 cell_of_shapedOpen_int (zero:=#[.int .i64 0]) h (by decide +kernel) (by kernel_rfl) rfl (by kernel_rfl) (by kernel_rfl) Tryz.underlying3
end Go.Proofs.YtfkhljmiehdgmaaGreatDoor
namespace Go.Proofs.YtfkhljmiehdgmaaGreatDoor
open Go.ChangeShapes Go.WideShapes
theorem qrk{H:Type}{enc:TypeId×Value→H}{C:Checked}{os:Os}{f:FuncId}{fn:Func}{s:OpenSpec}{conds:List PathCond}{apart:Bool}{laid:List (String×DataW Unit)}(modest:Bool)(w0:World)(args:Array Value)(hb:w0.os=os)
  (Hb:(w0.forCall (fun _ _=>0) ⟨#[],args,[]⟩).Shaped C.prog)
  (Ha:Input.okWideB C.prog (w0.forCall (fun _ _=>0) ⟨#[],args,[]⟩) f ⟨#[],args,[]⟩=true)
  (ha:s.preRow enc C.prog fn conds apart laid (w0.forCall (fun _ _=>0) ⟨#[],args,[]⟩).memory args) :
  ∃(w:World) (tape:Tape) (i:Input),w.os=os∧(w.forCall tape i).Shaped C.prog∧i.vars=[]∧Input.okWide C.prog (w.forCall tape i) .any w.heap.size f i ∧
   s.preRow enc C.prog fn conds apart laid (w.forCall tape i).memory i.args∧({ modest:=modest }:Assume).holds C.prog (lone (Frame.enter C.prog f i.args .normal) [] (w.forCall tape i)):=
 ⟨w0,fun _ _=>0,⟨#[],args,[]⟩,hb,Hb,(Input.okWide_of_okWideB (base:=0) Ha).1,(Input.okWide_of_okWideB Ha).2,ha,by
  simp only[Assume.holds];exact⟨by simp,by simp,fun _=>Modest.zero,by simp,by simp⟩⟩
end Go.Proofs.YtfkhljmiehdgmaaGreatDoor
namespace Go.Proofs.YtfkhljmiehdgmaaGreatDoor.fnCompiles
open Go.ChangeShapes Go.WideShapes Go.ChangeAt Go.RowKit Go.WideMaps Go.WideElems
open Go.ChangeMaps (setBlock shut_map_nil open_string shut_string keptBut_setBlock frozen?_setBlock heap_setBlock_same)
theorem q56(os:Os):laidMet Tryz.prog Rows.compilesRow.laid ((World.laidAll Tryz.prog os Rows.compilesRow.laid).forCall (fun _ _=>0) ⟨#[],#[.string .empty,.slice none 0 0],[]⟩).memory:=
 laidMet_laidAll _ (by kernel_rfl) (by kernel_rfl)
theorem qm9(os:Os):((World.laidAll Tryz.prog os Rows.compilesRow.laid).forCall (fun _ _=>0) ⟨#[],#[.string .empty,.slice none 0 0],[]⟩).Shaped Tryz.prog:=World.shaped_of_ZipB (by kernel_rfl) (by kernel_rfl)
theorem zam(os:Os){H:Type}(enc:TypeId×Value→H):∃places,DataW.whole enc Tryz.prog ((World.laidAll Tryz.prog os Rows.compilesRow.laid).forCall (fun _ _=>0) ⟨#[],#[.string .empty,.slice none 0 0],[]⟩).memory Tryz.f3.params.toList Rows.compilesSpec.vars false #[Value.string .empty,Value.slice none 0 0].toList 8=some ([.lit (.string []),.nil],[],places):=
 ⟨[],by kernel_rfl⟩
end Go.Proofs.YtfkhljmiehdgmaaGreatDoor.fnCompiles
