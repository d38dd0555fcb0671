/-
  Steps of the proof (texts laid together, blanks left out): RdC, RtW, RtB, RtC, RtG.
-/
import Derived.Shelf.Strings.FieldsFuncGrows
import Derived.Test.YtfkhljmiehdgmaaGreatDoorTaBJ
import Derived.Test.YtfkhljmiehdgmaaGreatDoorTaAG
import Derived.Test.YtfkhljmiehdgmaaGreatDoorTaAK
import Derived.Test.YtfkhljmiehdgmaaGreatDoorTaBC
import Derived.Test.YtfkhljmiehdgmaaGreatDoorTaBB
import Derived.Lay
import Derived.Stop.Joined
import Derived.Test.YtfkhljmiehdgmaaGreatDoorTaAE
import Derived.WideKeyArgs
namespace Go.Proofs.YtfkhljmiehdgmaaGreatDoor
open Go.RowKit
theorem qwa (w:World):PredGrows Tryz.prog 228 #[] qb6 w:=fun W x hx _=>qvw x W hx
theorem qv2 (s:ByteArray) (w:World) (hs:s.size≤100000) :
  Calls Tryz.prog 227 #[.string s,.func (.func 228) #[] #[]] w fun e w'=>∃ A,e=.returned (.slice (some ⟨A,0,none⟩) (Lib.goFieldsP qb6 s).length (Lib.goFieldsP qb6 s).length)∧w.heap.size≤A ∧
   (∀ j x,(Lib.goFieldsP qb6 s)[j]?=some x→w'.cell? ⟨A,j,none⟩=some (.string x))∧Below w.heap.size w w':=by
 refine(Tryz.strings_FieldsFunc_grows 228 #[] (fun _ _=>by kernel_rfl) qb6 s w (by omega) (qwa w)).mono ?_
 rintro e w' ⟨A,he,hA,ho,hb⟩
 refine⟨A,he,hA,fun j x hj=>?_,hb⟩
 have hlt:j<(Lib.goFieldsP qb6 s).length:=(List.getElem?_eq_some_iff.1 hj).1
 rw[ho.cellAt j (by omega),List.getElem?_map,hj]
 rfl
def rdTg:List (List UInt8)→Pl.Tg
 | [a,b]=>if Pl.qeh a=true∧Pl.qeh b=true then⟨8,0,[],a,b⟩ else⟨8,4,[],[],[]⟩
 | _=>⟨8,4,[],[],[]⟩
theorem q3b (l:List (List UInt8)) (h:l.length≠2):rdTg l=⟨8,4,[],[],[]⟩:=by
 match l,h with
 | [],_=>rfl
 | [_],_=>rfl
 | [_,_],h=>exact absurd rfl h
 | _::_::_::_,_=>rfl
theorem q0q (c:List UInt8):Pl.qga c=if Lib.hasSuffix (c.drop 1) [61]=false then⟨8,4,[],[],[]⟩ else rdTg (Pl.qkx (Lib.trimSuffix (c.drop 1) [61])):=rfl
set_option maxRecDepth 100000 in
set_option maxHeartbeats 3200000 in
theorem qov (s:ByteArray) (w:World) (I:ByteArray) (b:Bool) (F:List ByteArray) (r:Pl.Tg) (hs:s.size≠0)
  (hC:∀ w,Calls Tryz.prog 226 #[.string (s.extract 1 s.size),.string ⟨#[61]⟩] w fun e w'=>e=.returned (.tuple #[.string I,.bool b])∧w=w')
  (hF:∀ w,Calls Tryz.prog 227 #[.string I,.func (.func 228) #[] #[]] w fun e w'=>∃ A,e=.returned (.slice (some ⟨A,0,none⟩) F.length F.length)∧w.heap.size≤A ∧
   (∀ j x,F[j]?=some x→w'.cell? ⟨A,j,none⟩=some (.string x))∧Below w.heap.size w w')
  (hr:r=if b=false then⟨8,4,[],[],[]⟩ else rdTg (F.map (·.data.toList))) :
  Calls Tryz.prog 194 #[.string s] w fun e w'=>e=.returned (qdl r)∧Below w.heap.size w w':=by
 have HC:=(show Hid _ from hC)
 have HF:=(show Hid _ from hF)
 have HD:=(show Hid _ from qvu)
 have c1:(1:Int)≤(s.size:Int):=by omega
 clear hC hF hs
 by_cases hb:b=false
 ·subst hb
  simp only[if_true]at hr
  subst hr
  go_enter Tryz.func194,Tryz.ntmps194
  go_wp2_with (first
   | (go_at_call 226; refine Calls.mono (HC.out _) ?_; rintro e w' ⟨rfl,rfl⟩)
   | (go_at_call 227; refine Calls.mono (HF.out _) ?_; rintro e w' ⟨A,rfl,hA,hK,hb⟩; have hS:=(qdc w).next hb; obtain⟨⟨k0,k1,k2,k3,k4⟩,f0,f1,f2,f3,f4⟩:=hS.facts; have HS:=(show Hid _ from hS); clear hb hS hK))
  exact qfs (w0:=w) ⟨8,4,[],[],[]⟩ Tryz.results194 rfl rfl HS.out rfl
 obtain rfl:b=true:=by simpa using hb
 clear hb
 simp only[Bool.true_eq_false,if_false]at hr
 by_cases hn:F.length=2
 rotate_left
 ·have hr2:r=⟨8,4,[],[],[]⟩:=by
   rw[hr]
   exact q3b _ (by rw[List.length_map]; exact hn)
  have hne:((F.length:Int) != 2)=true:=by rw[bne_iff_ne]; omega
  have hne2:¬(F.length:Int)=2:=by omega
  clear hr
  subst hr2
  generalize F.length=n at HF hne hne2
  clear hn
  go_enter Tryz.func194,Tryz.ntmps194
  go_wp2_with (first
   | (go_at_call 226; refine Calls.mono (HC.out _) ?_; rintro e w' ⟨rfl,rfl⟩)
   | (go_at_call 227; refine Calls.mono (HF.out _) ?_; rintro e w' ⟨A,rfl,hA,hK,hb⟩; have hS:=(qdc w).next hb; obtain⟨⟨k0,k1,k2,k3,k4⟩,f0,f1,f2,f3,f4⟩:=hS.facts; have HS:=(show Hid _ from hS); clear hb hS hK))
  exact qfs (w0:=w) ⟨8,4,[],[],[]⟩ Tryz.results194 rfl rfl HS.out rfl
 obtain⟨x,y,rfl⟩:∃ x y,F=[x,y]:=by
  match F,hn with
  | [x,y],_=>exact⟨x,y,rfl⟩
 simp only[List.map_cons,List.map_nil,rdTg]at hr
 have HF2:Hid (∀ w,Calls Tryz.prog 227 #[.string I,.func (.func 228) #[] #[]] w fun e w'=>∃ A,e=.returned (.slice (some ⟨A,0,none⟩) 2 2)∧w.heap.size≤A ∧
   (w'.cell? ⟨A,0,none⟩=some (.string x)∧w'.cell? ⟨A,1,none⟩=some (.string y))∧Below w.heap.size w w'):=fun w=>(HF.out w).mono (by
  rintro e w' ⟨A,he,hA,hK,hb⟩
  exact⟨A,he,hA,⟨hK 0 x rfl,hK 1 y rfl⟩,hb⟩)
 clear HF hn
 by_cases h1:Pl.qeh x.data.toList=true
 rotate_left
 ·have h1:=Bool.eq_false_iff.2 h1
  have hr2:r=⟨8,4,[],[],[]⟩:=by rw[hr,h1]; simp
  clear hr
  subst hr2
  have HX:Hid (∀ w,Calls Tryz.prog 229 #[.string x] w fun e w'=>e=.returned (.bool false)∧w=w'):=fun w=>h1▸HD.out x w
  clear h1 HD
  go_enter Tryz.func194,Tryz.ntmps194
  go_wp2_with (first
   | (go_at_call 226; refine Calls.mono (HC.out _) ?_; rintro e w' ⟨rfl,rfl⟩)
   | (go_at_call 227; refine Calls.mono (HF2.out _) ?_; rintro e w' ⟨A,rfl,hA,⟨hK0,hK1⟩,hb⟩; have hS:=(qdc w).next hb; obtain⟨⟨k0,k1,k2,k3,k4⟩,f0,f1,f2,f3,f4⟩:=hS.facts; have HS:=(show Hid _ from hS); clear hb hS)
   | (go_at_call 229; refine Calls.mono (HX.out _) ?_; rintro e w'' ⟨rfl,rfl⟩))
  exact qfs (w0:=w) ⟨8,4,[],[],[]⟩ Tryz.results194 rfl rfl HS.out rfl
 have HX:Hid (∀ w,Calls Tryz.prog 229 #[.string x] w fun e w'=>e=.returned (.bool true)∧w=w'):=fun w=>h1▸HD.out x w
 by_cases h2:Pl.qeh y.data.toList=true
 rotate_left
 ·have h2:=Bool.eq_false_iff.2 h2
  have hr2:r=⟨8,4,[],[],[]⟩:=by rw[hr,h2]; simp
  clear hr
  subst hr2
  obtain⟨dl,h1,h2,HZ⟩:∃ dl:ByteArray→Bool,dl x=true∧dl y=false∧Hid (∀(z:ByteArray) (w:World),Calls Tryz.prog 229 #[.string z] w fun e w'=>e=.returned (.bool (dl z))∧w=w'):=⟨fun z=>Pl.qeh z.data.toList,h1,h2,fun z w=>HD.out z w⟩
  clear HD HX
  go_enter Tryz.func194,Tryz.ntmps194
  go_wp2_with (first
   | (go_at_call 226; refine Calls.mono (HC.out _) ?_; rintro e w' ⟨rfl,rfl⟩)
   | (go_at_call 227; refine Calls.mono (HF2.out _) ?_; rintro e w' ⟨A,rfl,hA,⟨hK0,hK1⟩,hb⟩; have hS:=(qdc w).next hb; obtain⟨⟨k0,k1,k2,k3,k4⟩,f0,f1,f2,f3,f4⟩:=hS.facts; have HS:=(show Hid _ from hS); clear hb hS)
   | (go_at_call 229; refine Calls.mono (HZ.out _ _) ?_; rintro e w'' ⟨rfl,rfl⟩; first | rw[h1] | rw[h2]))
  exact qfs (w0:=w) ⟨8,4,[],[],[]⟩ Tryz.results194 rfl rfl HS.out rfl
 have hr2:r=⟨8,0,[],x.data.toList,y.data.toList⟩:=by rw[hr,h1,h2]; simp
 obtain⟨dl,h1,h2,HZ⟩:∃ dl:ByteArray→Bool,dl x=true∧dl y=true∧Hid (∀(z:ByteArray) (w:World),Calls Tryz.prog 229 #[.string z] w fun e w'=>e=.returned (.bool (dl z))∧w=w'):=⟨fun z=>Pl.qeh z.data.toList,h1,h2,fun z w=>HD.out z w⟩
 clear hr HD HX
 subst hr2
 have HV:Hid (#[Value.int .i64 8,.int .i64 0,.string ⟨#[]⟩,.string x,.string y]=qky ⟨8,0,[],x.data.toList,y.data.toList⟩):=rfl
 go_enter Tryz.func194,Tryz.ntmps194
 go_wp2_with (first
   | (go_at_call 226; refine Calls.mono (HC.out _) ?_; rintro e w' ⟨rfl,rfl⟩)
   | (go_at_call 227; refine Calls.mono (HF2.out _) ?_; rintro e w' ⟨A,rfl,hA,⟨hK0,hK1⟩,hb⟩; have hS:=(qdc w).next hb; obtain⟨⟨k0,k1,k2,k3,k4⟩,f0,f1,f2,f3,f4⟩:=hS.facts; have HS:=(show Hid _ from hS); clear hb hS)
   | (go_at_call 229; refine Calls.mono (HZ.out _ _) ?_; rintro e w'' ⟨rfl,rfl⟩; first | rw[h1] | rw[h2]))
 have hne:A≠w.heap.size:=by
  have hsz:∀ o:Obj,(w.alloc o).heap.size=w.heap.size+1:=fun o=>by unfold World.alloc; simp only[Array.size_push]
  rw[hsz]at hA
  omega
 clear hA
 go_region
 go_wp2_with fail
 exact qmt (w0:=w) (r:=⟨8,0,[],x.data.toList,y.data.toList⟩) Tryz.results194 rfl rfl (by rw[← HV.out]; exact qtf HS.out.blk _ _ _ _ _) (qle HS.out.below (Nat.le_refl _) _ _ _ _ _).drew
theorem q8t (s:ByteArray):(s.extract 1 s.size).data.toList=s.data.toList.drop 1:=by
 rw[Lib.extract_eq]
 show List.take _ _=_
 exact List.take_of_length_le (by simp)
theorem qow (s:ByteArray) (w:World) (hs:s.size≠0) (hl:s.size≤100000) :
  Calls Tryz.prog 194 #[.string s] w fun e w'=>e=.returned (qdl (Pl.qga s.data.toList))∧Below w.heap.size w w':=by
 have hx:=q8t s
 have hsz:(s.extract 1 s.size).size≤s.size:=by simp
 have hI:(⟨(Lib.trimSuffix (s.data.toList.drop 1) [61]).toArray⟩:ByteArray).size≤100000:=by
  show (Lib.trimSuffix (s.data.toList.drop 1) [61]).length≤_
  have h3:s.data.toList.length=s.size:=by simp
  unfold Lib.trimSuffix
  split<;>simp<;>omega
 have hw:=qtj ⟨(Lib.trimSuffix (s.data.toList.drop 1) [61]).toArray⟩
 refine qov s w ⟨(Lib.trimSuffix (s.data.toList.drop 1) [61]).toArray⟩ (Lib.hasSuffix (s.data.toList.drop 1) [61]) (Lib.goFieldsP qb6 ⟨(Lib.trimSuffix (s.data.toList.drop 1) [61]).toArray⟩) _ hs (fun w=>?_) (fun w=>qv2 _ w hI) ?_
 ·refine(Tryz.strings_CutSuffix (s.extract 1 s.size) ⟨#[61]⟩ w (by omega)).mono ?_
  rintro e w' ⟨rfl,rfl⟩
  rw[hx]
  exact⟨rfl,rfl⟩
 ·rw[q0q,← hw]
theorem qvg (s:ByteArray) (w:World) (hs:s.size≤100000) (h8:Pl.qa6 s.data.toList=8) :
  Calls Tryz.prog 149 #[.string s] w fun e w'=>e=.returned (qdl (Pl.qcg s.data.toList))∧Below w.heap.size w w':=by
 have hne:s.size≠0:=fun q=>by
  have:s.data.toList=[]:=by
   apply List.eq_nil_of_length_eq_zero; simpa using q
  rw[this]at h8
  exact absurd h8 (by decide)
 have HV:Pl.qcg s.data.toList=Pl.qga s.data.toList:=by unfold Pl.qcg; rw[h8]; rfl
 rw[HV]
 have HR:Hid (#[Value.int .i64 (Pl.qga s.data.toList).kind,.int .i64 (Pl.qga s.data.toList).slip,bs (Pl.qga s.data.toList).name,bs (Pl.qga s.data.toList).op,bs (Pl.qga s.data.toList).cl]=qky (Pl.qga s.data.toList)):=rfl
 have HN:=(show Hid _ from fun w=>qow s w hne hs)
 have HK:=(show Hid _ from fun w=>h8▸qft s w)
 clear HV h8 hne hs
 generalize Pl.qga s.data.toList=r at HN HR ⊢
 unfold qdl at HN
 unfold bs at HN HR
 generalize (r.kind:Int)=r0 at HN HR
 generalize (r.slip:Int)=r1 at HN HR
 generalize (⟨r.name.toArray⟩:ByteArray)=r2 at HN HR
 generalize (⟨r.op.toArray⟩:ByteArray)=r3 at HN HR
 generalize (⟨r.cl.toArray⟩:ByteArray)=r4 at HN HR
 go_enter Tryz.func149,Tryz.ntmps149
 go_wp2_with (first
   | (go_at_call 193; refine Calls.mono (HK.out _) ?_; rintro e w' ⟨rfl,rfl⟩)
   | (go_at_call 194; refine Calls.mono (HN.out _) ?_; rintro e w' ⟨rfl,hb⟩; have hS:=(qdc w).next hb; obtain⟨⟨k0,k1,k2,k3,k4⟩,f0,f1,f2,f3,f4⟩:=hS.facts; have HS:=(show Hid _ from hS); clear hb hS))
 exact qfs (w0:=w) r Tryz.results149 rfl rfl HS.out HR.out
theorem qlh (t:List UInt8):qc8 t:=by
 intro L w hL hm hw
 by_cases h8:Pl.qa6 L=8
 ·exact qvg ⟨L.toArray⟩ w (by rw[qc2]; omega) h8
 ·exact qx7 ⟨L.toArray⟩ w (by rw[qc2]; omega) hw h8
end Go.Proofs.YtfkhljmiehdgmaaGreatDoor
namespace Go.Proofs.YtfkhljmiehdgmaaGreatDoor
open Go.ChangeShapes Go.WideShapes
theorem qqb {H:Type} {enc:TypeId×Value→H} {C:Checked} {os:Os} {f:FuncId} {fn:Func} {s:OpenSpec} {conds:List PathCond} {apart:Bool} {laid:List (String×DataW Unit)} (modest:Bool) (w0:World) (args:Array Value) (hos:w0.os=os)
  (hsh:(w0.forCall (fun _ _=>0) ⟨#[],args,[]⟩).Shaped C.prog)
  (hok:Input.okWideB C.prog (w0.forCall (fun _ _=>0) ⟨#[],args,[]⟩) f ⟨#[],args,[]⟩=true)
  (hrow:s.preRow enc C.prog fn conds apart laid (w0.forCall (fun _ _=>0) ⟨#[],args,[]⟩).memory args) :
  ∃(w:World) (tape:Tape) (i:Input),w.os=os∧(w.forCall tape i).Shaped C.prog∧i.vars=[]∧Input.okWide C.prog (w.forCall tape i) .any w.heap.size f i ∧
   s.preRow enc C.prog fn conds apart laid (w.forCall tape i).memory i.args∧({ modest:=modest }:Assume).holds C.prog (lone (Frame.enter C.prog f i.args .normal) [] (w.forCall tape i)):=
 ⟨w0,fun _ _=>0,⟨#[],args,[]⟩,hos,hsh,(Input.okWide_of_okWideB (base:=0) hok).1,(Input.okWide_of_okWideB hok).2,hrow,by
  simp only[Assume.holds]
  exact⟨by simp,by simp,fun _=>Modest.zero,by simp,by simp⟩⟩
end Go.Proofs.YtfkhljmiehdgmaaGreatDoor
namespace Go.Proofs.YtfkhljmiehdgmaaGreatDoor.fnTaken
open Go.ChangeShapes Go.WideShapes Go.ChangeAt Go.RowKit Go.WideMaps Go.WideElems
open Go.ChangeMaps (setBlock shut_map_nil open_string shut_string keptBut_setBlock frozen?_setBlock heap_setBlock_same)
theorem q3z (os:Os):laidMet Tryz.prog Rows.takenRow.laid ((World.laidAll Tryz.prog os Rows.takenRow.laid).forCall (fun _ _=>0) ⟨#[],#[.slice none 0 0,.string .empty],[]⟩).memory:=
 laidMet_laidAll _ (by kernel_rfl) (by kernel_rfl)
theorem qsc (os:Os):((World.laidAll Tryz.prog os Rows.takenRow.laid).forCall (fun _ _=>0) ⟨#[],#[.slice none 0 0,.string .empty],[]⟩).Shaped Tryz.prog:=World.shaped_of_ZipB (by kernel_rfl) (by kernel_rfl)
theorem q8r (os:Os) {H:Type} (enc:TypeId×Value→H):∃ places,DataW.whole enc Tryz.prog ((World.laidAll Tryz.prog os Rows.takenRow.laid).forCall (fun _ _=>0) ⟨#[],#[.slice none 0 0,.string .empty],[]⟩).memory Tryz.f9.params.toList Rows.takenSpec.vars false #[Value.slice none 0 0,Value.string .empty].toList 8=some ([.nil,.lit (.string [])],[],places):=
 ⟨[],by kernel_rfl⟩
set_option maxRecDepth 100000 in
set_option maxHeartbeats 40000000 in
theorem jf:joinedFacts Tryz.pinned.checked.prog 9 Tryz.f9 (Rows.OpenSpec.upto Rows.takenSpec).bare Rows.takenUptoRow=true:=by
 unfold joinedFacts
 repeat' (rw[Bool.and_eq_true]; constructor)
 all_goals (as_aux_lemma=>kernel_rfl)
end Go.Proofs.YtfkhljmiehdgmaaGreatDoor.fnTaken
