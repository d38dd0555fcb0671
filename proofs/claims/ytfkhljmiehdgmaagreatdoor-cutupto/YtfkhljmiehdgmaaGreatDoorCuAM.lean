/-
  Steps of the proof.
-/
import Derived.Test.YtfkhljmiehdgmaaGreatDoorCuAL
import Derived.WalkSmall
import Derived.Lib.AppendIntMem
import Derived.RangeFuncOwn
import Derived.RangeFuncNested
import Derived.RangeFuncBound
import Derived.RangeFuncLeaves
import Derived.Shelf.Abstract
import Derived.Shelf.RegionOpen
import Derived.OwnWalkIn
import Derived.TacticsInMore
import Derived.LoopNIn
import Derived.LoopIn
set_option maxRecDepth 100000
set_option maxHeartbeats 40000000
namespace Go.Proofs.YtfkhljmiehdgmaaGreatDoor
open Go.RowKit Go.Proofs.Tryz Pl
section
open Go.Lib
theorem q6v(w:World)(B g:Nat)(a0 a1 a3 a4 a7:Value)(rm q:Nat)(l:zU)(p v:Value)(h:WbAt w B g a0 a1 (zI rm) a3 a4 a7 l p v)(s:zT)(y:l.length+s.size<=140737488355328)(z:(rm:Int)<=9223372036854775807)(V:l.length+q=rm)(X:q<s.size) :
  zC 125 #[zP g,.string s] w fun e w'=>e=.returned (zI 6)/\(∃p' v',WbAt w' B g a0 a1 (zI rm) a3 a4 a7 (l++s.data.toList.take q) p' v')/\Below B w w'/\OthersKept 5 (some g) w w':=by
 have Y:(s.extract 0 q).data.toList=s.data.toList.take q:=by
  rw[Lib.extract_eq];simp
 have Z:Hid (∀m,zC 142 #[.pointer (some (zO g 5)),.string (s.extract 0 q)] (w.drewN m) fun e w'=>e=.returned (.tuple #[zI (s.extract 0 q).size,.nilIface])/\(∃p' v',WbAt w' B g a0 a1 (zI rm) a3 a4 a7 (l++s.data.toList.take q) p' v')/\Below B w w'/\OthersKept 5 (some g) w w'):=fun m=>by
  have h2:WbAt (w.drewN m) B g a0 a1 (zI rm) a3 a4 a7 l p v:=⟨h.le,h.blk,h.own,h.adr,h.nil⟩;refine(q62 (w.drewN m) B g a0 a1 (zI rm) a3 a4 a7 l p v h2 (s.extract 0 q) (by simp;omega)).mono ?_;rintro e w' ⟨he,hy,hb,hk⟩;rw[Y]at hy;exact⟨he,hy,(qat (xL B w) m).trans hb,fun k o ho h1 h2=>hk k o ho h1 h2⟩
 have HL:Hid (∀m,zC 174 #[.pointer (some (zO g 5))] (w.drewN m) fun e w'=>e=.returned (zI l.length)/\w.drewN m=w'):=fun m=>by
  have h2:WbAt (w.drewN m) B g a0 a1 (zI rm) a3 a4 a7 l p v:=⟨h.le,h.blk,h.own,h.adr,h.nil⟩;exact za3 (w.drewN m) B g a0 a1 (zI rm) a3 a4 a7 l p v h2
 obtain⟨_,_,c2,_,_,_,_⟩:=h.all;have c2':∀m,(w.drewN m).cell? (zO g 2)=some (zI rm):=fun m=>c2;have D:decide ((0:Int)<=(rm:Int))=true:=by rw[decide_eq_true_iff];omega
 have hs:IntKind.i64.wrap ((rm:Int) - (l.length:Int))=(rm:Int) - (l.length:Int):=by rw[IntKind.wrap_i64];omega
 have I:decide ((rm:Int) - (l.length:Int)<(s.size:Int))=true:=by rw[decide_eq_true_iff];omega
 have J:(rm:Int) - (l.length:Int)<(s.size:Int):=by omega
 have O:(rm:Int) - (l.length:Int)<=(s.size:Int):=by omega
 have T:(0:Int)<=(rm:Int) - (l.length:Int):=by omega
 have U:((rm:Int) - (l.length:Int)).toNat=q:=by omega
 clear X h Y y V z;go_enter func125,ntmps125
 go_wp2
 go_quiet ((go_at_call 174;refine qko (HL.out _)))
 go_wp2
 go_region_with (first
  |(go_at_call 174;refine cm (HL.out _) ?_)
  | (go_at_call 142;refine xQ (Z.out _) ?_;rintro e w' ⟨rfl,hR⟩))
 all_goals
  go_wp2
  go_ret
  exact⟨rfl,hR⟩
def zie(e:Ev)(o:Wt):Prop:=e.room<=9223372036854775807/\(e.room<0\/(o.out.length:Int)<=e.room)
theorem q2g(w:World)(B g:Nat)(a0 a1 a3 a4 a7:Value)(e:Ev)(o:Wt)(p v:Value)(h:WbAt w B g a0 a1 (zI e.room) a3 a4 a7 o.out p v)(t:zU)(y:o.out.length+t.length<=140737488355328)(I:zie e o) :
  zC 125 #[zP g,bs t] w fun ed w'=>ed=.returned (zI (e.put o t).2)/\(∃p' v',WbAt w' B g a0 a1 (zI e.room) a3 a4 a7 (e.put o t).1.out p' v')/\Below B w w'/\OthersKept 5 (some g) w w':=by
 have z:(⟨t.toArray⟩:zT).size=t.length:=by simp[ByteArray.size]
 by_cases J:0<=e.room/\e.room - o.out.length<t.length
 ·have ep:e.put o t=({ o with out:=o.out++t.take (e.room - o.out.length).toNat },6):=by unfold Ev.put;rw[if_pos J]
  rw[ep];obtain⟨rm,D⟩:∃rm:Nat,e.room=(rm:Int):=⟨e.room.toNat,by omega⟩;have O:=I.2;have T:=I.1;rw[D]at h J T O |-;have U:o.out.length+((rm:Int) - o.out.length).toNat=rm:=by omega
  exact q6v w B g a0 a1 a3 a4 a7 rm _ o.out p v h ⟨t.toArray⟩ (by rw[z];exact y) T U (by rw[z];omega)
 ·have ep:e.put o t=({ o with out:=o.out++t },0):=by unfold Ev.put;rw[if_neg J]
  rw[ep];exact q6w w B g a0 a1 a3 a4 a7 e.room o.out p v h ⟨t.toArray⟩ (by rw[z];exact y) I.1 (by rw[z];omega)
end
def qzn(w:World):Prop:=Lib.TabIs prog w "internal/strconv.uint64pow10" .u64 Lib.pow10Tab
theorem qzn.below{B:Nat}{w w':World}(h:qzn w)(y:Below B w w')(z:14<B):qzn w':=var?_below y (by kernel_rfl) z h
theorem zbe(pv:Value)(ao:Option Addr)(n cap k:Nat)(D:pv=.agg #[.slice ao n cap,zI k])(d:Dt)(B:Nat)(w:World)(y:-9223372036854775808<=d.n)(z:d.n<=9223372036854775807)
  (J:∀w',zW w w'->qzn w')
  (O:∀o,zC 215 #[pv] (w.alloc o) fun e w'=>(∃v,e=.returned v/\qm9 B (w.alloc o) d v)/\Below (w.alloc o).heap.size (w.alloc o) w') :
  zC 176 #[pv] w (zR (bs (qc7 d)) w):=by
 subst D;have T:Hid (∀o,zC 215 #[.agg #[.slice ao n cap,zI k]] (w.alloc o) fun e w'=>(∃ia icap na ncap,e=.returned (.agg #[zI d.kind,zI d.n,bs d.s,.slice ia d.items.length icap,.slice na d.names.length ncap]))/\zW w w'):=fun o=>(O o).mono (by
  rintro e w' ⟨⟨v,rfl,U⟩,V⟩;obtain⟨ia,icap,na,ncap,rfl,_,_⟩:=qhi U;exact⟨⟨ia,icap,na,ncap,rfl⟩,(((xL w.heap.size w).alloc (yg _) o).trans (V.mono (by rw[qcf];omega)))⟩)
 have X:=zH (fun(b:Bool) (w:World)=>(strconv_FormatBool b w).mono (fun _ w' h=>(⟨h.1,h.2.symm⟩:_/\w=w')));have Y:Hid (∀w',zW w w'->zC 217 #[zI d.n,zI 10] w' fun e w2=>e=.returned (bs (Lib.itoa d.n))/\zW w w2):=fun w' V=>(strconv_FormatInt_10 d.n y z w' (J w' V)).mono (by
  rintro e w2 ⟨rfl,q,os,rfl⟩;exact⟨rfl,V.trans ((Lib.below_grow w'.heap.size w' (yg _) q os).mono V.size)⟩)
 have Z:Hid (bs (qc7 d)=if d.kind=1 then bs (Lib.formatBool (d.n != 0))else if d.kind=2 then bs (Lib.itoa d.n)else if d.kind=3 then bs d.s else bs []):=by
  show _=_;unfold qc7
  repeat' split
  all_goals rfl
 clear O J y z;generalize bs (qc7 d)=R at Z |-;unfold bs at T Y Z;generalize d.kind=dk at T Z;generalize (⟨(Lib.itoa d.n).toArray⟩:zT)=it at Y Z;generalize d.n=dn at T Z Y;generalize d.items.length=il at T;generalize d.names.length=nl at T;generalize (⟨d.s.toArray⟩:zT)=ds at T Z;rcases(show dk=1\/dk=2\/dk=3\/(dk≠1/\dk≠2/\dk≠3) by omega)with rfl|rfl|rfl|⟨h1,h2,h3⟩
 all_goals
  go_enter func176,ntmps176
  go_wp2_with (first
   |(go_at_call 215;refine xQ (T.out _) ?_;rintro e w' ⟨⟨ia,icap,na,ncap,rfl⟩,V⟩)
   |(go_at_call 216;refine cm (X.out _ _) ?_)
   | (go_at_call 217;refine xQ (Y.out _ (V.alloc V.size _)) ?_;rintro e w2 ⟨rfl,I⟩))
  go_ret
 ·exact⟨by rw[Z.out];rfl,V.alloc V.size _⟩
 ·exact⟨by rw[Z.out];rfl,I⟩
 ·exact⟨by rw[Z.out];rfl,V.alloc V.size _⟩
 ·exact⟨by rw[Z.out];simp[h1,h2,h3],V.alloc V.size _⟩
variable{w w':World}{ao:Option Addr}{n cap k:Nat}
theorem quu{f:Func}{a:Act}{g:Nat}{p t:Tmp}{cs:Array Value}{x:Value}{R:Ending->World->Prop}(y:f.results=#[.cell p 147,.tmp t])(z:a.tmps.getD p undef=zP g)(D:a.tmps.getD t undef=x)(hd:a.defers=[])(I:w.heap[g]?=zK cs 147)(J:cs.size=2)(O:R (.returned (.tuple #[.agg cs,x])) w) :
  bodyPost prog f R .ret a w:=by
 subst D;refine bodyPost_ret ?_ hd O;have T:=qbb (P:=prog) w g 147 cs _ (qaa I) underlying147 rfl (by rw[J];kernel_rfl);rw[yY]at z;simp only[results,y];simp[z,asAddr,T]
def qtf(dv:Value)(r:Option Pc):Value:=.tuple #[qe0 dv (r.getD none),.bool r.isSome]
def fw(w:World)(ao:Option Addr)(n cap k:Nat):World:=(w.alloc (.cells #[.slice ao n cap,zI k] 147)).alloc (.cells #[zN,zI 0] 147)
structure FwAt(w w':World)(ao:Option Addr)(n cap k:Nat):Prop where
 own:w'.heap[w.heap.size]?=zK #[.slice ao n cap,zI k] 147
 res:w'.heap[w.heap.size+1]?=zK #[zN,zI 0] 147
 below:zW w w'
 size:w.heap.size+2<=w'.heap.size
theorem qi3(w:World)(ao:Option Addr)(n cap k:Nat):FwAt w (fw w ao n cap k) ao n cap k:=by
 unfold fw;refine⟨?_,q0t w _ _,qkn w _ _,by rw[qcf,qcf];omega⟩;rw[xI _ _ (by rw[qcf];omega)];exact xF w _
theorem FwAt.below'{w1:World}(h:FwAt w w1 ao n cap k){B:Nat}(y:w.heap.size+2<=B)(z:Below B w1 w'):FwAt w w' ao n cap k:=
 ⟨(z.block _ (by omega)).trans h.own,(z.block _ (by omega)).trans h.res,h.below.trans (z.mono (by omega)),yh h.size z.size⟩
theorem FwAt.drew(h:FwAt w w' ao n cap k):FwAt w w'.drew ao n cap k:=⟨h.own,h.res,h.below.drew,h.size⟩
theorem FwAt.facts(h:FwAt w w' ao n cap k):(w'.cell? (zO w.heap.size 0)=some (.slice ao n cap)/\w'.cell? (zO w.heap.size 1)=some (zI k)/\w'.cell? (zO (w.heap.size+1) 0)=some (zN)/\w'.cell? (zO (w.heap.size+1) 1)=some (zI 0))/\w'.frozen? (zO (w.heap.size+1) 0)=false/\w'.frozen? (zO (w.heap.size+1) 1)=false:=by
 have c:=qaa h.own;have d:=qaa h.res;refine⟨⟨c 0 _ rfl,c 1 _ rfl,d 0 _ rfl,d 1 _ rfl⟩,?_⟩;simp[World.frozen?,h.res]
theorem q9s(ao:Option Addr)(n cap k:Nat)(dv:Value)(name:zT)(d:Dt)(w:World)(U:d.kind≠5)
  (V:zC 215 #[.agg #[.slice ao n cap,zI k]] (fw w ao n cap k) fun e w'=>(∃v,e=.returned v/\qm9 w.heap.size (fw w ao n cap k) d v)/\Below (fw w ao n cap k).heap.size (fw w ao n cap k) w') :
  zC 214 #[.agg #[.slice ao n cap,zI k],.string name] w (zR (qtf dv none) w):=by
 have X:Hid (zC 215 #[.agg #[.slice ao n cap,zI k]] (fw w ao n cap k) fun e w'=>(∃ia icap na ncap,e=.returned (.agg #[zI d.kind,zI d.n,bs d.s,.slice ia d.items.length icap,.slice na d.names.length ncap]))/\FwAt w w' ao n cap k/\∀o,FwAt w (w'.alloc o) ao n cap k):=V.mono (by
  rintro e w' ⟨⟨v,rfl,Y⟩,Z⟩;obtain⟨ia,icap,na,ncap,rfl,_,_⟩:=qhi Y;have hF:=(qi3 w ao n cap k).below' (qi3 w ao n cap k).size Z;exact⟨⟨ia,icap,na,ncap,rfl⟩,hF,fun o=>hF.below' hF.size (zB o)⟩)
 clear V;unfold bs fw at X;generalize d.kind=dk at X U;generalize d.n=dn at X;generalize d.items.length=il at X;generalize d.names.length=nl at X;generalize (⟨d.s.toArray⟩:zT)=ds at X;have D:(dk != 5)=true:=by rw[bne_iff_ne];exact U
 go_enter func214,ntmps214
 go_wp2_with (go_at_call 215;refine xQ X.out ?_;rintro e w' ⟨⟨ia,icap,na,ncap,rfl⟩,hF,y⟩;have z:=zH y;have I:=fun o=>(y o).facts.1.2.2.1;have J:=fun o=>(y o).facts.1.2.2.2;have O:=fun o=>(y o).facts.2.1;have T:=fun o=>(y o).facts.2.2;clear hF y)
 exact quu (g:=w.heap.size+1) results214 rfl rfl rfl (xG _ _ _ _ _ _ (xG _ _ _ _ _ _ (z.out _).res)) rfl ⟨rfl,((z.out _).below.setCell (p:=zO (w.heap.size+1) 0) (Nat.le_succ _) _).setCell (p:=zO (w.heap.size+1) 1) (Nat.le_succ _) _⟩
structure FdAt(w W:World)(g:Nat)(ao:Option Addr)(n cap k:Nat)(ia:Option Addr)(icap:Nat)(na:Option Addr)(ncap:Nat)(items:List Int)(names:List zU):Prop where
 fw:FwAt w W ao n cap k
 c0:W.cell? (zO g 0)=some (zI 5)
 c3:W.cell? (zO g 3)=some (.slice ia items.length icap)
 c4:W.cell? (zO g 4)=some (.slice na names.length ncap)
 len:names.length<=maxLen
 it:∀j x,items[j]?=some x->∃b o,ia=some (zO b o)/\W.cell? (zO b (o+j))=some (zI x)
 nm:∀j x,names[j]?=some x->∃b o,na=some (zO b o)/\W.cell? (zO b (o+j))=some (bs x)
theorem q8q(name:zU):∀(ns:List zU) (is:List Int) (i:Nat) (a:zU) (x:Int),ns[i]?=some a->is[i]?=some x->qlc name (ns.drop i) (is.drop i)=if a=name then some x else qlc name (ns.drop (i+1)) (is.drop (i+1)):=by
 intro ns is i a x y z;obtain⟨l1,e1⟩:=yb.1 y;obtain⟨l2,e2⟩:=yb.1 z;rw[yo l1,yo l2,e1,e2];rfl
theorem q5m(name:zU)(ns:List zU)(is:List Int)(i:Nat)(h:ns.length<=i\/is.length<=i):qlc name (ns.drop i) (is.drop i)=none:=by
 rcases h with h|h
 ·rw[List.drop_eq_nil_of_le h];cases is.drop i<;>rfl
 ·rw[List.drop_eq_nil_of_le h];cases ns.drop i<;>rfl
theorem zc1(ao:Option Addr)(n cap k:Nat)(name:zT)(d:Dt)(w:World)(hk:d.kind=5)
  (hD:zC 215 #[.agg #[.slice ao n cap,zI k]] (fw w ao n cap k) fun e w'=>(∃v,e=.returned v/\qm9 w.heap.size (fw w ao n cap k) d v)/\Below (fw w ao n cap k).heap.size (fw w ao n cap k) w') :
  zC 214 #[.agg #[.slice ao n cap,zI k],.string name] w (zR (qtf (.slice ao n cap) ((qlc name.data.toList d.names d.items).map (qd2 k))) w):=by
 have HD:Hid (zC 215 #[.agg #[.slice ao n cap,zI k]] (fw w ao n cap k) fun e w'=>(∃ia icap na ncap,e=.returned (.agg #[zI 5,zI d.n,bs d.s,.slice ia d.items.length icap,.slice na d.names.length ncap])/\FdAt w (w'.alloc (.cells #[zI 5,zI d.n,bs d.s,.slice ia d.items.length icap,.slice na d.names.length ncap] 67)) w'.heap.size ao n cap k ia icap na ncap d.items d.names)):=hD.mono (by
  rintro e w' ⟨⟨v,rfl,hv⟩,hb⟩;obtain⟨ia,icap,na,ncap,rfl,hI,hN⟩:=qhi hv;have hF:=(qi3 w ao n cap k).below' (qi3 w ao n cap k).size hb;rw[hk];refine⟨ia,icap,na,ncap,rfl,?_⟩;have T:Below (fw w ao n cap k).heap.size (fw w ao n cap k) (w'.alloc (.cells #[zI 5,zI d.n,bs d.s,.slice ia d.items.length icap,.slice na d.names.length ncap] 67)):=hb.alloc hb.size _;have hc:=qaa (xF w' (.cells #[zI 5,zI d.n,bs d.s,.slice ia d.items.length icap,.slice na d.names.length ncap] 67));have Hc:=(qi3 w ao n cap k).size;refine⟨hF.below' hF.size (zB _),hc 0 _ rfl,hc 3 _ rfl,hc 4 _ rfl,by obtain⟨_,_,_,hl,_⟩:=hN;simpa using hl,fun j x hj=>?_,fun j x hj=>?_⟩
  ·obtain⟨ao',cap',he,_,hx⟩:=hI
   obtain⟨b,o,h1,h2,h3⟩:=hx (fun e=>by have:=List.map_eq_nil_iff.1 e;rw[this]at hj;cases hj);simp only[Value.slice.injEq]at he;exact⟨b,o,he.1.trans h1,(T.cell (p:=zO b (o+j)) (by show b<_;omega)).trans (h3 j _ (by rw[yz,hj];rfl))⟩
  ·obtain⟨ao',cap',he,_,hx⟩:=hN
   obtain⟨b,o,h1,h2,h3⟩:=hx (fun e=>by have:=List.map_eq_nil_iff.1 e;rw[this]at hj;cases hj);simp only[Value.slice.injEq]at he;exact⟨b,o,he.1.trans h1,(T.cell (p:=zO b (o+j)) (by show b<_;omega)).trans (h3 j _ (by rw[yz,hj];rfl))⟩)
 clear hD hk;unfold fw at HD;unfold bs at HD;generalize (⟨d.s.toArray⟩:zT)=ds at HD;generalize d.n=dn at HD;generalize d.items=items at HD |-;generalize d.names=names at HD |-;obtain⟨R,HR⟩:∃R,Hid (qlc name.data.toList names items=R):=⟨_,rfl⟩;rw[HR.out];go_enter func214,ntmps214
 go_wp2_with (go_at_call 215;refine xQ HD.out ?_;rintro e w' ⟨ia,icap,na,ncap,rfl,hF⟩;have HF:=zH hF;have U:=hF.c0;have V:=hF.c3;have X:=hF.c4;clear hF)
 generalize w'.alloc _=W at HF U V X |-;generalize w'.heap.size=g at HF U V X |-;have Z:(min (names.length:Int) (items.length:Int))<=names.length/\(min (names.length:Int) (items.length:Int))<=items.length/\(min (names.length:Int) (items.length:Int)=names.length\/min (names.length:Int) (items.length:Int)=items.length):=by omega
 obtain⟨mi,I⟩:∃mi:Nat,(min (names.length:Int) (items.length:Int))=(mi:Int):=⟨min names.length items.length,by omega⟩;rw[I]at Z;simp only[I];clear I;go_loopw [21] (fun i wr=>∃j:Nat,i=zI j/\wr=W/\j<=mi/\Hid (qlc name.data.toList (names.drop j) (items.drop j)=R)) (fun i _=>mi - (intOf i).toNat)
 case atStart=>exact⟨0,rfl,rfl,yH _,HR.out⟩
 case round=>
  obtain⟨j,rfl,rfl,hj,HJ⟩:=hrel;by_cases He:(j:Int)<(mi:Int)
  rotate_left
  ·have HE:Hid (R=none):=by
    show _=_;rw[<-HJ.out];exact q5m _ _ _ _ (by omega)
   have y:=HF.out.fw.facts;obtain⟨⟨_,_,r0,r1⟩,f0,f1⟩:=y;go_wp2
   rw[HE.out];exact quu (g:=w.heap.size+1) results214 rfl rfl rfl (xG _ _ _ _ _ _ (xG _ _ _ _ _ _ HF.out.fw.res)) rfl ⟨rfl,(HF.out.fw.below.setCell (p:=zO (w.heap.size+1) 0) (Nat.le_succ _) _).setCell (p:=zO (w.heap.size+1) 1) (Nat.le_succ _) _⟩
  ·have hf:(j:Int)<(names.length:Int):=by omega
   have Hf:(j:Int)<(items.length:Int):=by omega
   have z:names[j]?=some names[j]:=yc (by omega);have D:items[j]?=some items[j]:=yc (by omega);generalize names[j]=a at z;generalize items[j]=x at D;obtain⟨bn,on,rfl,J⟩:=HF.out.nm j a z;obtain⟨bi,oi,rfl,hg⟩:=HF.out.it j x D;have HS:=zH (q8q name.data.toList names items j a x z D);have y:=HF.out.fw.facts;obtain⟨⟨p0,p1,r0,r1⟩,f0,f1⟩:=y;have Hg:(0:Int)<=(j:Int):=by omega
   unfold bs at J;by_cases ha:a=name.data.toList
   ·have hq:((⟨a.toArray⟩:zT).toList==name.toList)=true:=by
     rw[yF,ByteArray.toList_eq,ByteArray.toList_eq,ha]
    have Ha:Hid (R=some x):=by
     show _=_;have:=HS.out;rw[if_pos ha,HJ.out]at this;exact this
    obtain⟨ao',n',cap',k',HV⟩:∃ao' n' cap' k',Hid (qe0 (.slice ao n cap) (qd2 k x)=.agg #[.slice ao' n' cap',zI k']):=by
     cases qd2 k x with
     |none=>exact⟨_,_,_,_,rfl⟩
     |some m=>exact⟨_,_,_,_,rfl⟩
    have HI:=zH (fun w=>q27 ao n cap k x w);rw[HV.out]at HI;generalize (⟨a.toArray⟩:zT)=ab at J hq;clear HS HJ ha z D;go_wp2
    go_region_with (go_at_call 219;refine xQ (HI.out _) ?_;rintro e w'' ⟨rfl,hb⟩;have O:=FwAt.below' (FwAt.drew HF.out.fw) (FwAt.size HF.out.fw) hb;obtain⟨⟨_,_,q0,q1⟩,g0,g1⟩:=O.facts;have Y:=zH O;clear O hb)
    all_goals
     go_wp2
     rw[Ha.out];refine quu (g:=w.heap.size+1) results214 rfl rfl rfl (xG _ _ _ _ _ _ (xG _ _ _ _ _ _ Y.out.res)) rfl ⟨?_,(Y.out.below.setCell (p:=zO (w.heap.size+1) 0) (Nat.le_succ _) _).setCell (p:=zO (w.heap.size+1) 1) (Nat.le_succ _) _⟩;show _=Ending.returned (.tuple #[qe0 (.slice ao n cap) (qd2 k x),.bool true]);rw[HV.out];rfl
   ·have hq:((⟨a.toArray⟩:zT).toList==name.toList)=false:=by
     rw[yf];intro e;rw[ByteArray.toList_eq,ByteArray.toList_eq]at e;exact ha (by simpa using e)
    have Hb:Hid (qlc name.data.toList (names.drop (j+1)) (items.drop (j+1))=R):=by
     show _=_;have:=HS.out;rw[if_neg ha,HJ.out]at this;exact this.symm
    have hi:(j:Int)+1<=9223372036854775807:=by have:=HF.out.len;unfold maxLen at this;omega
    generalize (⟨a.toArray⟩:zT)=ab at J hq;clear HS ha z D;go_wp2
    go_roundw
    case rel=>exact⟨j+1,by go_num,trivial,by omega,Hb⟩
    case measure=>simp[intOf];omega
variable{B B':Nat}{w:World}{v dv:Value}
theorem qk4.up{xs:List Value}(h:qk4 B w v xs)(z:B<=B'):qk4 B' w v xs:=by
 obtain⟨ao,cap,D,I,J⟩:=h;refine⟨ao,cap,D,I,fun y=>?_⟩;obtain⟨k,o,O,T,U⟩:=J y;exact⟨k,o,O,by omega,U⟩
theorem qm9.up{d:Dt}(h:qm9 B w d v)(y:B<=B'):qm9 B' w d v:=by
 obtain⟨iv,nv,z,D,I⟩:=h;exact⟨iv,nv,z,D.up y,I.up y⟩
def pcA(dv:Value):Pc->Value
 |none=>zN
 |some _=>dv
def pcI:Pc->Nat
 |none=>0
 |some k=>k
theorem qdk(dv:Value)(p:Pc):qe0 dv p=.agg #[pcA dv p,zI (pcI p)]:=by cases p<;>rfl
theorem qgu{D:List Dt}(h:DsAt B w dv D)(p:Pc):∃ao n cap,pcA dv p=.slice ao n cap:=by
 cases p with
 |none=>exact⟨_,_,_,rfl⟩
 |some k=>obtain⟨ao,cap,y,_⟩:=h;exact⟨_,_,_,y⟩
theorem qyb(dv:Value)(D:List Dt)(p:Pc)(name:zT)(B:Nat)(w:World)(J:B<=w.heap.size)(O:DsAt B w dv D) :
  zC 214 #[qe0 dv p,.string name] w (zR (qtf dv (qo1 D p name.data.toList)) w):=by
 obtain⟨ao,n,cap,T⟩:=qgu O p;have z:=qm3 dv D p B (fw w ao n cap (pcI p)) (yh J (qi3 w ao n cap (pcI p)).below.size) (O.below ((qi3 w ao n cap (pcI p)).below.mono J));rw[qdk,T]at z |-;have y:=z.mono (fun e w' h=>(⟨h.1.elim fun v U=>⟨v,U.1,U.2.up J⟩,h.2⟩:(∃v,e=.returned v/\qm9 w.heap.size (fw w ao n cap (pcI p)) (qbe D p) v)/\Below (fw w ao n cap (pcI p)).heap.size (fw w ao n cap (pcI p)) w'));by_cases V:(qbe D p).kind=5
 ·cases p with
  |none=>exact absurd (show(0:Int)=5 from V) (by decide)
  |some k=>
    have e:qo1 D (some k) name.data.toList=(qlc name.data.toList (qbe D (some k)).names (qbe D (some k)).items).map (qd2 k):=by
     show(if(qbe D (some k)).kind≠5 then none else _)=_;rw[if_neg (by simp[V])]
    rw[e];have I:dv=.slice ao n cap:=T;rw[I];exact zc1 ao n cap k name _ w V y
 ·have e:qo1 D p name.data.toList=none:=by
   cases p with
   |none=>rfl
   |some k=>
     show(if(qbe D (some k)).kind≠5 then none else _)=_;rw[if_pos V]
  rw[e];exact q9s ao n cap (pcI p) dv name _ w V y
theorem q86(dv:Value)(D:List Dt)(p:Pc)(B:Nat)(w:World)(y:B<=w.heap.size)(z:DsAt B w dv D) :
  zC 177 #[qe0 dv p] w (zR (.bool (qvb (qbe D p))) w):=by
 obtain⟨ao,n,cap,I⟩:=qgu z p;refine q85 _ ao n cap (pcI p) (by rw[qdk,I]) _ B w fun o=>?_;exact qm3 dv D p B (w.alloc o) (by rw[qcf];omega) (z.below ((xL _ _).alloc y _))
theorem zbf(dv:Value)(D:List Dt)(p:Pc)(B:Nat)(w:World)(y:B<=w.heap.size)(z:DsAt B w dv D)(I:∀d∈D,-9223372036854775808<=d.n/\d.n<=9223372036854775807)(J:qzn w)(O:14<B) :
  zC 176 #[qe0 dv p] w (zR (bs (qc7 (qbe D p))) w):=by
 obtain⟨ao,n,cap,T⟩:=qgu z p;have U:-9223372036854775808<=(qbe D p).n/\(qbe D p).n<=9223372036854775807:=by
  cases p with
  |none=>exact⟨show(-9223372036854775808:Int)<=0 by decide,show(0:Int)<=9223372036854775807 by decide⟩
  |some k=>
    by_cases V:k<D.length
    ·have e:qbe D (some k)=D[k]:=by simp[qbe,List.getD,List.getElem?_eq_getElem V]
     rw[e];exact I _ (List.getElem_mem V)
    ·have e:qbe D (some k)=Dt.null:=by simp[qbe,List.getD,List.getElem?_eq_none (Nat.le_of_not_lt V)]
     rw[e];exact⟨by decide,by decide⟩
 refine zbe _ ao n cap (pcI p) (by rw[qdk,T]) _ B w U.1 U.2 (fun w' h=>J.below h (by omega)) fun o=>?_;exact qm3 dv D p B (w.alloc o) (by rw[qcf];omega) (z.below ((xL _ _).alloc y _))
def qzm(w:World)(dv v:Value)(K:List Pc):Prop:=∃so cap,v=.slice so K.length cap/\K.length<=maxLen/\(K≠[]->∃b,so=some (zO b 0)/\b<w.heap.size/\∀i p,K.reverse[i]?=some p->w.cell? (zO b (i*2))=some (pcA dv p)/\w.cell? (zO b (i*2+1))=some (zI (pcI p)))
theorem qzm.below{w':World}{K:List Pc}(h:qzm w dv v K)(z:w.heap.size<=B)(D:Below B w w'):qzm w' dv v K:=by
 obtain⟨so,cap,I,J,O⟩:=h;refine⟨so,cap,I,J,fun y=>?_⟩;obtain⟨b,T,U,V⟩:=O y;refine⟨b,T,yi U D.size,fun i p X=>?_⟩;obtain⟨k1,k2⟩:=V i p X;exact⟨(D.cell (p:=zO b (i*2)) (yi U z)).trans k1,(D.cell (p:=zO b (i*2+1)) (yi U z)).trans k2⟩
section
open Go.Lib
variable{B g:Nat}{w w':World}{p v p' v' vv dv sv z:Value}{e:Ev}{K:List Pc}{o:Wt}
def qis(dv:Value)(K:List Pc):List Value:=K.reverse.flatMap fun p=>[pcA dv p,zI (pcI p)]
def qhd(H:List (Nat×Nat×Int)):List Value:=H.flatMap fun h=>[zI (h.1:Nat),zI (h.2.1:Nat),zI h.2.2]
theorem qjk(dv:Value)(p:Pc)(K:List Pc):qis dv (p::K)=qis dv K++[pcA dv p,zI (pcI p)]:=by simp[qis]
theorem qp8(dv:Value):∀K:List Pc,(qis dv K).length=K.length*2
 |[]=>rfl
 |p::K=>by rw[qjk,yJ,qp8 dv K];simp;omega
theorem qx1(H:List (Nat×Nat×Int))(h:Nat×Nat×Int):qhd (H++[h])=qhd H++[zI (h.1:Nat),zI (h.2.1:Nat),zI h.2.2]:=by simp[qhd]
theorem q8k(f h:Pc->Value):∀(L:List Pc) (i:Nat) (p:Pc),L[i]?=some p->(L.flatMap fun p=>[f p,h p])[i*2]?=some (f p)/\(L.flatMap fun p=>[f p,h p])[i*2+1]?=some (h p)
 |[],i,p,hp=>by cases hp
 |q::L,0,p,hp=>by
   obtain rfl:q=p:=by simpa using hp
   exact⟨rfl,rfl⟩
 |q::L,i+1,p,hp=>by
   have ih:=q8k f h L i p (by simpa using hp);have e:(List.flatMap (fun p=>[f p,h p]) (q::L))=f q::h q::L.flatMap fun p=>[f p,h p]:=rfl;rw[e,show(i+1)*2=i*2+2 by omega,show i*2+2+1=(i*2+1)+2 by omega];exact ih
structure WrV(w:World)(B g:Nat)(vv dv:Value)(e:Ev)(K:List Pc)(o:Wt)(sv hv p v:Value):Prop where
 wb:WbAt w B g vv (zI e.depth) (zI e.room) sv (zI o.steps) hv o.out p v
 st:w.ownsRow B 147 2 sv K.length (qis dv K)
 ho:w.ownsRow B 55 3 hv o.holes.length (qhd o.holes)
def WrAt(w:World)(B g:Nat)(vv dv:Value)(e:Ev)(K:List Pc)(o:Wt):Prop:=∃sv hv p v,WrV w B g vv dv e K o sv hv p v
def Ow(g:Nat)(w:World)(k:Nat):Prop:=k=g\/(∃sv,w.cell? (zO g 3)=some sv/\sv.ownBlock=some k)\/(∃y,w.cell? (zO g 7)=some y/\y.ownBlock=some k)
structure Rn(B g:Nat)(w w':World):Prop where
 below:Below B w w'
 kept:∀k o,w.heap[k]?=some o->¬Ow g w k->(∀c fz,o≠.cells c 5 fz)->w'.heap[k]?=some o
 fresh:∀k,Ow g w' k->Ow g w k\/w.heap.size<=k
theorem Rn.refl(B g:Nat)(w:World):Rn B g w w:=⟨xL _ _,fun _ _ h _ _=>h,fun _ h=>.inl h⟩
theorem Rn.trans{a b c:World}(h:Rn B g a b)(k:Rn B g b c):Rn B g a c:=by
 refine⟨h.below.trans k.below,fun i ob y z D=>?_,fun i y=>?_⟩
 ·refine k.kept i ob (h.kept i ob y z D) (fun I=>?_) D
  rcases h.fresh i I with J|J
  ·exact z J
  ·have:=(ya.1 y).1
   omega
 ·rcases k.fresh i y with J | J
  ·exact h.fresh i J
  ·exact .inr (yh h.below.size J)
theorem qjv(h:w'.heap[g]?=w.heap[g]?)(k:Nat):Ow g w' k↔Ow g w k:=by
 unfold Ow;rw[xP (a:=zO g 3) h,xP (a:=zO g 7) h]
theorem Rn.of_below(h:zW w w')(y:B<=w.heap.size)(z:g<w.heap.size):Rn B g w w':=
 ⟨h.mono y,fun k _ D _ _=>(h.block k (ya.1 D).1).trans D,fun k D=>.inl ((qjv (h.block g z) k).1 D)⟩
theorem Rn.of_wb{a0 a1 a2 a3 a4 a4' a7:Value}{l l':zU}(h:WbAt w B g a0 a1 a2 a3 a4 a7 l p v)(z:WbAt w' B g a0 a1 a2 a3 a4' a7 l' p' v')(D:Below B w w')(I:OthersKept 5 (some g) w w'):Rn B g w w':=by
 refine⟨D,fun k ob y J O=>I k ob y (fun e=>J (.inl (yk e))) O,fun k y=>.inl ?_⟩;have c:=h.all;have c':=z.all;rcases y with rfl|⟨sv,T,U⟩|⟨V,T,U⟩
 ·exact .inl rfl
 ·rw[c'.2.2.2.1]at T
  exact .inr (.inl ⟨sv,c.2.2.2.1.trans T,U⟩)
 ·rw[c'.2.2.2.2.2.1]at T
  exact .inr (.inr ⟨V,c.2.2.2.2.2.1.trans T,U⟩)
theorem quq{n k:Nat}{T:TypeId}{x:Value}{xs:List Value}(h:w.ownsRow B T k x n xs)(z:T≠5){cs:Array Value}{U:TypeId}{fz:Nat×Nat}(D:w.heap[g]?=some (.cells cs U fz))(y:T≠U)(I:OthersKept 5 (some g) w w'):w'.ownsRow B T k x n xs:=by
 refine qab h fun b J=>?_;obtain⟨cur,O⟩:=qac h b J;rw[O];refine I b _ O (fun e=>?_) (fun c fz' e=>?_)
 ·obtain rfl:=yk e
  rw[D]at O;injection O with O;injection O with _ V _;exact y V.symm
 ·injection e with _ V _
  exact z V
theorem WrV.turn{o':Wt}{y:Value}(h:WrV w B g vv dv e K o sv y p v)
  (z:WbAt w' B g vv (zI e.depth) (zI e.room) sv (zI o'.steps) y o'.out p' v') (D:OthersKept 5 (some g) w w') (I:o'.holes=o.holes):WrV w' B g vv dv e K o' sv y p' v':=by
 refine⟨z,quq h.st (by decide) h.wb.blk (by decide) D,?_⟩;rw[I];exact quq h.ho (by decide) h.wb.blk (by decide) D
theorem WrV.below(h:WrV w B g vv dv e K o sv z p v)(D:zW w w'):WrV w' B g vv dv e K o sv z p v:=by
 have I:=(zL h.wb.blk);refine⟨⟨h.wb.le,(D.block g I).trans h.wb.blk,?_,h.wb.adr,h.wb.nil⟩,qab h.st fun b y=>?_,qab h.ho fun b y=>?_⟩
 ·exact h.wb.own.kept (row:=none) ⟨D.os,D.tape,D.output,D.size,fun k J _=>D.block k J⟩ (by cases v.ownBlock with|none=>exact .inl rfl|some k=>exact .inr (by simp))
 ·obtain⟨cur,O⟩:=qac h.st b y
  exact D.block b (ya.1 O).1
 ·obtain⟨cur,O⟩:=qac h.ho b y
  exact D.block b (ya.1 O).1
theorem WrAt.below(h:WrAt w B g vv dv e K o)(y:zW w w'):WrAt w' B g vv dv e K o:=by
 obtain⟨sv,z,p,v,h⟩:=h;exact⟨sv,z,p,v,h.below y⟩
theorem WrAt.lt(h:WrAt w B g vv dv e K o):B<=g/\g<w.heap.size:=by
 obtain⟨sv,y,p,v,h⟩:=h;exact⟨h.wb.le,(zL h.wb.blk)⟩
theorem WrV.stk(h:WrV w B g vv dv e K o sv z p v):qzm w dv sv K:=by
 rcases h.st.2 with⟨D,I⟩|⟨b,cap,cur,D,I,J,O,T,U,V⟩
 ·have hK:K=[]:=yC I
  exact⟨none,0,by rw[D,hK];rfl,by rw[hK];exact yH _,fun y=>absurd hK y⟩
 ·refine⟨_,cap,D,by omega,fun _=>⟨b,rfl,(ya.1 J).1,fun i q X=>?_⟩⟩
  have Y:=q8k (pcA dv) (fun p=>zI (pcI p)) K.reverse i q X;have Z:∀(j:Nat) (x:Value),(qis dv K)[j]?=some x->w.cell? (zO b j)=some x:=fun j x Y=>by
   have h8:=h.st.cells (g:=b) (by rw[D];rfl) j x Y
   rwa [show((zO b 0):Addr).add j=(zO b j) by simp only[Addr.add,xf];split<;>simp_all]at h8
  exact⟨Z _ _ Y.1,Z _ _ Y.2⟩
theorem WrAt.own_lt(h:WrAt w B g vv dv e K o){k:Nat}(z:Ow g w k):k<w.heap.size:=by
 obtain⟨sv,D,p,bv,I⟩:=h;have y:=I.wb.all;rcases z with rfl|⟨s2,J,O⟩|⟨s2,J,O⟩
 ·exact(zL I.wb.blk)
 ·rw[y.2.2.2.1]at J
  obtain rfl:=yk J;obtain⟨cur,T⟩:=qac I.st _ O;exact(ya.1 T).1
 ·rw[y.2.2.2.2.2.1]at J
  obtain rfl:=yk J;obtain⟨cur,T⟩:=qac I.ho _ O;exact(ya.1 T).1
theorem WrAt.keepsOthers(h:WrAt w B g vv dv e K o)(z:Rn B g w w'):KeepsOthers w w':=by
 obtain⟨sv,D,p,v,h⟩:=h;refine⟨z.below.size,fun k ob I J=>z.kept k ob I (fun O=>?_) (fun c fz e=>?_)⟩
 ·have c:=h.wb.all
  rcases O with rfl|⟨sv',T,U⟩|⟨y,T,U⟩
  ·rw[h.wb.blk]at I;cases I;cases J
  ·rw[c.2.2.2.1]at T
   obtain rfl:=yk T;obtain⟨cur,V⟩:=qac h.st k U;rw[V]at I;cases I;cases J
  ·rw[c.2.2.2.2.2.1]at T
   obtain rfl:=yk T;obtain⟨cur,V⟩:=qac h.ho k U;rw[V]at I;cases I;cases J
 ·subst e;cases J
end
namespace Pl
open Go.Lib
variable{e:Ev}{M:Nat}{o:Wt}
def Ev.Small(e:Ev)(M:Nat):Prop:=(∀v p,p∈e.parts v->p.text.length<=M)/\∀azs p,(qgn azs (qc7 (qbe e.D p))).length<=M
structure Fin(e:Ev)(M:Nat)(o:Wt):Prop where
 steps:o.steps<=5000
 out:o.out.length<=o.steps*M
 holes:o.holes.length<=o.steps
 room:e.room<0\/(o.out.length:Int)<=e.room
structure FinS(e:Ev)(M:Nat)(o:Wt):Prop where
 steps:o.steps<=5000
 out:o.out.length+M<=o.steps*M
 holes:o.holes.length+1<=o.steps
 room:e.room<0\/(o.out.length:Int)<=e.room
theorem FinS.fin(h:FinS e M o):Fin e M o:=⟨h.steps,by have:=h.out;omega,by have:=h.holes;omega,h.room⟩
theorem Fin.step(h:Fin e M o)(y:o.steps≠5000):FinS e M { o with steps:=o.steps+1 }:=
 ⟨by show o.steps+1<=5000;have:=h.steps;omega,by show o.out.length+M<=(o.steps+1)*M;rw[Nat.add_mul];have:=h.out;omega,by show o.holes.length+1<=o.steps+1;have:=h.holes;omega,h.room⟩
theorem zbw(h:e.room<0\/(o.out.length:Int)<=e.room)(t:zU):e.room<0\/((e.put o t).1.out.length:Int)<=e.room:=by
 unfold Ev.put;rcases h with y|y
 ·exact .inl y
 ·by_cases z:e.room<0
  ·exact .inl z
  ·right
   split
   ·simp only[yJ,yP];omega
   ·simp only[yJ];omega
theorem zfd(e:Ev)(o:Wt)(t:zU):(e.put o t).1.out.length<=o.out.length+t.length:=by
 unfold Ev.put;split
 ·simp only[yJ,yP];omega
 ·simp only[yJ];omega
theorem qjr(e:Ev)(o:Wt)(t:zU):(e.put o t).1.holes=o.holes:=by unfold Ev.put;split<;>rfl
theorem FinS.put(h:FinS e M o){t:zU}(y:t.length<=M):Fin e M (e.put o t).1:=by
 refine⟨by rw[qfp];exact h.steps,?_,by rw[qfp,qjr];have:=h.holes;omega,zbw h.room t⟩;rw[qfp];have:=zfd e o t;have:=h.out;omega
theorem FinS.hole(h:FinS e M o)(y:e.Small M)(K:List Pc)(name:zU)(azs:Int):Fin e M (e.hole K o name azs).1:=by
 unfold Ev.hole;split
 ·exact h.fin
 ·have z:=h.put (y.2 azs (qe3 e.D K name))
  refine⟨z.steps,z.out,?_,z.room⟩;show(o.holes++[_]).length<=_;rw[qfp];simp only[yJ,yK,yQ];exact h.holes
theorem qkl{go:Wt->Wt×Int}(h:Fin e M o)(y:FinS e M { o with steps:=o.steps+1 }->Fin e M (go { o with steps:=o.steps+1 }).1):Fin e M (qdo go o).1:=by
 unfold qdo;split
 ·exact h
 ·exact y (h.step (by assumption))
theorem qtk{e:Ev}{M:Nat}{body:List Pc->Wt->Wt×Int}(y:∀K o,Fin e M o->Fin e M (body K o).1)(K:List Pc):∀(l:List Pc) (o:Wt),Fin e M o->Fin e M (qc9 body K l o).1
 |[],o,h=>h
 |p::l,o,h=>by
   unfold qc9;split
   ·exact y _ _ h
   ·exact qtk y K l _ (y _ _ h)
theorem qqb{body:List Pc->Wt->Wt×Int}(y:∀K o,Fin e M o->Fin e M (body K o).1)(K:List Pc)(kind:Nat)(name:zU)(o:Wt)(h:Fin e M o):Fin e M (e.section body K kind name o).1:=by
 unfold Ev.section;split
 ·exact h
 ·split
  ·exact y K o h
  ·exact qtk y K _ o h
theorem qup(z:e.Small M):∀(f v at' tz:Nat) (qad:Int) (K:List Pc) (o:Wt),Fin e M o->Fin e M (e.run f v at' tz qad K o).1:=by
 intro f
 induction f with
 |zero=>intro v at' tz qad K o h;exact h
 |succ f IH=>
   intro v at' tz qad K o h;unfold Ev.run;split
   ·exact h
   ·refine qkl h (fun h=>?_)
    generalize ({ o with steps:=o.steps+1 }:Wt)=o at h;have y:∀(r:Wt×Int) (next:Nat),Fin e M r.1->Fin e M (if r.2≠0 then r else e.run f v next tz qad K r.1).1:=by
     intro r next D
     split
     ·exact D
     ·exact IH v next tz qad K r.1 D
    split
    ·exact h.fin
    ·rename_i p I
     dsimp only;split
     ·exact y _ _ (h.put (z.1 v p (yl I)))
     split
     ·exact y _ _ (h.hole z _ _ _)
     split
     ·exact y _ _ (qqb (fun K o h=>qkl h (fun h=>IH _ _ _ _ _ _ h.fin)) K _ _ o h.fin)
     split
     ·refine y _ _ ?_
      split
      ·exact h.fin
      ·split
       ·exact h.fin
       ·exact IH _ _ _ _ _ _ h.fin
     ·exact y (o,0) _ h.fin
structure Ev.Ok(e:Ev):Prop where
 src:∀(v:Nat) x,e.vis[v]?=some x->∃s,e.S[x.1]?=some s/\x.2.length=s.parts.length
 mate:∀(v i:Nat) p,(e.parts v)[i]?=some p->p.kind=3\/p.kind=4->i<p.mate/\p.mate<(e.parts v).length
 mark:∀(v i:Nat) p,(e.parts v)[i]?=some p->p.kind=6->0<=(e.marks v).getD i 0/\(e.marks v).getD i 0<(e.vis.length:Nat)
 small:e.vis.length<=100000/\∀v,(e.parts v).length<=100000
theorem Ev.Ok.len(h:e.Ok)(v:Nat):(e.marks v).length=(e.parts v).length:=by
 unfold Ev.marks Ev.parts;cases y:e.vis[v]? with
 |none=>rfl
 |some x=>
   obtain⟨s,z,D⟩:=h.src v x y;simp only[z];exact D
end Pl
section
open Go.Shelf
variable{w:World}{pb B:Nat}
attribute [local go_sem] Oper.semAt_some
def PbAt(w:World)(pb:Nat)(ao:Option Addr)(n cap k:Nat):Prop:=w.heap[pb]?=zK #[.slice ao n cap,zI k] 147
theorem PbAt.facts{ao:Option Addr}{n cap k:Nat}(h:PbAt w pb ao n cap k):w.cell? (zO pb 0)=some (.slice ao n cap)/\w.cell? (zO pb 1)=some (zI k):=by
 have c:=qaa (show w.heap[pb]?=_ from h);exact⟨c 0 _ rfl,c 1 _ rfl⟩
def Kp(B pb:Nat)(w w':World):Prop:=Below B w w'/\w'.heap[pb]?=w.heap[pb]?
theorem Kp.refl(B pb:Nat)(w:World):Kp B pb w w:=⟨xL _ _,rfl⟩
theorem Kp.trans{a b c:World}(h:Kp B pb a b)(k:Kp B pb b c):Kp B pb a c:=⟨h.1.trans k.1,k.2.trans h.2⟩
theorem Kp.of_below{w':World}(h:zW w w')(y:B<=w.heap.size)(z:pb<w.heap.size):Kp B pb w w':=⟨h.mono y,h.block _ z⟩
theorem q69(ao:Option Addr)(n cap k:Nat)(w:World) :
  zC 179 #[.agg #[.slice ao n cap,zI k]] w fun e w'=>e=.returned (.func (.func 218) #[] #[zP w.heap.size])/\w'=w.alloc (.cells #[.slice ao n cap,zI k] 147):=by
 have y:∀(fn:Fn) (first cap:Array Value) (w:World),(Instr.makeFunc fn first cap).run prog w=.ok (.func fn first cap) w:=fun _ _ _ _=>rfl;go_enter func179,ntmps179
 go_wp2
 go_ret
 exact⟨rfl,rfl⟩
structure TdAt(B:Nat)(w W:World)(g pb:Nat)(ao:Option Addr)(n cap k:Nat)(kind:Int)(ia:Option Addr)(icap:Nat)(items:List Int):Prop where
 kp:zW w W
 box:W.cell? (zO pb 0)=some (.slice ao n cap)/\W.cell? (zO pb 1)=some (zI k)
 c0:W.cell? (zO g 0)=some (zI kind)
 c3:W.cell? (zO g 3)=some (.slice ia items.length icap)
 it:∀j x,items[j]?=some x->∃b o,ia=some (zO b o)/\b<B/\W.cell? (zO b (o+j))=some (zI x)
 len:items.length<=maxLen
theorem qn9(dv:Value)(D:List Dt)(p:Pc)(ao:Option Addr)(n cap:Nat)(z:qe0 dv p=.agg #[.slice ao n cap,zI (pcI p)])(B pb:Nat)(w:World)(J:B<=w.heap.size)(O:DsAt B w dv D)(T:PbAt w pb ao n cap (pcI p)) :
  zC 215 #[.agg #[.slice ao n cap,zI (pcI p)]] w fun e w'=>∃ia icap na ncap,e=.returned (.agg #[zI (qbe D p).kind,zI (qbe D p).n,bs (qbe D p).s,.slice ia (qbe D p).items.length icap,.slice na (qbe D p).names.length ncap]) /\
   TdAt B w (w'.alloc (.cells #[zI (qbe D p).kind,zI (qbe D p).n,bs (qbe D p).s,.slice ia (qbe D p).items.length icap,.slice na (qbe D p).names.length ncap] 67)) w'.heap.size pb ao n cap (pcI p) (qbe D p).kind ia icap (qbe D p).items:=by
 have h:=qm3 dv D p B w J O;rw[z]at h;refine h.mono ?_;rintro e w' ⟨⟨v,rfl,U⟩,V⟩;obtain⟨ia,icap,na,ncap,rfl,X,Y⟩:=qhi U;have y:=V.alloc V.size (.cells #[zI (qbe D p).kind,zI (qbe D p).n,bs (qbe D p).s,.slice ia (qbe D p).items.length icap,.slice na (qbe D p).names.length ncap] 67);have Z:=qaa (xF w' (.cells #[zI (qbe D p).kind,zI (qbe D p).n,bs (qbe D p).s,.slice ia (qbe D p).items.length icap,.slice na (qbe D p).names.length ncap] 67));have I:pb<w.heap.size:=(ya.1 (show w.heap[pb]?=_ from T)).1;refine⟨ia,icap,na,ncap,rfl,y,PbAt.facts ((y.block _ I).trans T),Z 0 _ rfl,Z 3 _ rfl,fun j x hj=>?_,by obtain⟨_,_,_,hl,_⟩:=X;simpa using hl⟩;obtain⟨ao',cap',he,_,hx⟩:=X;obtain⟨b,o,h1,h2,h3⟩:=hx (fun e=>by have:=List.map_eq_nil_iff.1 e;rw[this]at hj;cases hj);simp only[Value.slice.injEq]at he;exact⟨b,o,he.1.trans h1,h2,(y.cell (p:=zO b (o+j)) (by show b<_;omega)).trans (h3 j _ (by rw[yz,hj];rfl))⟩
theorem q68(D:List Dt)(p:Pc)(h:(qbe D p).kind≠4):qnb D p=[p]:=by
 cases p with
 |none=>rfl
 |some k=>show(if _ then _ else _)=_;rw[if_pos h]
theorem q37(D:List Dt)(p:Pc)(h:(qbe D p).kind=4):qnb D p=(qbe D p).items.map (qd2 (pcI p)):=by
 cases p with
 |none=>exact absurd (show(0:Int)=4 from h) (by decide)
 |some k=>show(if _ then _ else _)=_;rw[if_neg (by simp[h])];rfl
theorem qkg{β:Type}{J:β->World->Prop}(h:AbidesFrom B J){s:β}{w w':World}(y:J s w)(z:zW w w'):J s w':=
 h s w w' none y ⟨z.os,z.tape,z.output,z.size,fun k D _=>z.block k D⟩ (fun r e=>by cases e)
theorem q38(dv:Value)(D:List Dt)(p:Pc)(ao:Option Addr)(m cap:Nat)(y:qe0 dv p=.agg #[.slice ao m cap,zI (pcI p)])(B l pb n:Nat)(V:1<=n)(J Jx:List Pc->World->Prop)(w:World)(X:B<=w.heap.size)(Y:DsAt B w dv D)(Z:PbAt w pb ao m cap (pcI p))(hJ:AbidesFrom w.heap.size J)
  (hk:(qbe D p).kind≠4)
  (hY:∀pre x W,J pre W->pre.length<(qnb D p).length->YieldAt Fence.wide (n - 1) prog l #[qe0 dv x] W fun e W'=>(e=.returned (.bool true)/\J (pre++[x]) W'/\Kp B pb W W')\/(e=.returned (.bool false)/\Jx (pre++[x]) W')) (h0:J [] w) :
  CallsIn Fence.wide n prog 218 #[.func (.yield l) #[] #[],zP pb] w fun e W'=>(∃v,e=.returned v)/\((∃ys,ys=qnb D p/\J ys W')\/(∃pre,pre <+: qnb D p/\Jx pre W')):=by
 rw[q68 D p hk]at hY |-
 have HD:Hid (zC 215 #[.agg #[.slice ao m cap,zI (pcI p)]] w fun e w'=>∃dk dn ds ia il icap na nl ncap,e=.returned (.agg #[zI dk,zI dn,.string ds,.slice ia il icap,.slice na nl ncap])/\dk≠4 /\
   (∀g,g=w'.heap.size->(w'.alloc (.cells #[zI dk,zI dn,.string ds,.slice ia il icap,.slice na nl ncap] 67)).cell? (zO g 0)=some (zI dk)) /\
   (w'.alloc (.cells #[zI dk,zI dn,.string ds,.slice ia il icap,.slice na nl ncap] 67)).cell? (zO pb 0)=some (.slice ao m cap)/\(w'.alloc (.cells #[zI dk,zI dn,.string ds,.slice ia il icap,.slice na nl ncap] 67)).cell? (zO pb 1)=some (zI (pcI p)) /\
   YieldAt Fence.wide (n - 1) prog l #[.agg #[.slice ao m cap,zI (pcI p)]] (w'.alloc (.cells #[zI dk,zI dn,.string ds,.slice ia il icap,.slice na nl ncap] 67)) fun e W'=>(e=.returned (.bool true)/\J [p] W')\/(e=.returned (.bool false)/\Jx [p] W')):=by
  refine(qn9 dv D p ao m cap y B pb w X Y Z).mono ?_;rintro e w' ⟨ia,icap,na,ncap,rfl,hT⟩;refine⟨_,_,_,_,_,_,_,_,_,rfl,hk,fun g hg=>by subst hg;exact hT.c0,hT.box.1,hT.box.2,?_⟩;have:=hY [] p _ (qkg hJ h0 hT.kp) (by simp);rw[y]at this;refine this.mono ?_;rintro e W' (⟨h1,h2,_⟩|h)
  ·exact .inl ⟨h1,h2⟩
  ·exact .inr h
 obtain⟨b0,b1⟩:=Z.facts;generalize pcI p=pk at HD b1;clear hY h0 hk Z Y hJ y;refine callsIn_of_wp func218 rfl trivial ?_ rfl;simp only[ntmps218,List.size_toArray,yK,yQ,Nat.reduceAdd,Nat.reduceSub,Array.replicate_succ,Array.replicate_zero,List.push_toArray,List.append_toArray,xC,xB]
 gi_wp2_with (refine⟨trivial,?_⟩;gi_at_call 215;refine CallsIn.mono (callsIn_wide.2 HD.out) ?_;rintro e w' ⟨dk,dn,ds,ia,il,icap,na,nl,ncap,rfl,hk,I,T,U,fn,tmps,assign,body,hy,hR⟩;have I:=I _ rfl)
 refine hR.mono ?_;rintro e W3 (⟨rfl,O⟩|⟨rfl,z⟩)
 ·gi_wp2
  refine bodyPost_ret (results_none rfl _ _ _) rfl ?_;exact⟨⟨_,rfl⟩,.inl ⟨_,rfl,O⟩⟩
 ·gi_wp2
  refine bodyPost_ret (results_none rfl _ _ _) rfl ?_;exact⟨⟨_,rfl⟩,.inr ⟨_,yA _,z⟩⟩
theorem qz0(dv:Value)(D:List Dt)(p:Pc)(ao:Option Addr)(m cap:Nat)(O:qe0 dv p=.agg #[.slice ao m cap,zI (pcI p)])(Z:dv=.slice ao m cap)(B l pb n:Nat)(hn:1<=n)(J Jx:List Pc->World->Prop)(w:World)(hB:B<=w.heap.size)(hD:DsAt B w dv D)(hP:PbAt w pb ao m cap (pcI p))(hJ:AbidesFrom w.heap.size J)
  (hk:(qbe D p).kind=4)
  (hY:∀pre x W,J pre W->pre.length<(qnb D p).length->YieldAt Fence.wide (n - 1) prog l #[qe0 dv x] W fun e W'=>(e=.returned (.bool true)/\J (pre++[x]) W'/\Kp B pb W W')\/(e=.returned (.bool false)/\Jx (pre++[x]) W')) (h0:J [] w) :
  CallsIn Fence.wide n prog 218 #[.func (.yield l) #[] #[],zP pb] w fun e W'=>(∃v,e=.returned v)/\((∃ys,ys=qnb D p/\J ys W')\/(∃pre,pre <+: qnb D p/\Jx pre W')):=by
 rw[q37 D p hk]at hY |-;have ha:pb<w.heap.size:=(ya.1 (show w.heap[pb]?=_ from hP)).1
 have HD:Hid (zC 215 #[.agg #[.slice ao m cap,zI (pcI p)]] w fun e w'=>∃dn ds ia icap na nl ncap,e=.returned (.agg #[zI 4,zI dn,.string ds,.slice ia (qbe D p).items.length icap,.slice na nl ncap]) /\
   TdAt B w (w'.alloc (.cells #[zI 4,zI dn,.string ds,.slice ia (qbe D p).items.length icap,.slice na nl ncap] 67)) w'.heap.size pb ao m cap (pcI p) 4 ia icap (qbe D p).items):=by
  refine(qn9 dv D p ao m cap O B pb w hB hD hP).mono ?_;rintro e w' ⟨ia,icap,na,ncap,rfl,hT⟩;rw[hk]at hT |-;exact⟨_,_,_,_,_,_,_,rfl,hT⟩
 obtain⟨b0,b1⟩:=hP.facts;generalize (qbe D p).items=items at HD hY |-;generalize pcI p=pk at HD b1 hP hY |-;clear hk hD O;refine callsIn_of_wp func218 rfl trivial ?_ rfl;simp only[ntmps218,List.size_toArray,yK,yQ,Nat.reduceAdd,Nat.reduceSub,Array.replicate_succ,Array.replicate_zero,List.push_toArray,List.append_toArray,xC,xB]
 gi_wp2_with (refine⟨trivial,?_⟩;gi_at_call 215;refine CallsIn.mono (callsIn_wide.2 HD.out) ?_;rintro e w' ⟨dn,ds,ia,icap,na,nl,ncap,rfl,hT⟩;have HT:=zH hT;have Ha:=hT.c0;have Hb:=hT.c3;clear hT)
 generalize w'.alloc _=W at HT Ha Hb |-;have hc:PbAt W pb ao m cap pk:=(HT.out.kp.block _ ha).trans hP;have Hc:=qkg hJ h0 HT.out.kp;have hit:∀j x,items[j]?=some x->∃b o,ia=some (zO b o)/\b<B/\W.cell? (zO b (o+j))=some (zI x):=HT.out.it;have he:B<=W.heap.size:=yh hB HT.out.kp.size;have He:(items.length:Int)<=9223372036854775807:=by have:=HT.out.len;unfold maxLen at this;omega
 gi_loopw [17] (fun i wr=>∃j:Nat,i=zI j/\j<=items.length/\Hid (Kp B pb W wr)/\Hid (J ((items.take j).map (qd2 pk)) wr)) (fun i _=>items.length - (intOf i).toNat)
 case atStart=>exact⟨0,rfl,yH _,Kp.refl _ _ _,Hc⟩
 case round=>
  obtain⟨j,rfl,hj,HK,T⟩:=hrel;by_cases hf:(j:Int)<(items.length:Int)
  ·have Hf:j<items.length:=by omega
   obtain⟨x,hx⟩:∃x,items[j]?=some x:=⟨_,yc Hf⟩;obtain⟨b,o,rfl,hb,U⟩:=hit j x hx;have hg:=(HK.out.1.cell (p:=zO b (o+j)) hb).trans U;have V:PbAt wr pb ao m cap pk:=HK.out.2.trans hc;obtain⟨e0,e1⟩:=V.facts;have z:pb<wr.heap.size:=(ya.1 (show wr.heap[pb]?=_ from V)).1;have X:(items.take (j+1)).map (qd2 pk)=(items.take j).map (qd2 pk)++[qd2 pk x]:=by
    rw[List.take_add_one,hx];simp
   have y:(items.take (j+1)).map (qd2 pk) <+: items.map (qd2 pk):=by
    rw[List.map_take];exact List.take_prefix _ _
   have HI:Hid (zC 219 #[.agg #[.slice ao m cap,zI pk],zI x] wr fun e w'=>∃qa qn qcap q,e=.returned (.agg #[.slice qa qn qcap,zI (q:Nat)]) /\
     YieldAt Fence.wide (n - 1) prog l #[.agg #[.slice qa qn qcap,zI q]] w' fun e W'=>(e=.returned (.bool true)/\J ((items.take (j+1)).map (qd2 pk)) W'/\Kp B pb W W')\/(e=.returned (.bool false)/\Jx ((items.take (j+1)).map (qd2 pk)) W')):=by
    refine(q27 ao m cap pk x wr).mono ?_;rintro e w' ⟨rfl,Y⟩;have Hg:=qkg hJ T.out Y;have h2:=hY _ (qd2 pk x) w' Hg (by simp;omega);rw[<-X,Z]at h2;have hi:Kp B pb W w':=HK.out.trans (Kp.of_below Y (yh he HK.out.1.size) z);have h3:∃qa qn qcap q,qe0 (.slice ao m cap) (qd2 pk x)=.agg #[.slice qa qn qcap,zI (q:Nat)]:=by
     cases qd2 pk x with
     |none=>exact⟨none,0,0,0,rfl⟩
     |some q=>exact⟨ao,m,cap,q,rfl⟩
    obtain⟨qa,qn,qcap,q,hq⟩:=h3;rw[hq]at h2 |-;refine⟨qa,qn,qcap,q,rfl,h2.mono ?_⟩;rintro e W' (⟨h4,h5,h6⟩|h4)
    ·exact .inl ⟨h4,h5,hi.trans h6⟩
    ·exact .inr h4
   have HP:=zH y;clear X y U hx
   gi_wp2_with (refine⟨trivial,?_⟩;gi_at_call 219;refine CallsIn.mono (callsIn_wide.2 HI.out) ?_;rintro e w' ⟨qa,qn,qcap,q,rfl,fn,tmps,assign,body,hy,hR⟩)
   refine hR.mono ?_;rintro e W3 (⟨rfl,Hi,Hj⟩|⟨rfl,I⟩)
   ·gi_wp2
    go_roundw
    case rel=>exact⟨j+1,by go_num,by omega,Hj,Hi⟩
    case measure=>simp[intOf];omega
   ·gi_wp2
    refine bodyPost_ret (results_none rfl _ _ _) rfl ?_;exact⟨⟨_,rfl⟩,.inr ⟨_,HP.out,I⟩⟩
  ·obtain rfl:j=items.length:=by omega
   gi_wp2
   go_end0
   refine⟨⟨_,rfl⟩,.inl ?_⟩;have h9:=T.out;rw[List.take_length]at h9
   first|exact h9|exact⟨_,rfl,h9⟩
theorem qzz(dv:Value)(D:List Dt)(p:Pc)(ao:Option Addr)(m cap:Nat)(T:pcA dv p=.slice ao m cap)(B pb n:Nat)(U:1<=n)(w:World)(V:B<=w.heap.size)(X:DsAt B w dv D)(Y:PbAt w pb ao m cap (pcI p)) :
  SeqStopsK Fence.wide n prog 218 #[zP pb] (fun x:Pc=>#[qe0 dv x]) (Kp B pb) (fun ys=>ys=qnb D p) (fun pre=>pre <+: qnb D p) (qnb D p).length w:=by
 intro l J Jx W Z hJ _ hY h0;have I:pb<w.heap.size:=(ya.1 (show w.heap[pb]?=_ from Y)).1;have y:qe0 dv p=.agg #[.slice ao m cap,zI (pcI p)]:=by rw[qdk,T]
 have z:PbAt W pb ao m cap (pcI p):=(Z.block _ I).trans Y;by_cases hk:(qbe D p).kind=4
 ·have O:dv=.slice ao m cap:=by
   cases p with
   |none=>exact absurd (show(0:Int)=4 from hk) (by decide)
   |some k=>exact T
  exact qz0 dv D p ao m cap y O B l pb n U J Jx W (yh V Z.size) (X.below (Z.mono V)) z hJ hk hY h0
 ·exact q38 dv D p ao m cap y B l pb n U J Jx W (yh V Z.size) (X.below (Z.mono V)) z hJ hk hY h0
end
end Go.Proofs.YtfkhljmiehdgmaaGreatDoor
