/-
  Steps of the proof.
-/
import Derived.Test.YtfkhljmiehdgmaaGreatDoorCuAG
set_option maxRecDepth 100000
set_option maxHeartbeats 40000000
namespace Go.Proofs.YtfkhljmiehdgmaaGreatDoor
open Go.RowKit Go.Proofs.Tryz Pl
variable{w w':World}{ao:Option Addr}{n cap k:Nat}
theorem quu{f:Func}{a:Act}{g:Nat}{p t:Tmp}{cs:Array Value}{x:Value}{R:Ending->World->Prop}(hf:f.results=#[.cell p 147,.tmp t])(hp:a.tmps.getD p undef=zP g)(hx:a.tmps.getD t undef=x)(hd:a.defers=[])(hw:w.heap[g]?=zK cs 147)(hs:cs.size=2)(hR:R (.returned (.tuple #[.agg cs,x])) w) :
  bodyPost prog f R .ret a w:=by
 subst hx;refine bodyPost_ret ?_ hd hR;have hl:=qbb (P:=prog) w g 147 cs _ (qaa hw) underlying147 rfl (by rw[hs];kernel_rfl);rw[yZ]at hp;simp only[results,hf];simp[hp,asAddr,hl]
def qtf(dv:Value)(r:Option Pc):Value:=.tuple #[qe0 dv (r.getD none),.bool r.isSome]
def fw(w:World)(ao:Option Addr)(n cap k:Nat):World:=(w.alloc (.cells #[.slice ao n cap,zI k] 147)).alloc (.cells #[zN,zI 0] 147)
structure FwAt(w w':World)(ao:Option Addr)(n cap k:Nat):Prop where
 own:w'.heap[w.heap.size]?=zK #[.slice ao n cap,zI k] 147
 res:w'.heap[w.heap.size+1]?=zK #[zN,zI 0] 147
 below:zW w w'
 size:w.heap.size+2<=w'.heap.size
theorem qi3(w:World)(ao:Option Addr)(n cap k:Nat):FwAt w (fw w ao n cap k) ao n cap k:=by
 unfold fw;refine⟨?_,q0t w _ _,qkn w _ _,by rw[qcf,qcf];omega⟩;rw[xJ _ _ (by rw[qcf];omega)];exact xG w _
theorem FwAt.below'{w1:World}(h:FwAt w w1 ao n cap k){B:Nat}(hB:w.heap.size+2<=B)(hb:Below B w1 w'):FwAt w w' ao n cap k:=
 ⟨(hb.block _ (by omega)).trans h.own,(hb.block _ (by omega)).trans h.res,h.below.trans (hb.mono (by omega)),yh h.size hb.size⟩
theorem FwAt.drew(h:FwAt w w' ao n cap k):FwAt w w'.drew ao n cap k:=⟨h.own,h.res,h.below.drew,h.size⟩
theorem FwAt.facts(h:FwAt w w' ao n cap k):(w'.cell? (zO w.heap.size 0)=some (.slice ao n cap)/\w'.cell? (zO w.heap.size 1)=some (zI k)/\w'.cell? (zO (w.heap.size+1) 0)=some (zN)/\w'.cell? (zO (w.heap.size+1) 1)=some (zI 0))/\w'.frozen? (zO (w.heap.size+1) 0)=false/\w'.frozen? (zO (w.heap.size+1) 1)=false:=by
 have c:=qaa h.own;have d:=qaa h.res;refine⟨⟨c 0 _ rfl,c 1 _ rfl,d 0 _ rfl,d 1 _ rfl⟩,?_⟩;simp[World.frozen?,h.res]
theorem q9s(ao:Option Addr)(n cap k:Nat)(dv:Value)(name:zT)(d:Dt)(w:World)(hk:d.kind≠5)
  (hD:zC 215 #[.agg #[.slice ao n cap,zI k]] (fw w ao n cap k) fun e w'=>(∃v,e=.returned v/\qm9 w.heap.size (fw w ao n cap k) d v)/\Below (fw w ao n cap k).heap.size (fw w ao n cap k) w') :
  zC 214 #[.agg #[.slice ao n cap,zI k],.string name] w (zR (qtf dv none) w):=by
 have HD:Hid (zC 215 #[.agg #[.slice ao n cap,zI k]] (fw w ao n cap k) fun e w'=>(∃ia icap na ncap,e=.returned (.agg #[zI d.kind,zI d.n,bs d.s,.slice ia d.items.length icap,.slice na d.names.length ncap]))/\FwAt w w' ao n cap k/\∀o,FwAt w (w'.alloc o) ao n cap k):=hD.mono (by
  rintro e w' ⟨⟨v,rfl,hv⟩,hb⟩;obtain⟨ia,icap,na,ncap,rfl,_,_⟩:=qhi hv;have hF:=(qi3 w ao n cap k).below' (qi3 w ao n cap k).size hb;exact⟨⟨ia,icap,na,ncap,rfl⟩,hF,fun o=>hF.below' hF.size (zB o)⟩)
 clear hD;unfold bs fw at HD;generalize d.kind=dk at HD hk;generalize d.n=dn at HD;generalize d.items.length=il at HD;generalize d.names.length=nl at HD;generalize (⟨d.s.toArray⟩:zT)=ds at HD;have Hb:(dk != 5)=true:=by rw[bne_iff_ne];exact hk
 go_enter func214,ntmps214
 go_wp2_with (go_at_call 215;refine xR HD.out ?_;rintro e w' ⟨⟨ia,icap,na,ncap,rfl⟩,hF,ha⟩;have Ha:=zH ha;have hc:=fun o=>(ha o).facts.1.2.2.1;have Hc:=fun o=>(ha o).facts.1.2.2.2;have he:=fun o=>(ha o).facts.2.1;have He:=fun o=>(ha o).facts.2.2;clear hF ha)
 exact quu (g:=w.heap.size+1) results214 rfl rfl rfl (xH _ _ _ _ _ _ (xH _ _ _ _ _ _ (Ha.out _).res)) rfl ⟨rfl,((Ha.out _).below.setCell (p:=zO (w.heap.size+1) 0) (Nat.le_succ _) _).setCell (p:=zO (w.heap.size+1) 1) (Nat.le_succ _) _⟩
structure FdAt(w W:World)(g:Nat)(ao:Option Addr)(n cap k:Nat)(ia:Option Addr)(icap:Nat)(na:Option Addr)(ncap:Nat)(items:List Int)(names:List zU):Prop where
 fw:FwAt w W ao n cap k
 c0:W.cell? (zO g 0)=some (zI 5)
 c3:W.cell? (zO g 3)=some (.slice ia items.length icap)
 c4:W.cell? (zO g 4)=some (.slice na names.length ncap)
 len:names.length<=maxLen
 it:∀j x,items[j]?=some x->∃b o,ia=some (zO b o)/\W.cell? (zO b (o+j))=some (zI x)
 nm:∀j x,names[j]?=some x->∃b o,na=some (zO b o)/\W.cell? (zO b (o+j))=some (bs x)
theorem q8q(name:zU):∀(ns:List zU) (is:List Int) (i:Nat) (a:zU) (x:Int),ns[i]?=some a->is[i]?=some x->qlc name (ns.drop i) (is.drop i)=if a=name then some x else qlc name (ns.drop (i+1)) (is.drop (i+1)):=by
 intro ns is i a x h1 h2;obtain⟨l1,e1⟩:=yb.1 h1;obtain⟨l2,e2⟩:=yb.1 h2;rw[yo l1,yo l2,e1,e2];rfl
theorem q5m(name:zU)(ns:List zU)(is:List Int)(i:Nat)(h:ns.length<=i\/is.length<=i):qlc name (ns.drop i) (is.drop i)=none:=by
 rcases h with h|h
 ·rw[List.drop_eq_nil_of_le h];cases is.drop i<;>rfl
 ·rw[List.drop_eq_nil_of_le h];cases ns.drop i<;>rfl
theorem zc1(ao:Option Addr)(n cap k:Nat)(name:zT)(d:Dt)(w:World)(hk:d.kind=5)
  (hD:zC 215 #[.agg #[.slice ao n cap,zI k]] (fw w ao n cap k) fun e w'=>(∃v,e=.returned v/\qm9 w.heap.size (fw w ao n cap k) d v)/\Below (fw w ao n cap k).heap.size (fw w ao n cap k) w') :
  zC 214 #[.agg #[.slice ao n cap,zI k],.string name] w (zR (qtf (.slice ao n cap) ((qlc name.data.toList d.names d.items).map (qd2 k))) w):=by
 have HD:Hid (zC 215 #[.agg #[.slice ao n cap,zI k]] (fw w ao n cap k) fun e w'=>(∃ia icap na ncap,e=.returned (.agg #[zI 5,zI d.n,bs d.s,.slice ia d.items.length icap,.slice na d.names.length ncap])/\FdAt w (w'.alloc (.cells #[zI 5,zI d.n,bs d.s,.slice ia d.items.length icap,.slice na d.names.length ncap] 67)) w'.heap.size ao n cap k ia icap na ncap d.items d.names)):=hD.mono (by
  rintro e w' ⟨⟨v,rfl,hv⟩,hb⟩;obtain⟨ia,icap,na,ncap,rfl,hI,hN⟩:=qhi hv;have hF:=(qi3 w ao n cap k).below' (qi3 w ao n cap k).size hb;rw[hk];refine⟨ia,icap,na,ncap,rfl,?_⟩;have hg:Below (fw w ao n cap k).heap.size (fw w ao n cap k) (w'.alloc (.cells #[zI 5,zI d.n,bs d.s,.slice ia d.items.length icap,.slice na d.names.length ncap] 67)):=hb.alloc hb.size _;have hc:=qaa (xG w' (.cells #[zI 5,zI d.n,bs d.s,.slice ia d.items.length icap,.slice na d.names.length ncap] 67));have Hm:=(qi3 w ao n cap k).size;refine⟨hF.below' hF.size (zB _),hc 0 _ rfl,hc 3 _ rfl,hc 4 _ rfl,by obtain⟨_,_,_,hl,_⟩:=hN;simpa using hl,fun j x hj=>?_,fun j x hj=>?_⟩
  ·obtain⟨ao',cap',he,_,hx⟩:=hI
   obtain⟨b,o,h1,h2,h3⟩:=hx (fun e=>by have:=List.map_eq_nil_iff.1 e;rw[this]at hj;cases hj);simp only[Value.slice.injEq]at he;exact⟨b,o,he.1.trans h1,(hg.cell (p:=zO b (o+j)) (by show b<_;omega)).trans (h3 j _ (by rw[yz,hj];rfl))⟩
  ·obtain⟨ao',cap',he,_,hx⟩:=hN
   obtain⟨b,o,h1,h2,h3⟩:=hx (fun e=>by have:=List.map_eq_nil_iff.1 e;rw[this]at hj;cases hj);simp only[Value.slice.injEq]at he;exact⟨b,o,he.1.trans h1,(hg.cell (p:=zO b (o+j)) (by show b<_;omega)).trans (h3 j _ (by rw[yz,hj];rfl))⟩)
 clear hD hk;unfold fw at HD;unfold bs at HD;generalize (⟨d.s.toArray⟩:zT)=ds at HD;generalize d.n=dn at HD;generalize d.items=items at HD |-;generalize d.names=names at HD |-;obtain⟨R,HR⟩:∃R,Hid (qlc name.data.toList names items=R):=⟨_,rfl⟩;rw[HR.out];go_enter func214,ntmps214
 go_wp2_with (go_at_call 215;refine xR HD.out ?_;rintro e w' ⟨ia,icap,na,ncap,rfl,hF⟩;have HF:=zH hF;have Hg:=hF.c0;have hi:=hF.c3;have Hi:=hF.c4;clear hF)
 generalize w'.alloc _=W at HF Hg hi Hi |-;generalize w'.heap.size=g at HF Hg hi Hi |-;have Hk:(min (names.length:Int) (items.length:Int))<=names.length/\(min (names.length:Int) (items.length:Int))<=items.length/\(min (names.length:Int) (items.length:Int)=names.length\/min (names.length:Int) (items.length:Int)=items.length):=by omega
 obtain⟨mi,He⟩:∃mi:Nat,(min (names.length:Int) (items.length:Int))=(mi:Int):=⟨min names.length items.length,by omega⟩;rw[He]at Hk;simp only[He];clear He;go_loopw [21] (fun i wr=>∃j:Nat,i=zI j/\wr=W/\j<=mi/\Hid (qlc name.data.toList (names.drop j) (items.drop j)=R)) (fun i _=>mi - (intOf i).toNat)
 case atStart=>exact⟨0,rfl,rfl,yH _,HR.out⟩
 case round=>
  obtain⟨j,rfl,rfl,hj,HJ⟩:=hrel;by_cases hn:(j:Int)<(mi:Int)
  rotate_left
  ·have HE:Hid (R=none):=by
    show _=_;rw[<-HJ.out];exact q5m _ _ _ _ (by omega)
   have Ha:=HF.out.fw.facts;obtain⟨⟨_,_,r0,r1⟩,f0,f1⟩:=Ha;go_wp2
   rw[HE.out];exact quu (g:=w.heap.size+1) results214 rfl rfl rfl (xH _ _ _ _ _ _ (xH _ _ _ _ _ _ HF.out.fw.res)) rfl ⟨rfl,(HF.out.fw.below.setCell (p:=zO (w.heap.size+1) 0) (Nat.le_succ _) _).setCell (p:=zO (w.heap.size+1) 1) (Nat.le_succ _) _⟩
  ·have Hn:(j:Int)<(names.length:Int):=by omega
   have ho:(j:Int)<(items.length:Int):=by omega
   have Hb:names[j]?=some names[j]:=yc (by omega);have Hc:items[j]?=some items[j]:=yc (by omega);generalize names[j]=a at Hb;generalize items[j]=x at Hc;obtain⟨bn,on,rfl,hf⟩:=HF.out.nm j a Hb;obtain⟨bi,oi,rfl,Ho⟩:=HF.out.it j x Hc;have HS:=zH (q8q name.data.toList names items j a x Hb Hc);have Ha:=HF.out.fw.facts;obtain⟨⟨p0,p1,r0,r1⟩,f0,f1⟩:=Ha;have hp:(0:Int)<=(j:Int):=by omega
   unfold bs at hf;by_cases ha:a=name.data.toList
   ·have hq:((⟨a.toArray⟩:zT).toList==name.toList)=true:=by
     rw[yF,yW,yW,ha]
    have Hl:Hid (R=some x):=by
     show _=_;have:=HS.out;rw[if_pos ha,HJ.out]at this;exact this
    obtain⟨ao',n',cap',k',HV⟩:∃ao' n' cap' k',Hid (qe0 (.slice ao n cap) (qd2 k x)=.agg #[.slice ao' n' cap',zI k']):=by
     cases qd2 k x with
     |none=>exact⟨_,_,_,_,rfl⟩
     |some m=>exact⟨_,_,_,_,rfl⟩
    have HI:=zH (fun w=>q27 ao n cap k x w);rw[HV.out]at HI;generalize (⟨a.toArray⟩:zT)=ab at hf hq;clear HS HJ ha Hb Hc;go_wp2
    go_region_with (go_at_call 219;refine xR (HI.out _) ?_;rintro e w'' ⟨rfl,hb⟩;have Hf:=FwAt.below' (FwAt.drew HF.out.fw) (FwAt.size HF.out.fw) hb;obtain⟨⟨_,_,q0,q1⟩,g0,g1⟩:=Hf.facts;have Hj:=zH Hf;clear Hf hb)
    all_goals
     go_wp2
     rw[Hl.out];refine quu (g:=w.heap.size+1) results214 rfl rfl rfl (xH _ _ _ _ _ _ (xH _ _ _ _ _ _ Hj.out.res)) rfl ⟨?_,(Hj.out.below.setCell (p:=zO (w.heap.size+1) 0) (Nat.le_succ _) _).setCell (p:=zO (w.heap.size+1) 1) (Nat.le_succ _) _⟩;show _=Ending.returned (.tuple #[qe0 (.slice ao n cap) (qd2 k x),.bool true]);rw[HV.out];rfl
   ·have hq:((⟨a.toArray⟩:zT).toList==name.toList)=false:=by
     rw[yf];intro e;rw[yW,yW]at e;exact ha (by simpa using e)
    have hm:Hid (qlc name.data.toList (names.drop (j+1)) (items.drop (j+1))=R):=by
     show _=_;have:=HS.out;rw[if_neg ha,HJ.out]at this;exact this.symm
    have Hp:(j:Int)+1<=9223372036854775807:=by have:=HF.out.len;unfold maxLen at this;omega
    generalize (⟨a.toArray⟩:zT)=ab at hf hq;clear HS ha Hb Hc;go_wp2
    go_roundw
    case rel=>exact⟨j+1,by go_num,trivial,by omega,hm⟩
    case measure=>simp[intOf];omega
end Go.Proofs.YtfkhljmiehdgmaaGreatDoor
