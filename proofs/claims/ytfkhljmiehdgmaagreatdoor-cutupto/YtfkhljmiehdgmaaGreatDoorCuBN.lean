/-
  Steps of the proof.
-/
import Derived.Deep.OwnRows
import Derived.Deep.Onto
import Derived.Test.YtfkhljmiehdgmaaGreatDoorCuBM
set_option maxRecDepth 100000
set_option maxHeartbeats 40000000
namespace Go.Proofs.YtfkhljmiehdgmaaGreatDoor
open Go.RowKit Go.Proofs.Tryz Pl
section
open Go.Maps
namespace Pl
theorem qlz:∀(Z:List (zU×zU)),(∀(i:Nat) z,Z[i]?=some z->(qam z.2).1.1=0)->qa5 Z=(Ft.none,Z.map fun z=>⟨z.1,(qam z.2).2⟩)
 |[],_=>rfl
 |(n,t)::l,h=>by
   have y:(qam t).1.1=0:=h 0 (n,t) rfl;have ih:=qlz l (fun i z D=>h (i+1) z (by simpa using D));unfold qa5;rw[if_neg (fun q=>q y),ih,if_neg (by simp[Ft.none])];rfl
theorem qn1:∀(Z:List (zU×zU)) (k:Nat) (z:zU×zU),(∀(i:Nat) y,i<k->Z[i]?=some y->(qam y.2).1.1=0)->Z[k]?=some z->(qam z.2).1.1≠0->qa5 Z=(⟨2,(qam z.2).1.1,z.1,(qam z.2).1.2⟩,[])
 |[],k,z,_,h,_=>by simp at h
 |(n,t)::l,0,z,_,h,hz=>by
   simp at h;subst h;exact qou hz
 |(n,t)::l,k+1,z,hk,h,hz=>by
   have D:(qam t).1.1=0:=hk 0 (n,t) (by omega) rfl;have ih:=qn1 l k z (fun i y I J=>hk (i+1) y (by omega) (by simpa using J)) (by simpa using h) hz;unfold qa5;rw[if_neg (fun q=>q D),ih,if_pos (by simp)]
end Pl
variable{k b g R:Nat}{w wr:World}{f:Nat->Value}
theorem zb1{L:List (zT×zT)}{x:zT×zT}(h:L[k]?=some x):(qau L)[k]?=some (x.1.data.toList,x.2.data.toList):=by
 unfold qau;rw[yz,h];rfl
theorem zb0{L:List (zT×zT)}{z:zU×zU}(h:(qau L)[k]?=some z):∃x,L[k]?=some x/\z=(x.1.data.toList,x.2.data.toList):=by
 unfold qau at h;rw[yz]at h;obtain⟨x,y,D⟩:=yy.1 h;exact⟨x,y,D.symm⟩
structure CAi(w wr:World)(b g R:Nat)(LL:List (zT×zT))(f:Nat->Value)(k:Nat):Prop where
 ps:PsAt wr b LL
 blk:wr.rowIs g 173 (LL.length*2) f
 name:∀(i:Nat) x,i<k->LL[i]?=some x->f (i*2)=.string x.1
 row:∀(i:Nat) x,i<k->LL[i]?=some x->wr.ownsRow w.heap.size 229 4 (f (i*2+1)) (Pl.qam x.2.data.toList).2.length (qbp (Pl.qam x.2.data.toList).2)
 res:wr.heap[R]?=zK #[zI 0,zI 0,zS,zI 0] 31
 below:zW w wr
 le:w.heap.size<=R/\w.heap.size<=g
 ne:b≠g
theorem CAi.next{w':World}{LL:List (zT×zT)}(h:CAi w wr b g R LL f k)(y:zW wr w'):CAi w w' b g R LL f k:=
 ⟨⟨fun k x z=>(y.cell (p:=zO b (k*2)) (xO _ _ (h.ps.name k x z))).trans (h.ps.name k x z),fun k x z=>(y.cell (p:=zO b (k*2+1)) (xO _ _ (h.ps.text k x z))).trans (h.ps.text k x z)⟩,
  h.blk.of_block (y.block _ h.blk.lt),h.name,fun i x D z=>qab (h.row i x D z) (fun q I=>y.block q ((h.row i x D z).lt q I).2),(y.block _ (zL h.res)).trans h.res,h.below.trans (y.mono h.below.size),h.le,h.ne⟩
theorem qr0:(173:TypeId)≠229:=by decide
theorem CAi.put{LL:List (zT×zT)}(h:CAi w wr b g R LL f k){x:zT×zT}(O:LL[k]?=some x){v:Value}(T:wr.ownsRow w.heap.size 229 4 v (Pl.qam x.2.data.toList).2.length (qbp (Pl.qam x.2.data.toList).2)) :
  ∃f',CAi w ((wr.setCell (zO g (k*2)) (.string x.1)).setCell (zO g (k*2+1)) v) b g R LL f' (k+1):=by
 have z:∀q,q≠g->((wr.setCell (zO g (k*2)) (.string x.1)).setCell (zO g (k*2+1)) v).heap[q]?=wr.heap[q]?:=fun q U=>(xK _ _ _ _ U).trans (xK _ _ _ _ U);have D:∀ {u:Value} {n:Nat} {xs:List Value},wr.ownsRow w.heap.size 229 4 u n xs->((wr.setCell (zO g (k*2)) (.string x.1)).setCell (zO g (k*2+1)) v).ownsRow w.heap.size 229 4 u n xs:=fun V=>qab V fun q U=>by
  obtain⟨cur,X⟩:=qac V q U;obtain⟨c,Y,_,_⟩:=h.blk;exact z q (qae X Y qr0.symm)
 have I:R≠g:=by
  obtain⟨c,Y,_,_⟩:=h.blk;exact qae h.res Y qdm
 have J:=(h.blk.set (k*2) (.string x.1)).set (k*2+1) v;refine⟨_,⟨fun i y Z=>(xP (w:=wr) (z b h.ne)).trans (h.ps.name i y Z),fun i y Z=>(xP (w:=wr) (z b h.ne)).trans (h.ps.text i y Z)⟩,J,fun i y hi Z=>?_,fun i y hi Z=>?_,(z R I).trans h.res,(h.below.setCell (p:=zO g (k*2)) h.le.2 _).setCell (p:=zO g (k*2+1)) h.le.2 _,h.le,h.ne⟩
 ·show (if i*2=k*2+1 then v else if i*2=k*2 then .string x.1 else f (i*2))=_
  rw[if_neg (by omega)];by_cases e:i=k
  ·subst e
   rw[if_pos rfl];rw[O]at Z;obtain rfl:=yk Z;rfl
  ·rw[if_neg (by omega)]
   exact h.name i y (by omega) Z
 ·show World.ownsRow _ _ _ _ (if i*2+1=k*2+1 then v else if i*2+1=k*2 then .string x.1 else f (i*2+1)) _ _
  by_cases e:i=k
  ·subst e
   rw[if_pos rfl];rw[O]at Z;obtain rfl:=yk Z;exact D T
  ·rw[if_neg (by omega),if_neg (by omega)]
   exact D (h.row i y (by omega) Z)
theorem CAi.sources{LL:List (zT×zT)}(h:CAi w wr b g R LL f LL.length):SrcAt wr w.heap.size ⟨0,g,0,0,0,fun i=>f (i*2+1)⟩ ((qau LL).map fun z=>⟨z.1,(Pl.qam z.2).2⟩):=by
 have y:∀(i:Nat) (s:Src),((qau LL).map fun z=>(⟨z.1,(Pl.qam z.2).2⟩:Src))[i]?=some s->∃x,LL[i]?=some x/\s=⟨x.1.data.toList,(Pl.qam x.2.data.toList).2⟩/\i<LL.length:=fun i s D=>by
  rw[yz]at D;obtain⟨z,I,J⟩:=yy.1 D;obtain⟨x,O,T⟩:=zb0 I;exact⟨x,O,by rw[<-J,T],(yb.1 O).1⟩
 obtain⟨c,U,V,_⟩:=h.blk;refine⟨⟨c,_,U⟩,fun i s D=>?_,fun i s D=>?_,fun i s D=>?_⟩
 ·obtain⟨x,I,rfl,O⟩:=y i s D
  show wr.cell? (zO g (i*2))=_;rw[h.blk.cell (by omega),h.name i x O I];rfl
 ·obtain⟨x,I,rfl,O⟩:=y i s D
  exact h.blk.cell (by omega)
 ·obtain⟨x,I,rfl,O⟩:=y i s D
  exact h.row i x O I
theorem qtp(T:zT)(v:Value)(L:List (zT×zT))(w:World)(hA:qk5 w v L)(hL:L.length<=6)(hm:qa3 w)(hR:qd0 T.data.toList)(Hn:∀p∈L,qd0 p.2.data.toList)(hN:∀p∈L,p.1.size<=100000)(r:Ft×List Src)(hr:qa5 (([],T.data.toList)::qau L)=r) :
  zC 44 #[.string T,v] w fun ed w'=>((r.1.code≠0->ed=.returned (.tuple #[zN,qnt r.1]))/\(r.1.code=0->∃g pv,ed=.returned (.tuple #[zF g r.2.length r.2.length,qnt Ft.none])/\SrcAt w' w.heap.size ⟨0,g,0,0,0,pv⟩ r.2))/\zW w w':=by
 obtain⟨n,hn⟩:∃n,n=L.length+1:=⟨_,rfl⟩;have O:zW w ((w.alloc (.cells #[zI 0,zI 0,zS,zI 0] 31)).alloc (.cells #[zS,.string T] 38)):=(zB _).alloc (by simp) _;have hj:=qap (w.alloc (.cells #[zI 0,zI 0,zS,zI 0] 31)) (.cells #[zS,.string T] 38) (w.heap.size+1) (by simp);obtain⟨b,cap,w2,V,ha,Ha⟩:=all_append T v L w _ (w.heap.size+1) hA hL O (qaa hj 0 _ rfl) (qaa hj 1 _ rfl);rw[<-hn]at V;have Hb:((⟨#[]⟩,T)::L:List (zT×zT)).length=n:=by rw[hn];rfl
 have Hj:∀p∈((⟨#[]⟩,T)::L:List (zT×zT)),qd0 p.2.data.toList/\p.1.size<=100000:=fun p hp=>by
  rcases xt.1 hp with rfl|hp
  ·exact⟨hR,by show(0:Nat)<=100000;omega⟩
  ·exact⟨Hn p hp,hN p hp⟩
 have hZ:qau ((⟨#[]⟩,T)::L)=([],T.data.toList)::qau L:=rfl;rw[<-hZ]at hr;have hu:=q0l n (by omega);have Y:w2.heap[w.heap.size]?=zK #[zI 0,zI 0,zS,zI 0] 31:=(Ha.block _ (by simp<;>omega)).trans ((xI _ _ (by simp)).trans (xF _ _))
 have Hk:CAi w (w2.alloc (.cells (madeCells #[zS,zN] (n*2)) 173)) b w2.heap.size w.heap.size ((⟨#[]⟩,T)::L) (fun i=>if i % 2=0 then zS else zN) 0:=by
  have Hu:=(O.trans (Ha.mono O.size)).alloc (O.trans (Ha.mono O.size)).size (.cells (madeCells #[zS,zN] (n*2)) 173);have Hf:b<w2.heap.size:=xO _ _ (ha.name 0 _ rfl);have Z:zW w2 (w2.alloc (.cells (madeCells #[zS,zN] (n*2)) 173)):=zB _;refine⟨⟨fun k x hx=>(Z.cell (p:=zO b (k*2)) Hf).trans (ha.name k x hx),fun k x hx=>(Z.cell (p:=zO b (k*2+1)) Hf).trans (ha.text k x hx)⟩,?_,fun i x hi=>absurd hi (yZ _),fun i x hi=>absurd hi (yZ _),(xI _ _ (ya.1 Y).1).trans Y,Hu,⟨yg _,(O.trans (Ha.mono O.size)).size⟩,Nat.ne_of_lt Hf⟩;refine⟨_,xF _ _,by rw[size_madeCells,Hb],fun i hi=>?_⟩;rw[Hb]at hi;unfold madeCells;rw[Array.getElem?_map,Array.getElem?_range,if_pos hi];simp only[Option.map_some,Option.some.injEq];rcases Nat.mod_two_eq_zero_or_one i with e|e
  ·rw[if_pos e];show(#[Value.string ⟨#[]⟩,Value.slice none 0 0][i % 2]!)=_;rw[e];rfl
  ·rw[if_neg (by omega)];show(#[Value.string ⟨#[]⟩,Value.slice none 0 0][i % 2]!)=_;rw[e];rfl
 generalize ((⟨#[]⟩,T)::L:List (zT×zT))=LL at Hb Hj hr Hk ha;have HR:=(show Hid (qa5 (qau LL)=r)from hr);have Hv:=zH Hj;have hg:=zH Hk;have HM:=(show Hid (qa3 w)from hm);have HA:(n:Int)<=7:=by omega
 have U:=zH Hb;clear hA hL hm hR Hn hN hr O hj ha Ha hn Hb Hj hZ Y Hk;go_enter func44,ntmps44
 go_wp2_with (at_builtin;refine qna _ rfl _ _ 22 rfl _ _ _ w2 rfl rfl (V _) ?_)
 clear V hu;generalize w2.heap.size=g at hg |-;generalize World.alloc w2 _=w3 at hg |-;go_loopw [23] (fun i wr=>∃(k:Nat) (f:Nat->Value),k<=n/\i=zI k/\Hid (CAi w wr b g w.heap.size LL f k/\∀(i:Nat) y,i<k->(qau LL)[i]?=some y->(qam y.2).1.1=0)) (fun i _=>n - (intOf i).toNat)
 case atStart=>exact⟨0,_,yH _,rfl,hg.out,fun i y hi=>absurd hi (yZ _)⟩
 case round=>
  obtain⟨k,f,hk,rfl,HC⟩:=hrel;clear hg;by_cases Hf:k<n
  ·have hl:(k:Int)<(n:Int):=by omega
   have hw:=U.out;obtain⟨x,hx⟩:∃x,LL[k]?=some x:=⟨LL[k]'(by omega),yc (by omega)⟩;have p0:wr.cell? (zO b (k*2))=some (.string x.1):=HC.out.1.ps.name k x hx;have p1:wr.cell? (zO b (k*2+1))=some (.string x.2):=HC.out.1.ps.text k x hx;obtain⟨ho,Ho⟩:=Hv.out x (yl hx);have Hp:=zH (fun w=>qyz x.1 w Ho);have I:=zH (fun w hm=>qz6 x.2 w hm ho);have HX:=zH hx;have Hq:=zb1 hx;have Hl:=zH Hq;clear hw hx ho Ho Hq;obtain⟨N,X⟩:=x;simp only at p0 p1 Hp I HX Hl;obtain⟨sl,Hm⟩:∃sl,sl=qam X.data.toList:=⟨_,rfl⟩;rw[<-Hm]at I;unfold qg8 at I;have Hg:=zH Hm;clear Hm;go_wp2_with fail
   refine xQ (Hp.out _) ?_;rintro ed w4 ⟨rfl,Z⟩;have Hi:=(show Hid _ from(HC.out.1.next (zB (.cells #[.string N,.string X] 38))).next Z);have t1:w4.cell? (zO wr.heap.size 1)=some (.string X):=qaa ((Z.block wr.heap.size (by simp)).trans (xF wr _)) 1 _ rfl;clear Z p0 p1;go_wp2_with fail
   have Hr:qa3 w4:=HM.out.below Hi.out.below;refine xQ (I.out _ Hr) ?_;rintro ed w5 ⟨⟨v5,rfl,J⟩,Hs⟩;have D:=zH (Hi.out.next Hs);have Hw:=zH Hi.out.below.size;clear Hs t1 Hi Hr;by_cases hz:sl.1.1=0
   ·have Hx:((sl.1.1:Int) != 0)=false:=by rw[hz];rfl
    have hB:(sl.1.1:Int)=0:=by omega
    obtain⟨ao5,cap5,rfl⟩:=qaq (J hz);have Hc:=(show Hid _ from(J hz).mono Hw.out);have g0:∀o,∃u,(w5.alloc o).cell? (zO g (k*2))=some u:=fun o=>⟨_,(D.out.next (zB o)).blk.cell (by have:=U.out;omega)⟩;have g1:∀o,∃u,(w5.alloc o).cell? (zO g (k*2+1))=some u:=fun o=>⟨_,(D.out.next (zB o)).blk.cell (by have:=U.out;omega)⟩;obtain⟨u0,g0⟩:∃u0,∀o,(w5.alloc o).cell? (zO g (k*2))=some u0:=⟨_,fun o=>(D.out.next (zB o)).blk.cell (by have:=U.out;omega)⟩;obtain⟨u1,g1⟩:∃u1,∀o,(w5.alloc o).cell? (zO g (k*2+1))=some u1:=⟨_,fun o=>(D.out.next (zB o)).blk.cell (by have:=U.out;omega)⟩;have z0:∀o,(w5.alloc o).frozen? (zO g (k*2))=false:=fun o=>(D.out.next (zB o)).blk.frozen _;have z1:∀o,(w5.alloc o).frozen? (zO g (k*2+1))=false:=fun o=>(D.out.next (zB o)).blk.frozen _;have HZ:=zH hz;clear J hz;go_wp2_with fail
    go_roundw
    case rel=>
     have Hy:=HX.out;have Hz:=qab Hc.out (w':=w5.alloc (.cells #[zI 0,zI sl.1.2] 169)) (fun q hq=>xI _ _ (World.ownsRow.lt Hc.out q hq).2);obtain⟨f',hf⟩:=(D.out.next (zB (.cells #[zI 0,zI sl.1.2] 169))).put Hy (v:=.slice ao5 sl.2.length cap5) (by show World.ownsRow _ _ _ _ _ (qam X.data.toList).2.length (qbp (qam X.data.toList).2);rw[<-Hg.out];exact Hz);refine⟨k+1,f',by omega,by go_num,?_,fun i y hi hy=>?_⟩
     ·exact hf
     ·by_cases e:i=k
      ·subst e
       rw[Hl.out]at hy;obtain rfl:=yk hy;show(qam X.data.toList).1.1=0;rw[<-Hg.out];exact HZ.out
      ·exact HC.out.2 i y (by omega) hy
    case measure=>simp[intOf];omega
   ·have Hx:((sl.1.1:Int) != 0)=true:=by rw[bne_iff_ne];omega
    have ht:(⟨N.data.toList.toArray⟩:zT)=N:=by cases N;simp
    have he:Hid (qnt r.1=.agg #[zI 2,zI (sl.1.1:Nat),.string N,zI (sl.1.2:Nat)]/\r.1.code=2):=by
     have h1:=Pl.qn1 (qau LL) k (N.data.toList,X.data.toList) HC.out.2 Hl.out (by show(qam X.data.toList).1.1≠0;rw[<-Hg.out];exact hz);rw[HR.out]at h1;simp only[<-Hg.out]at h1;show _/\_;rw[h1];refine⟨?_,rfl⟩;show Value.agg #[_,_,.string (⟨N.data.toList.toArray⟩:zT),_]=_;rw[ht];rfl
    have x0:∀o,(w5.alloc o).cell? (zO w.heap.size 0)=some (zI 0):=fun o=>qaa (D.out.next (zB o)).res 0 _ rfl;have x1:∀o,(w5.alloc o).cell? (zO w.heap.size 1)=some (zI 0):=fun o=>qaa (D.out.next (zB o)).res 1 _ rfl;have x2:∀o,(w5.alloc o).cell? (zO w.heap.size 2)=some (zS):=fun o=>qaa (D.out.next (zB o)).res 2 _ rfl;have x3:∀o,(w5.alloc o).cell? (zO w.heap.size 3)=some (zI 0):=fun o=>qaa (D.out.next (zB o)).res 3 _ rfl;have y0:∀o,(w5.alloc o).frozen? (zO w.heap.size 0)=false:=fun o=>by simp[World.frozen?,(D.out.next (zB o)).res]
    have y1:∀o,(w5.alloc o).frozen? (zO w.heap.size 1)=false:=fun o=>by simp[World.frozen?,(D.out.next (zB o)).res]
    have y2:∀o,(w5.alloc o).frozen? (zO w.heap.size 2)=false:=fun o=>by simp[World.frozen?,(D.out.next (zB o)).res]
    have y3:∀o,(w5.alloc o).frozen? (zO w.heap.size 3)=false:=fun o=>by simp[World.frozen?,(D.out.next (zB o)).res]
    have Ht:=zH (D.out.next (zB (.cells #[zI (sl.1.1:Nat),zI (sl.1.2:Nat)] 169)));clear J hz ht;go_wp2_with fail
    go_region
    all_goals
     go_wp2_with fail
     have hf:=qhg Ht.out.res (zI 2) (zI (sl.1.1:Nat)) (.string N) (zI (sl.1.2:Nat));have hb:=(((Ht.out.below.setCell (p:=zO w.heap.size 0) (yg _) (zI 2)).setCell (p:=zO w.heap.size 1) (yg _) (zI (sl.1.1:Nat))).setCell (p:=zO w.heap.size 2) (yg _) (.string N)).setCell (p:=zO w.heap.size 3) (yg _) (zI (sl.1.2:Nat));refine qfb results44 rfl w.heap.size (zN) _ rfl rfl hf _ underlying31 rfl (by kernel_rfl) ?_;exact⟨⟨fun _=>by rw[he.out.1],fun q=>absurd q (by rw[he.out.2];omega)⟩,hb.drew⟩
  ·have hl:¬(k:Int)<(n:Int):=by omega
   obtain rfl:k=n:=by omega
   have he:Hid (r=(Ft.none,(qau LL).map fun z=>⟨z.1,(qam z.2).2⟩)):=by
    show _=_;rw[<-HR.out];exact Pl.qlz _ fun i z hz=>HC.out.2 i z (by have:=(yb.1 hz).1;unfold qau at this;rw[yR,U.out]at this;exact this) hz
   have HS:Hid (SrcAt wr w.heap.size ⟨0,g,0,0,0,fun i=>f (i*2+1)⟩ r.2/\r.2.length=k):=by
    have h1:=HC.out.1;rw[<-U.out]at h1;show _/\_;rw[he.out];refine⟨h1.sources,?_⟩;unfold qau;rw[yR,yR,U.out]
   have x0:wr.cell? (zO w.heap.size 0)=some (zI 0):=qaa HC.out.1.res 0 _ rfl;have x1:wr.cell? (zO w.heap.size 1)=some (zI 0):=qaa HC.out.1.res 1 _ rfl;have x2:wr.cell? (zO w.heap.size 2)=some (zS):=qaa HC.out.1.res 2 _ rfl;have x3:wr.cell? (zO w.heap.size 3)=some (zI 0):=qaa HC.out.1.res 3 _ rfl;have y0:wr.frozen? (zO w.heap.size 0)=false:=by simp[World.frozen?,HC.out.1.res]
   have y1:wr.frozen? (zO w.heap.size 1)=false:=by simp[World.frozen?,HC.out.1.res]
   have y2:wr.frozen? (zO w.heap.size 2)=false:=by simp[World.frozen?,HC.out.1.res]
   have y3:wr.frozen? (zO w.heap.size 3)=false:=by simp[World.frozen?,HC.out.1.res]
   go_wp2_with fail
   have hf:=qhg HC.out.1.res (zI 0) (zI 0) (zS) (zI 0);have hb:=(((HC.out.1.below.setCell (p:=zO w.heap.size 0) (yg _) (zI 0)).setCell (p:=zO w.heap.size 1) (yg _) (zI 0)).setCell (p:=zO w.heap.size 2) (yg _) (zS)).setCell (p:=zO w.heap.size 3) (yg _) (zI 0);have He:∀q,q≠w.heap.size->((((wr.setCell (zO w.heap.size 0) (zI 0)).setCell (zO w.heap.size 1) (zI 0)).setCell (zO w.heap.size 2) (zS)).setCell (zO w.heap.size 3) (zI 0)).heap[q]?=wr.heap[q]?:=fun q hq=>(xK _ _ _ _ hq).trans ((xK _ _ _ _ hq).trans ((xK _ _ _ _ hq).trans (xK _ _ _ _ hq)));refine qfb results44 rfl w.heap.size (zF g k k) _ rfl rfl hf _ underlying31 rfl (by kernel_rfl) ?_;refine⟨⟨fun q=>absurd (by rw[he.out];rfl) q,fun _=>⟨g,(by rw[HS.out.2];rfl),fun i=>f (i*2+1),SrcAt.kept HS.out.1 ?_ ?_⟩⟩,hb⟩
   ·obtain⟨cs,fz,hc⟩:=HS.out.1.blk
    exact He _ (qae hc HC.out.1.res qdm.symm)
   ·intro i s q hs hv
    obtain⟨cur,hc⟩:=qac (HS.out.1.row i s hs) q hv;exact He _ (qae hc HC.out.1.res qfk.symm)
end
end Go.Proofs.YtfkhljmiehdgmaaGreatDoor
