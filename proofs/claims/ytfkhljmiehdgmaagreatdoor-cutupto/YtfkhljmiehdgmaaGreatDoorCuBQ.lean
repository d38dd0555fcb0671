/-
  Steps of the proof.
-/
import Derived.Test.YtfkhljmiehdgmaaGreatDoorCuBP
set_option maxRecDepth 100000
set_option maxHeartbeats 40000000
namespace Go.Proofs.YtfkhljmiehdgmaaGreatDoor
open Go.RowKit Go.Proofs.Tryz Pl
section
open Go.Maps
theorem qi4(f:Pl.Ft):qnt f=.agg #[zI f.code,zI f.kind,.string ⟨f.place.toArray⟩,zI f.pos]:=rfl
theorem q52:qnt Pl.Ft.none=.agg #[zI 0,zI 0,zS,zI 0]:=rfl
theorem qh9{L:List (zT×zT)}(h:qck L=true):L.length<=6/\qhn (qbq L)=true/\∀p∈L,p.1.size<=100000:=by
 unfold qck at h;simp only[yL,yN]at h;refine⟨h.1,h.2,fun p y=>?_⟩;obtain⟨i,z⟩:=xj y;have D:(qbq L)[i]?=some p.1.data.toList:=by unfold qbq;rw[yz,z];rfl
 have:=Pl.qq0 ((Pl.qfi _).1 h.2 i _ D).1;simp at this;omega
theorem q8v(T:zT)(v:Value)(L:List (zT×zT))(w:World)(J:qk5 w v L)(O:qck L=true)(U:qa3 w)(V:qd0 T.data.toList)(D:∀p∈L,qd0 p.2.data.toList)(r:Pl.Ft×List Src)(X:Pl.qa5 (([],T.data.toList)::qau L)=r)(Y:r.1.code≠0) :
  zC 29 #[.string T,v] w (zR (.tuple #[.agg #[zN],qnt r.1]) w):=by
 have Z:=fun w1 (hb:zW w w1)=>ql5 v L w1 (J.kept hb);rw[O]at Z;obtain⟨f1,f2,f3⟩:=qh9 O;have h2:=fun w1 (hb:zW w w1)=>qtp T v L w1 (J.kept hb) f1 (U.below hb) V D f3 r X;have H1:=zH Z;have H2:=zH h2;have I:((r.1.code:Int) != 0)=true:=by rw[bne_iff_ne];omega
 have HC:=zH Y;clear Z O J h2 f1 f2 f3 U V D X Y;rw[qi4];go_enter func29,ntmps29
 go_wp2_with fail
 refine(H1.out _ (Mki.start w).below).mono ?_;rintro ed w1 ⟨rfl,hb⟩;have HK:=(show Hid _ from(Mki.start w).next hb);clear hb;generalize w.heap.size+1=R0 at HK |-;generalize w.heap.size=P0 at HK |-;go_wp2_with fail
 refine(H2.out _ HK.out.below).mono ?_;rintro ed w2 ⟨⟨h3,_⟩,hb⟩;obtain rfl:=h3 HC.out;rw[qi4];have y:=zH (HK.out.next hb);have z:=zH (y.out.next (zB (.cells #[zI (r.1.code:Nat),zI r.1.kind,.string ⟨r.1.place.toArray⟩,zI (r.1.pos:Nat)] 31)));obtain⟨p0,q0,x0,x1,x2,x3,y0,y1,y2,y3⟩:=z.out.cells;have e1:w2.heap.size≠P0:=(Nat.ne_of_lt (ya.1 y.out.pl).1).symm;have e2:w2.heap.size≠R0:=(Nat.ne_of_lt (ya.1 y.out.ft).1).symm;have e3:P0≠R0:=y.out.ne;have hE:=xF w2 (.cells #[zI (r.1.code:Nat),zI r.1.kind,.string ⟨r.1.place.toArray⟩,zI (r.1.pos:Nat)] 31);have l0:=qaa hE 0 _ rfl;have l1:=qaa hE 1 _ rfl;have l2:=qaa hE 2 _ rfl;have l3:=qaa hE 3 _ rfl;clear hb h3 hE y HK;go_wp2_with fail
 generalize w2.heap.size=E at l0 l1 l2 l3 e1 e2 |-;generalize World.alloc w2 _=w3 at l0 l1 l2 l3 p0 q0 x0 x1 x2 x3 y0 y1 y2 y3 z |-;go_region
 all_goals
  go_wp2_with fail
  have hs:=z.out.set (zN) (zI (r.1.code:Nat)) (zI r.1.kind) (.string ⟨r.1.place.toArray⟩) (zI (r.1.pos:Nat));refine qhw results29 rfl P0 R0 _ _ rfl rfl hs.1 hs.2.1 _ _ underlying77 underlying31 rfl rfl (by kernel_rfl) (by kernel_rfl) ?_;exact⟨rfl,hs.2.2.drew⟩
theorem qxh(S:List Src)(len:Nat)(h:(qew S len).2.code=0):(qew S len).2=Pl.Ft.none:=by
 rw[Pl.qqv]at h |-;split at h
 ·rename_i q;exact absurd h q
 ·rename_i q1
  rw[if_neg q1];split at h
  ·rename_i q2;exact absurd h q2
  ·rename_i q2;rw[if_neg q2]
theorem q8w(HB:qhp)(T:zT)(v:Value)(L:List (zT×zT))(w:World)(hA:qk5 w v L)(hf:qck L=true)(ht:PTabs w)(hm:qa3 w)(hR:qd0 T.data.toList)(Ha:∀p∈L,qd0 p.2.data.toList)(S:List Src)(hr:Pl.qa5 (([],T.data.toList)::qau L)=(Pl.Ft.none,S))(hS:SrcsOk S) :
  zC 29 #[.string T,v] w fun ed w'=>(∃ao n cap,ed=.returned (.tuple #[.agg #[.slice ao n cap],qnt (qew S T.size).2])/\((qew S T.size).2.code=0->∃B F M s,w.heap.size<=B/\SvAt w' B F S (.slice ao n cap) M s/\s.vis=(qew S T.size).1))/\zW w w':=by
 have h1:=fun w1 (hb:zW w w1)=>ql5 v L w1 (hA.kept hb);rw[hf]at h1;obtain⟨f1,f2,f3⟩:=qh9 hf;have h2:=fun w1 (hb:zW w w1)=>qtp T v L w1 (hA.kept hb) f1 (hm.below hb) hR Ha f3 _ hr;have h3:=fun(w1 w2:World) (g:Nat) (pv:Nat->Value) (hb:zW w w1) (Hb:zW w1 w2) (hs:SrcAt w2 w1.heap.size ⟨0,g,0,0,0,pv⟩ S)=>zcb HB S hS (zev HB S hS 258) w2 w1.heap.size g pv T.size hs Hb.size ⟨(ht.kept hb).kept Hb,w1,ht.kept hb,yg _⟩;have H1:=zH h1;have H2:=zH h2;have J:=qxh S T.size;generalize qew S T.size=q at h3 J |-;obtain⟨vis,f⟩:=q;simp only at h3 J |-;have Hg:=zH J;clear J;have H3:=zH h3;clear h1 hf hA h2 f1 f2 f3 hm hR Ha hr h3 ht hS;go_enter func29,ntmps29
 go_wp2_with fail
 refine(H1.out _ (Mki.start w).below).mono ?_;rintro ed w1 ⟨rfl,hb⟩;have HK:=(show Hid _ from(Mki.start w).next hb);clear hb H1;generalize w.heap.size+1=R0 at HK |-;generalize w.heap.size=P0 at HK |-;go_wp2_with fail
 refine(H2.out _ HK.out.below).mono ?_;rintro ed w2 ⟨⟨_,h3⟩,hb⟩;obtain⟨g,pv,rfl,z⟩:=h3 rfl;rw[q52];have D:=zH (HK.out.next hb);have O:=zH (D.out.next (zB (.cells #[zI 0,zI 0,zS,zI 0] 31)));have U:=zH (hb.alloc hb.size (.cells #[zI 0,zI 0,zS,zI 0] 31));have V:Hid (SrcAt (w2.alloc (.cells #[zI 0,zI 0,zS,zI 0] 31)) w1.heap.size ⟨0,g,0,0,0,pv⟩ S):=SrcAt.kept z (by obtain⟨cs,fz,hc⟩:=z.blk;exact xI _ _ (ya.1 hc).1) (fun i s k hs hv=>xI _ _ ((z.row i s hs).lt k hv).2);have e1:w2.heap.size≠P0:=(Nat.ne_of_lt (ya.1 D.out.pl).1).symm;have e2:w2.heap.size≠R0:=(Nat.ne_of_lt (ya.1 D.out.ft).1).symm;have e3:P0≠R0:=D.out.ne;have Hc:w.heap.size<=w2.heap.size:=D.out.below.size;have he:=zH Hc;have hE:=zH (xF w2 (.cells #[zI 0,zI 0,zS,zI 0] 31));clear hb h3 D z Hc H2;go_wp2_with fail
 generalize w2.heap.size=E at hE he e1 e2 |-;generalize World.alloc w2 _=w3 at O hE U V |-;refine(H3.out w1 w3 g pv HK.out.below U.out V.out).mono ?_;rintro ed w4 ⟨⟨v4,rfl,hx⟩,He,X⟩;rw[qi4];have HX:=zH hx;have Hf:=zH (O.out.keeps X He HK.out.below.size);have y:=(show Hid _ from(X _ _ _ _ hE.out (by decide) (by decide)).trans hE.out);have hi:=zH HK.out.below.size;have a0:w4.cell? (zO E 0)=some (zI 0):=qaa y.out 0 _ rfl;have a1:w4.cell? (zO E 1)=some (zI 0):=qaa y.out 1 _ rfl;have a2:w4.cell? (zO E 2)=some (zS):=qaa y.out 2 _ rfl;have a3:w4.cell? (zO E 3)=some (zI 0):=qaa y.out 3 _ rfl;have b0:w4.frozen? (zO E 0)=false:=by simp[World.frozen?,y.out]
 have b1:w4.frozen? (zO E 1)=false:=by simp[World.frozen?,y.out]
 have b2:w4.frozen? (zO E 2)=false:=by simp[World.frozen?,y.out]
 have b3:w4.frozen? (zO E 3)=false:=by simp[World.frozen?,y.out]
 have I:=zH (Hf.out.beside he.out e1.symm e2.symm (zI (f.code:Nat)) (zI f.kind) (.string ⟨f.place.toArray⟩) (zI (f.pos:Nat)));have Y:=qhg y.out (zI (f.code:Nat)) (zI f.kind) (.string ⟨f.place.toArray⟩) (zI (f.pos:Nat));have Z:Hid (f.code=0->∃F M s,SvAt ((((w4.setCell (zO E 0) (zI (f.code:Nat))).setCell (zO E 1) (zI f.kind)).setCell (zO E 2) (.string ⟨f.place.toArray⟩)).setCell (zO E 3) (zI (f.pos:Nat))) w1.heap.size F S v4 M s/\s.vis=vis):=fun q=>by
  obtain⟨F,M,s,h1,h2⟩:=HX.out q;exact⟨F,M,s,h1.fault4 y.out _ _ _ _,h2⟩
 clear hx He X HX O U V hE HK H3;obtain⟨w5,hW⟩:∃w5,((((w4.setCell (zO E 0) (zI (f.code:Nat))).setCell (zO E 1) (zI f.kind)).setCell (zO E 2) (.string ⟨f.place.toArray⟩)).setCell (zO E 3) (zI (f.pos:Nat)))=w5:=⟨_,rfl⟩;rw[hW]at I Y Z;obtain⟨p0,q0,x0,x1,x2,x3,y0,y1,y2,y3⟩:=I.out.cells;have l0:=al (qaa Y);clear Y Hf y;by_cases hc:f.code=0
 rotate_left
 ·have Hi:((f.code:Int) != 0)=true:=by rw[bne_iff_ne];omega
  have HC:=zH hc;clear hc;go_wp2_with fail
  clear a0 a1 a2 a3 b0 b1 b2 b3 hW;go_region
  all_goals
   go_wp2_with fail
   have hs:=I.out.set (zN) (zI (f.code:Nat)) (zI f.kind) (.string ⟨f.place.toArray⟩) (zI (f.pos:Nat));refine qhw results29 rfl P0 R0 _ _ rfl rfl hs.1 hs.2.1 _ _ underlying77 underlying31 rfl rfl (by kernel_rfl) (by kernel_rfl) ?_;exact⟨⟨_,_,_,rfl,fun q=>absurd q HC.out⟩,hs.2.2.drew⟩
 ·have Hi:((f.code:Int) != 0)=false:=by rw[hc];rfl
  obtain⟨F,M,sr,ha,hg⟩:=Z.out hc;obtain⟨av,cv,rfl⟩:=qaq ha.row;have hj:=zH ha;have Hj:=zH hg;have HC:Hid (f=Pl.Ft.none):=Hg.out hc;clear hc ha hg Z;generalize sr.vis.length=nv at *;go_wp2_with fail
  have hs:=I.out.set (.slice av nv cv) (zI 0) (zI 0) (zS) (zI 0);refine qhw results29 rfl P0 R0 _ _ rfl rfl hs.1 hs.2.1 _ _ underlying77 underlying31 rfl rfl (by kernel_rfl) (by kernel_rfl) ?_;refine⟨⟨av,nv,cv,by rw[HC.out];rfl,fun _=>⟨w1.heap.size,F,M,sr,hi.out,I.out.sv hj.out _ _ _ _ _,Hj.out⟩⟩,hs.2.2⟩
namespace Pl
theorem qyp:∀(Z:List (zU×zU)),(qa5 Z).1.code=0->(qa5 Z).1=Ft.none
 |[],_=>rfl
 |(n,t)::l,h=>by
   unfold qa5 at h |-;by_cases y:(qam t).1.1=0
   ·rw[if_neg (fun q=>q y)]at h |-
    by_cases z:(qa5 l).1.code=0
    ·rw[if_neg (fun q=>q z)]
    ·rw[if_pos z]at h;exact absurd h z
   ·rw[if_pos y]at h;cases h
end Pl
theorem q8x(T:zT)(L:List (zT×zT))(h:(qc5 T.data.toList (qau L)).2.code=0):(qc5 T.data.toList (qau L)).2=Pl.Ft.none:=by
 unfold qc5 at h |-;split at h
 ·cases h
 ·rename_i y
  rw[if_neg y];split at h
  ·rename_i z;exact absurd h z
  ·rename_i z
   rw[if_neg z];split at h
   ·rename_i D;exact absurd h D
   ·rename_i D;rw[if_neg D]
theorem zca(I:qhp)(T:zT)(v:Value)(L:List (zT×zT))(w:World)(J:qk5 w v L)(O:PTabs w)(U:qa3 w)(V:qd0 T.data.toList)(y:∀p∈L,qd0 p.2.data.toList) :
  zC 29 #[.string T,v] w fun ed w'=>(∃ao n cap,ed=.returned (.tuple #[.agg #[.slice ao n cap],qnt (qc5 T.data.toList (qau L)).2])/\((qc5 T.data.toList (qau L)).2.code=0->∃B F M s,w.heap.size<=B/\SvAt w' B F (qc5 T.data.toList (qau L)).1.2 (.slice ao n cap) M s/\s.vis=(qc5 T.data.toList (qau L)).1.1))/\zW w w':=by
 have z:(qau L).length=L.length:=by unfold qau;rw[yR]
 by_cases X:qck L=true
 rotate_left
 ·have X:=ye.2 X
  have Y:qc5 T.data.toList (qau L)=(([],[]),⟨1,0,[],0⟩):=by
   unfold qc5;rw[if_pos];rw[z,qlv];unfold qck at X;by_cases Z:L.length<=6
   ·rw[yV Z,Bool.true_and]at X;exact .inr X
   ·exact .inl (by omega)
  rw[Y];refine(qxg T v L w J X).mono ?_;rintro ed w' ⟨rfl,hb⟩;exact⟨⟨_,_,_,rfl,fun q=>by cases q⟩,hb⟩
 obtain⟨f1,f2,f3⟩:=qh9 X;rw[qs3 (by omega) (by rw[qlv];exact f2)];by_cases hc:(Pl.qa5 (([],T.data.toList)::qau L)).1.code=0
 rotate_left
 ·rw[if_pos hc]
  refine(q8v T v L w J X U V y _ rfl hc).mono ?_;rintro ed w' ⟨rfl,hb⟩;exact⟨⟨_,_,_,rfl,fun q=>absurd q hc⟩,hb⟩
 rw[if_neg (fun q=>q hc)];have hS:=q0d T.data.toList (qau L) (by omega) (by rw[qlv];exact f2) hc;have hn:(Pl.qa5 (([],T.data.toList)::qau L)).1=Pl.Ft.none:=Pl.qyp _ hc;have hr:Pl.qa5 (([],T.data.toList)::qau L)=(Pl.Ft.none,(Pl.qa5 (([],T.data.toList)::qau L)).2):=by rw[<-hn]
 have D:T.data.toList.length=T.size:=by simp
 rw[D];generalize (Pl.qa5 (([],T.data.toList)::qau L)).2=S at hS hr;refine(q8w I T v L w J X O U V y S hr hS).mono ?_;rintro ed w' ⟨⟨ao,n,cap,rfl,h1⟩,hb⟩;by_cases hk:(qew S T.size).2.code=0
 ·rw[if_neg (fun q=>q hk)]
  rw[qxh S T.size hk]at h1 |-;exact⟨⟨ao,n,cap,rfl,fun _=>h1 rfl⟩,hb⟩
 ·rw[if_pos hk]
  exact⟨⟨ao,n,cap,rfl,fun q=>absurd q hk⟩,hb⟩
end
end Go.Proofs.YtfkhljmiehdgmaaGreatDoor
