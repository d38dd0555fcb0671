/-
  Steps of the proof.
-/
import Derived.Test.YtfkhljmiehdgmaaGreatDoorCuAP
import Derived.Lib.FieldsP
import Derived.Lib.SpaceUEq
import Derived.ProofKit
import Derived.OpenShut
import Derived.Lib.LaidTab
import Derived.Test.YtfkhljmiehdgmaaGreatDoorTie
import Derived.Deep.DeepHandedRow
import Derived.Shelf.Vars
set_option maxRecDepth 100000
set_option maxHeartbeats 40000000
namespace Go.Proofs.YtfkhljmiehdgmaaGreatDoor
open Go.RowKit Go.Proofs.Tryz Pl
theorem qs7(n:zU)(b:UInt8)(w:World)(y:n.length<=9) :
  zC 135 #[.string ⟨n.toArray⟩,zJ b.toNat] w fun e w'=>e=.returned (.string ⟨(qc8 n b).toArray⟩)/\zW w w':=by
 by_cases z:n.length=9
 ·exact(q1b n b w z).mono fun e w' h=>⟨h.1,h.2▸xL _ _⟩
 ·exact(q1a n b w y z).mono fun e w' h=>⟨h.1,h.2▸zB _⟩
theorem zfr(x:Sx)(tq:Nat)(b:UInt8)(w:World)(ht:PTabs w)(hn:x.st.name.length<=9)(hm:x.st.mode<=33)(he:x.st.esc=false)(hx:-1000<=x.ma.hex/\x.ma.hex<=1000)(hy:-1000<=x.ma.pct/\x.ma.pct<=1000) :
  zC 96 #[qar x,zJ tq,zJ b.toNat] w fun e w'=>e=.returned (qar (x.led tq b))/\zW w w':=by
 have hS:=fun w=>q4l x b w hx hy;have hN:=fun(w:World) ht=>(q8p x w ht).mono (R':=fun e w'=>e=.returned (qar ⟨x.st.named,x.ma⟩)/\zW w w') fun e w' h=>⟨h.1,h.2▸(zB _).alloc (by simp) _⟩;obtain⟨⟨M,nm,el,kd,rd,es⟩,k⟩:=x;simp only at hn hm he hS hN;subst he;obtain⟨V,hV⟩:∃V,Sx.led ⟨⟨M,nm,el,kd,rd,false⟩,k⟩ tq b=V:=⟨_,rfl⟩;rw[hV];have T:V=if tq=M then⟨St.led1 ⟨M,nm,el,kd,rd,false⟩ tq b,if tq=34 then Mk.none else qch kd M k b⟩else⟨St.led1 (St.named ⟨M,nm,el,kd,rd,false⟩) tq b,if tq=34 then Mk.none else Mk.none⟩:=by
  rw[<-hV];unfold Sx.led St.led qms;by_cases e:tq=M
  ·rw[if_pos e,if_pos e]
   by_cases e2:tq=34
   ·rw[if_neg (fun q=>q.2 e2),if_pos e2]
   ·rw[if_pos ⟨e,e2⟩,if_neg e2]
  ·rw[if_neg e,if_neg e,if_neg (fun q=>e q.1),ite_self]
 obtain⟨n1,n2,n3,U⟩:∃n1 n2 n3,St.named ⟨M,nm,el,kd,rd,false⟩=⟨M,n1,n2,n3,rd,false⟩/\n1.length<=9:=by
  unfold St.named
  repeat' split
  all_goals exact⟨_,_,_,rfl,by simp⟩
 rw[U.1]at T hN;generalize hQ:(fun(e:Ending) (w':World)=>e=.returned (qar V)/\zW w w')=Q;have H0:=zH (Sx2.start ht (⟨⟨M,nm,el,kd,rd,false⟩,k⟩:Sx));have HF:Hid (∀(wx:World) (q:Sx) (a:Act),wx.heap[w.heap.size+1]?=zK (qaf ⟨⟨0,[],[],0,0,false⟩,⟨false,0,0,0⟩⟩) 162->zW w wx->V=q->a.tmps.getD 6 undef=zP (w.heap.size+1)->a.defers=[]->bodyPost prog f96 Q .ret a (qdf wx (w.heap.size+1) (zJ (q.st.mode:Int)) (.string ⟨q.st.name.toArray⟩) (.string ⟨q.st.elem.toArray⟩) (zI q.st.kind) (zI (q.st.read:Int)) (.bool q.ma.ref) (.bool q.st.esc) (zI q.ma.hex) (zI q.ma.pct) (zI q.ma.far))):=by
  intro wx q a h hl e h6 hd;refine qle results96 (w.heap.size+1) _ underlying162 rfl (by kernel_rfl) h6 ⟨_,_,h,rfl⟩ hd _ _ _ _ _ _ _ _ _ _ ?_;rw[<-hQ,e];exact⟨rfl,qfe hl (by omega) _ _ _ _ _ _ _ _ _ _⟩
 have HV:=zH T;have D:=zH ht;have X:=(show Hid (nm.length<=9/\n1.length<=9)from⟨hn,U.2⟩);unfold qar at hS hN |-;unfold qu5 qgg at hS;unfold qaf bs at H0 hS hN |-;have HS:=zH hS;have HN:=zH hN;clear hV T hQ hS hN hn U ht;go_enter func96,ntmps96
 go_upto_region 1 with fail
 generalize World.alloc _ _=w1 at H0 |-;obtain⟨q0,q1,q2,q3,q4,q5,q6,q7,q8,q9⟩:=qcq H0.out.sp;obtain⟨g0,g1,g2,g3,g4,g5,g6,g7,g8,g9⟩:=qgm H0.out.sp;go_upto_if 10 with fail
 go_cut [] (fun wx=>∃(n1 n2:zU) (n3:Int) (k1:Mk),Hid (Sx2 w wx ⟨⟨M,n1,n2,n3,rd,false⟩,k1⟩/\n1.length<=9/\V=⟨St.led1 ⟨M,n1,n2,n3,rd,false⟩ tq b,if tq=34 then Mk.none else k1⟩))
 case first=>
  by_cases e:tq=M
  ·subst e
   have hv:=HV.out;rw[if_pos rfl]at hv;have Y:=zH hv;clear hv HV;go_wp2_with (go_at_call 133;refine(HS.out _).mono ?_;rintro e w3 ⟨rfl,z⟩;have H3:=zH (H0.out.kept z);clear z;have r0:=qcq H3.out.sp;have f0:=qgm H3.out.sp)
   go_meet
   exact⟨nm,el,kd,_,H3.out.marks D.out false (qch kd tq k b),X.out.1,Y.out⟩
  ·have e':((tq:Int)==(M:Int))=false:=yf.2 (by omega)
   have hv:=HV.out;rw[if_neg e]at hv;have Y:=zH hv;clear hv HV e;go_wp2_with (go_at_call 134;refine(HN.out _ H0.out.tabs).mono ?_;rintro e w3 ⟨rfl,z⟩;have H3:=zH (H0.out.kept z);clear z;have r0:=qcq H3.out.sp;have f0:=qgm H3.out.sp)
   go_meet
   exact⟨n1,n2,n3,_,(H3.out.all D.out ⟨⟨M,n1,n2,n3,rd,false⟩,k⟩).marks D.out false Mk.none,X.out.2,Y.out⟩
 case rest=>
 obtain⟨n1,n2,n3,k1,HC⟩:=hcut;have H1:=zH HC.out.1;have O:=zH HC.out.2;clear H0 HV X HC HS HN q0 q1 q2 q3 q4 q5 q6 q7 q8 q9 g0 g1 g2 g3 g4 g5 g6 g7 g8 g9;have q0:=qaa H1.out.sp 0 _ rfl;have g0:=xH _ _ 0 _ _ H1.out.sp;go_upto_region 6 with fail
 have H2:Hid (Sx2 w (wc.setCell (zO w.heap.size 0) (zJ tq)) ⟨⟨tq,n1,n2,n3,rd,false⟩,k1⟩):=H1.out.put D.out 0 _ (by rfl);generalize World.setCell wc _ _=w2 at H2 |-;clear H1 q0 g0;obtain⟨q0,q1,q2,q3,q4,q5,q6,q7,q8,q9⟩:=qcq H2.out.sp;obtain⟨g0,g1,g2,g3,g4,g5,g6,g7,g8,g9⟩:=qgm H2.out.sp;by_cases e34:tq=34
 ·subst e34
  have r0:=qcq H2.out.res;have f0:=qgm H2.out.res;have HW:=zH (fun w=>(show PTabs w->zC 136 #[.string ⟨n2.toArray⟩] w fun e w'=>e=.returned (qar ⟨qad n2,Mk.none⟩)/\zW w w' from fun ht=>(q34 n2 w ht).mono fun e w' h=>⟨h.1,h.2▸zB _⟩));have J:Hid (V=⟨qad n2,Mk.none⟩):=O.out.2;clear q0 q1 q3 q4 q5 q6 q7 q8 q9 g0 g1 g2 g3 g4 g5 g6 g7 g8 g9 r0 f0;generalize qad n2=I at HW J;unfold qar qaf bs at HW;go_wp2_with (go_at_call 136;refine(HW.out _ H2.out.tabs).mono ?_;rintro e w3 ⟨rfl,z⟩;have H3:=zH (H2.out.kept z);clear z;have r0:=qcq H3.out.res;have f0:=qgm H3.out.res)
  exact HF.out _ ⟨I,Mk.none⟩ _ H3.out.res H3.out.low J.out rfl rfl
 have J:Hid (V=⟨St.led1 ⟨M,n1,n2,n3,rd,false⟩ tq b,k1⟩):=by have:=O.out.2;rw[if_neg e34]at this;exact this
 go_upto_block 0 with fail
 go_cut [22,29,37,41] (fun s22 s29 s37 s41 wx=>∃y:Sx,Hid (Sx2 w wx y/\V=y))
 case first=>
  by_cases k3:tq=3
  ·subst k3
   go_wp2_with (go_at_call 135;refine(qs7 n1 b _ O.out.1).mono ?_;rintro e w3 ⟨rfl,z⟩;have H3:=zH (H2.out.kept z);clear z;have r0:=qcq H3.out.sp;have f0:=qgm H3.out.sp)
   go_meet
   exact⟨_,H3.out.put (s':=⟨⟨3,qc8 n1 b,n2,n3,rd,false⟩,k1⟩) D.out 1 _ (by rfl),J.out⟩
  by_cases k5:tq=5
  ·subst k5
   go_wp2_with (go_at_call 135;refine(qs7 n1 b _ O.out.1).mono ?_;rintro e w3 ⟨rfl,z⟩;have H3:=zH (H2.out.kept z);clear z;have r0:=qcq H3.out.sp;have f0:=qgm H3.out.sp)
   go_meet
   exact⟨_,(H3.out.put (s':=⟨⟨5,qc8 n1 b,n2,n3,rd,false⟩,k1⟩) D.out 1 _ (by rfl)).put (s':=⟨⟨5,qc8 n1 b,n2,0,rd,false⟩,k1⟩) D.out 3 _ (by rfl),J.out⟩
  by_cases k4:tq=4\/tq=10
  ·rcases k4 with rfl | rfl
   all_goals
    go_wp2
    go_meet
    exact⟨_,H2.out.put (s':=⟨⟨_,n1,n2,0,rd,false⟩,k1⟩) D.out 3 _ (by rfl),J.out⟩
  have hk:((tq:Int)==3)=false/\((tq:Int)==5)=false/\((tq:Int)==4)=false/\((tq:Int)==10)=false/\((tq:Int)==34)=false:=by simp;omega
  obtain⟨e1,e2,e3,e4,e5⟩:=hk;have Z:Hid (V=⟨⟨tq,n1,n2,n3,rd,false⟩,k1⟩):=by have:=J.out;unfold St.led1 at this;rw[if_neg k3,if_neg k5,if_neg k4,if_neg e34]at this;exact this
  clear k3 k5 k4 e34;go_wp2
  go_meet
  exact⟨_,H2.out,Z.out⟩
 case rest=>
 obtain⟨y,HY⟩:=hcut;clear q0 q1 q2 q3 q4 q5 q6 q7 q8 q9 g0 g1 g2 g3 g4 g5 g6 g7 g8 g9 H2 J O;obtain⟨q0,q1,q2,q3,q4,q5,q6,q7,q8,q9⟩:=qcq HY.out.1.sp;have r0:=qcq HY.out.1.res;have f0:=qgm HY.out.1.res;unfold bs at q1 q2;go_wp2
 exact HF.out _ y _ HY.out.1.res HY.out.1.low HY.out.2 rfl rfl
theorem q2x(a b c:Nat):or3 a b c=if a≠0 then a else if b≠0 then b else c:=rfl
theorem zg8(a b c:Nat)(g:Nat)(w:World)(D:w.cell? (zO g 0)=some (zJ (a:Int)))(I:w.cell? (zO g 1)=some (zJ (b:Int)))(J:w.cell? (zO g 2)=some (zJ (c:Int))) :
  zC 97 #[zF g 3 3] w (zQ (zJ (or3 a b c:Nat)) w):=by
 generalize z:or3 a b c=r;have O:Hid (or3 a b c=r):=z;clear z;go_enter func97,ntmps97
 go_wp2
 go_loop [5,8] (fun _ i=>∃k:Nat,k<=3/\i=zI k/\(1<=k->a=0)/\(2<=k->b=0)/\(3<=k->c=0)) (fun _ i=>3 - (intOf i).toNat)
 case atStart=>exact⟨0,by omega,rfl,by omega,by omega,by omega⟩
 case round=>
  obtain⟨k,T,rfl,g1,g2,g3⟩:=hrel;have U:Hid (1<=k->a=0):=g1;have V:Hid (2<=k->b=0):=g2;have X:Hid (3<=k->c=0):=g3;clear g1 g2 g3;rcases(show k=0\/k=1\/k=2\/k=3 by omega)with rfl|rfl|rfl|rfl
  ·by_cases Y:a=0
   ·have Z:Hid (a=0):=Y
    have y:((a:Int) != 0)=false:=by rw[Y];rfl
    clear Y;go_wp2
    go_round
    case rel=>exact⟨1,by omega,rfl,fun _=>Z.out,by omega,by omega⟩
    case measure=>simp[intOf]
   ·have q0:a≠0:=Y
    have HV:Hid (r=a):=by show _=_;rw[<-O.out,q2x,if_pos q0]
    have y:((a:Int) != 0)=true:=by rw[bne_iff_ne];omega
    clear Y q0;go_wp2
    go_ret
    exact⟨qal (by rw[HV.out]),rfl⟩
  ·by_cases Y:b=0
   ·have Z:Hid (b=0):=Y
    have y:((b:Int) != 0)=false:=by rw[Y];rfl
    clear Y;go_wp2
    go_round
    case rel=>exact⟨2,by omega,rfl,fun _=>U.out (by omega),fun _=>Z.out,by omega⟩
    case measure=>simp[intOf]
   ·have q0:b≠0:=Y
    have HV:Hid (r=b):=by show _=_;rw[<-O.out,q2x,if_neg (by simp[U.out (by omega)]),if_pos q0]
    have y:((b:Int) != 0)=true:=by rw[bne_iff_ne];omega
    clear Y q0;go_wp2
    go_ret
    exact⟨qal (by rw[HV.out]),rfl⟩
  ·by_cases Y:c=0
   ·have Z:Hid (c=0):=Y
    have y:((c:Int) != 0)=false:=by rw[Y];rfl
    clear Y;go_wp2
    go_round
    case rel=>exact⟨3,by omega,rfl,fun _=>U.out (by omega),fun _=>V.out (by omega),fun _=>Z.out⟩
    case measure=>simp[intOf]
   ·have q0:c≠0:=Y
    have HV:Hid (r=c):=by show _=_;rw[<-O.out,q2x,if_neg (by simp[U.out (by omega)]),if_neg (by simp[V.out (by omega)])]
    have y:((c:Int) != 0)=true:=by rw[bne_iff_ne];omega
    clear Y q0;go_wp2
    go_ret
    exact⟨qal (by rw[HV.out]),rfl⟩
  ·have HV:Hid (r=0):=by show _=_;rw[<-O.out,q2x,if_neg (by simp[U.out (by omega)]),if_neg (by simp[V.out (by omega)])];exact X.out (by omega)
   go_wp2
   go_ret
   exact⟨qal (by rw[HV.out];rfl),rfl⟩
theorem q8l(a b c g:Nat)(w:World)(t:TypeId)(y:w.heap.size=g) :
  zC 97 #[zF g 3 3] (w.alloc (.cells #[zJ (a:Int),zJ (b:Int),zJ (c:Int)] t)).drew fun e w'=>e=.returned (zJ (or3 a b c:Nat))/\(w.alloc (.cells #[zJ (a:Int),zJ (b:Int),zJ (c:Int)] t)).drew=w':=by
 subst y;have h:=qaa (xF w (.cells #[zJ (a:Int),zJ (b:Int),zJ (c:Int)] t));exact zg8 a b c _ _ (h 0 _ rfl) (h 1 _ rfl) (h 2 _ rfl)
variable{l:List Step}{m k:Nat}{c:UInt8}{r:Step}
theorem qi2(y:l[k]?=some r)(z:(l.take k).find? (hit m c)=none)(D:r.1=m)(I:among c r.2.1=true):lookup l m c=r.2.2:=by
 unfold lookup;rw[qo9 _ k r y z (by simp[hit,D,I])]
theorem qi1(y:l.length<=k)(z:(l.take k).find? (hit m c)=none):lookup l m c=0:=by
 rw[yp y]at z;unfold lookup;rw[z]
theorem qpe(h:¬r.1=m):hit m c r=false:=by simp[hit,h]
theorem qpd(h:among c r.2.1=false):hit m c r=false:=by simp[hit,h]
theorem q4j(m:Nat)(b:UInt8)(w:World)(J:PTabs w)(D:m<19) :
  zC 95 #[zJ m,zJ b.toNat] w (zQ (zJ (qc6 m b:Nat)) w):=by
 have O:=fun(k:Nat) (r:Step) (T:qbs[k]?=some r)=>q2n J.mt k r T;have I:(m:Int)<19:=by omega
 clear J;by_cases U:qbl b=true
 ·have V:Hid (qc6 m b=lookup qbs m 97):=by show _=_;unfold qc6 qec;rw[if_pos D,if_pos U]
  go_enter func95,ntmps95
  go_wp2_with (go_at_call 132;refine cm (qby b _) ?_)
  go_loop [5,12] (fun _ i=>∃k:Nat,k<=36/\i=zI k/\(qbs.take k).find? (hit m 97)=none) (fun _ i=>36 - (intOf i).toNat)
  case atStart=>exact⟨0,by omega,rfl,rfl⟩
  case round=>
   obtain⟨k,T,rfl,X⟩:=hrel;have Y:Hid ((qbs.take k).find? (hit m 97)=none):=X;clear X;by_cases y:k<36
   ·obtain⟨r,Z⟩:∃r,qbs[k]?=some r:=⟨_,yc (show k<qbs.length from y)⟩
    obtain⟨q0,q1,q2⟩:=O k r Z;unfold bs at q1;have HR:Hid (qbs[k]?=some r):=Z;clear Z O;by_cases hq:r.1=m
    ·have z:((r.1:Int)==(m:Int))=true:=by rw[hq];simp
     have HQ:Hid (r.1=m):=hq;clear hq;by_cases hb:among 97 r.2.1=true
     ·have HB:Hid (among 97 r.2.1=true):=hb
      clear hb;go_wp2_with (go_at_call 130;refine(qb7 97 _ r.2.1 _ rfl HB.out).mono ?_;rintro e w' ⟨x,hx,rfl,rfl⟩)
      go_ret
      exact⟨qal (by rw[V.out,qi2 HR.out Y.out HQ.out HB.out]),rfl⟩
     ·have HB:Hid (among 97 r.2.1=false):=ye.2 hb
      clear hb;go_wp2_with (go_at_call 130;refine cm (qci 97 _ r.2.1 _ rfl HB.out) ?_)
      go_round
      case rel=>exact⟨k+1,by omega,by go_num,qdb _ k r HR.out Y.out (qpd HB.out)⟩
      case measure=>simp[intOf];omega
    ·have z:((r.1:Int)==(m:Int))=false:=by rw[yf];omega
     have HQ:Hid (¬r.1=m):=hq;clear hq;go_wp2
     go_round
     case rel=>exact⟨k+1,by omega,by go_num,qdb _ k r HR.out Y.out (qpe HQ.out)⟩
     case measure=>simp[intOf];omega
   ·have HE:Hid (lookup qbs m 97=0):=qi1 (show qbs.length<=k by show 36<=k;omega) Y.out
    clear O;go_wp2
    go_ret
    exact⟨qal (by rw[V.out,HE.out];rfl),rfl⟩
 ·have U:=ye.2 U
  have V:Hid (qc6 m b=lookup qbs m b):=by show _=_;unfold qc6 qec;rw[if_pos D,U];rfl
  go_enter func95,ntmps95
  go_wp2_with (go_at_call 132;refine cm (qby b _) ?_)
  go_loop [5,12] (fun _ i=>∃k:Nat,k<=36/\i=zI k/\(qbs.take k).find? (hit m b)=none) (fun _ i=>36 - (intOf i).toNat)
  case atStart=>exact⟨0,by omega,rfl,rfl⟩
  case round=>
   obtain⟨k,T,rfl,X⟩:=hrel;have Y:Hid ((qbs.take k).find? (hit m b)=none):=X;clear X;by_cases y:k<36
   ·obtain⟨r,Z⟩:∃r,qbs[k]?=some r:=⟨_,yc (show k<qbs.length from y)⟩
    obtain⟨q0,q1,q2⟩:=O k r Z;unfold bs at q1;have HR:Hid (qbs[k]?=some r):=Z;clear Z O;by_cases hq:r.1=m
    ·have z:((r.1:Int)==(m:Int))=true:=by rw[hq];simp
     have HQ:Hid (r.1=m):=hq;clear hq;by_cases hb:among b r.2.1=true
     ·have HB:Hid (among b r.2.1=true):=hb
      clear hb;go_wp2_with (go_at_call 130;refine(qb7 b _ r.2.1 _ rfl HB.out).mono ?_;rintro e w' ⟨x,hx,rfl,rfl⟩)
      go_ret
      exact⟨qal (by rw[V.out,qi2 HR.out Y.out HQ.out HB.out]),rfl⟩
     ·have HB:Hid (among b r.2.1=false):=ye.2 hb
      clear hb;go_wp2_with (go_at_call 130;refine cm (qci b _ r.2.1 _ rfl HB.out) ?_)
      go_round
      case rel=>exact⟨k+1,by omega,by go_num,qdb _ k r HR.out Y.out (qpd HB.out)⟩
      case measure=>simp[intOf];omega
    ·have z:((r.1:Int)==(m:Int))=false:=by rw[yf];omega
     have HQ:Hid (¬r.1=m):=hq;clear hq;go_wp2
     go_round
     case rel=>exact⟨k+1,by omega,by go_num,qdb _ k r HR.out Y.out (qpe HQ.out)⟩
     case measure=>simp[intOf];omega
   ·have HE:Hid (lookup qbs m b=0):=qi1 (show qbs.length<=k by show 36<=k;omega) Y.out
    clear O;go_wp2
    go_ret
    exact⟨qal (by rw[V.out,HE.out];rfl),rfl⟩
theorem q0b(m:Nat)(b:UInt8)(w:World)(J:PTabs w)(D:¬m<19) :
  zC 95 #[zJ m,zJ b.toNat] w (zQ (zJ (qc6 m b:Nat)) w):=by
 have O:=fun(k:Nat) (r:Step) (T:qbh[k]?=some r)=>q2n J.ct k r T;have I:decide ((m:Int)<19)=false:=by rw[yO];omega
 clear J;by_cases U:qbl b=true
 ·have V:Hid (qc6 m b=lookup qbh m 97):=by show _=_;unfold qc6 qec;rw[if_neg D,if_pos U]
  go_enter func95,ntmps95
  go_wp2_with (go_at_call 132;refine cm (qby b _) ?_)
  go_loop [6,35] (fun _ i=>∃k:Nat,k<=22/\i=zI k/\(qbh.take k).find? (hit m 97)=none) (fun _ i=>22 - (intOf i).toNat)
  case atStart=>exact⟨0,by omega,rfl,rfl⟩
  case round=>
   obtain⟨k,T,rfl,X⟩:=hrel;have Y:Hid ((qbh.take k).find? (hit m 97)=none):=X;clear X;by_cases y:k<22
   ·obtain⟨r,Z⟩:∃r,qbh[k]?=some r:=⟨_,yc (show k<qbh.length from y)⟩
    obtain⟨q0,q1,q2⟩:=O k r Z;unfold bs at q1;have HR:Hid (qbh[k]?=some r):=Z;clear Z O;by_cases hq:r.1=m
    ·have z:((r.1:Int)==(m:Int))=true:=by rw[hq];simp
     have HQ:Hid (r.1=m):=hq;clear hq;by_cases hb:among 97 r.2.1=true
     ·have HB:Hid (among 97 r.2.1=true):=hb
      clear hb;go_wp2_with (go_at_call 130;refine(qb7 97 _ r.2.1 _ rfl HB.out).mono ?_;rintro e w' ⟨x,hx,rfl,rfl⟩)
      go_ret
      exact⟨qal (by rw[V.out,qi2 HR.out Y.out HQ.out HB.out]),rfl⟩
     ·have HB:Hid (among 97 r.2.1=false):=ye.2 hb
      clear hb;go_wp2_with (go_at_call 130;refine cm (qci 97 _ r.2.1 _ rfl HB.out) ?_)
      go_round
      case rel=>exact⟨k+1,by omega,by go_num,qdb _ k r HR.out Y.out (qpd HB.out)⟩
      case measure=>simp[intOf];omega
    ·have z:((r.1:Int)==(m:Int))=false:=by rw[yf];omega
     have HQ:Hid (¬r.1=m):=hq;clear hq;go_wp2
     go_round
     case rel=>exact⟨k+1,by omega,by go_num,qdb _ k r HR.out Y.out (qpe HQ.out)⟩
     case measure=>simp[intOf];omega
   ·have HE:Hid (lookup qbh m 97=0):=qi1 (show qbh.length<=k by show 22<=k;omega) Y.out
    clear O;go_wp2
    go_ret
    exact⟨qal (by rw[V.out,HE.out];rfl),rfl⟩
 ·have U:=ye.2 U
  have V:Hid (qc6 m b=lookup qbh m b):=by show _=_;unfold qc6 qec;rw[if_neg D,U];rfl
  go_enter func95,ntmps95
  go_wp2_with (go_at_call 132;refine cm (qby b _) ?_)
  go_loop [6,35] (fun _ i=>∃k:Nat,k<=22/\i=zI k/\(qbh.take k).find? (hit m b)=none) (fun _ i=>22 - (intOf i).toNat)
  case atStart=>exact⟨0,by omega,rfl,rfl⟩
  case round=>
   obtain⟨k,T,rfl,X⟩:=hrel;have Y:Hid ((qbh.take k).find? (hit m b)=none):=X;clear X;by_cases y:k<22
   ·obtain⟨r,Z⟩:∃r,qbh[k]?=some r:=⟨_,yc (show k<qbh.length from y)⟩
    obtain⟨q0,q1,q2⟩:=O k r Z;unfold bs at q1;have HR:Hid (qbh[k]?=some r):=Z;clear Z O;by_cases hq:r.1=m
    ·have z:((r.1:Int)==(m:Int))=true:=by rw[hq];simp
     have HQ:Hid (r.1=m):=hq;clear hq;by_cases hb:among b r.2.1=true
     ·have HB:Hid (among b r.2.1=true):=hb
      clear hb;go_wp2_with (go_at_call 130;refine(qb7 b _ r.2.1 _ rfl HB.out).mono ?_;rintro e w' ⟨x,hx,rfl,rfl⟩)
      go_ret
      exact⟨qal (by rw[V.out,qi2 HR.out Y.out HQ.out HB.out]),rfl⟩
     ·have HB:Hid (among b r.2.1=false):=ye.2 hb
      clear hb;go_wp2_with (go_at_call 130;refine cm (qci b _ r.2.1 _ rfl HB.out) ?_)
      go_round
      case rel=>exact⟨k+1,by omega,by go_num,qdb _ k r HR.out Y.out (qpd HB.out)⟩
      case measure=>simp[intOf];omega
    ·have z:((r.1:Int)==(m:Int))=false:=by rw[yf];omega
     have HQ:Hid (¬r.1=m):=hq;clear hq;go_wp2
     go_round
     case rel=>exact⟨k+1,by omega,by go_num,qdb _ k r HR.out Y.out (qpe HQ.out)⟩
     case measure=>simp[intOf];omega
   ·have HE:Hid (lookup qbh m b=0):=qi1 (show qbh.length<=k by show 22<=k;omega) Y.out
    clear O;go_wp2
    go_ret
    exact⟨qal (by rw[V.out,HE.out];rfl),rfl⟩
theorem q4k(m:Nat)(b:UInt8)(w:World)(y:PTabs w) :
  zC 95 #[zJ m,zJ b.toNat] w (zQ (zJ (qc6 m b:Nat)) w):=by
 by_cases h:m<19
 ·exact q4j m b w y h
 ·exact q0b m b w y h
namespace Pl
theorem q9w(kd:Int)(l:zU):(qgn kd l).length<=24*l.length+8:=by
 have y:=qy0 l;unfold qgn;by_cases a:kd=1
 ·rw[if_pos a];have:=qhe 6 q4c (qd3 l);unfold qjh;omega
 rw[if_neg a];by_cases b:kd=3
 ·rw[if_pos b];have:=qhe 6 qnq (qd3 l);unfold qjy;omega
 rw[if_neg b];by_cases c:kd=2
 ·rw[if_pos c]
  unfold qf3;split
  ·simp[qv3]
  ·have:=qhe 6 qnq ((qd3 l).drop (qb2 (qd3 l)))
   rw[yM]at this;have z:=qso (qd3 l);rw[yJ,yP];unfold qjy;omega
 rw[if_neg c];by_cases d:kd=4
 ·rw[if_pos d];have:=qws (qd3 l);omega
 rw[if_neg d];by_cases e:kd=5
 ·rw[if_pos e];have:=qhe 6 qz9 (qd3 l);unfold qwo;omega
 rw[if_neg e];simp
end Pl
section
open Go.Lib
def qcm(x:Nat):Bool:=decide (x=9\/x=10\/x=12\/x=13\/x=32)
theorem qrr(b:UInt8):among b qag=qcm b.toNat:=by
 have h:∀i:Fin 256,among (UInt8.ofNat i.val) qag=qcm i.val:=by decide +kernel
 have:=h ⟨b.toNat,b.toNat_lt⟩;simpa using this
theorem qgc(x:Nat)(h:128<=x):qcm x=false:=by
 unfold qcm;rw[yO];omega
theorem q4v(n b0 b1 b2 b3:Nat)(h:qcm (decodeN n b0 b1 b2 b3).1=true):(decodeN n b0 b1 b2 b3).2=1/\(decodeN n b0 b1 b2 b3).1=b0:=by
 have y:(decodeN n b0 b1 b2 b3).1<128:=by
  rcases Nat.lt_or_ge (decodeN n b0 b1 b2 b3).1 128 with z|z
  ·exact z
  ·rw[qgc _ z]at h;cases h
 rcases decodeN_cases n b0 b1 b2 b3 with⟨c,e⟩|⟨c1,c2,c3,cv,e⟩|⟨c1,c2,c3,c4,cv,e⟩|⟨c,e⟩|e
 ·rw[e];exact⟨rfl,rfl⟩
 ·rw[e]at y;dsimp only at y;omega
 ·rw[e]at y;dsimp only at y;omega
 ·omega
 ·rw[e]at y;dsimp only at y;omega
theorem q4u(l:zU)(y:l≠[])(D:qcm (decodeL l).1=false):(decodeL l).2<=l.length/\∀j,j<(decodeL l).2->qcm (l.getD j 0).toNat=false:=by
 have I:0<l.length:=List.length_pos_iff.2 y;have J:=decodeN_conts l.length (l.getD 0 0).toNat (l.getD 1 0).toNat (l.getD 2 0).toNat (l.getD 3 0).toNat;rw[Go.Lib.decodeL_N]at D |-;obtain⟨c2,c3,c4,c5⟩:=J;refine⟨by omega,fun j O=>?_⟩;have z:j<4:=by omega
 rcases(show j=0\/j=1\/j=2\/j=3 by omega)with rfl|rfl|rfl|rfl
 ·by_cases T:(l.getD 0 0).toNat<128
  ·have e:decodeN l.length (l.getD 0 0).toNat (l.getD 1 0).toNat (l.getD 2 0).toNat (l.getD 3 0).toNat=((l.getD 0 0).toNat,1):=by
    unfold decodeN;rw[if_pos T]
   rw[e]at D;exact D
  ·exact qgc _ (by omega)
 ·exact qgc _ (by have:=(c2 (by omega)).1;omega)
 ·exact qgc _ (by have:=(c3 (by omega)).1;omega)
 ·exact qgc _ (by have:=(c4 (by omega)).1;omega)
theorem qr9:∀(k:Nat) (cur l:zU),k<=l.length->(∀j,j<k->qcm (l.getD j 0).toNat=false)->qbo cur l=qbo (cur++l.take k) (l.drop k)
 |0,cur,l,_,_=>by simp
 |k+1,cur,[],h,_=>by simp at h
 |k+1,cur,b::t,h,hz=>by
   have y:=hz 0 (by omega);rw[List.getD_cons_zero]at y;have z:qbo cur (b::t)=qbo (cur++[b]) t:=by
    rw[qbo,qrr,y];rfl
   rw[z,qr9 k (cur++[b]) t (by simp at h;omega) (fun j D=>by have:=hz (j+1) (by omega);simpa using this)];simp
theorem qzo(s:zT):∀(f pos:Nat) (st:Option Nat) (acc:List (Nat×Nat)),s.size<=pos+f->pos<=s.size->(∀a,st=some a->a<pos) ->
  acc.map (fun p=>pieceU s.data.toList p.1 p.2)++qbo (openPiece s.data.toList st pos) (s.data.toList.drop pos)=(closeSpans s (spansFromP qcm s f pos st acc)).map (fun p=>pieceU s.data.toList p.1 p.2):=by
 have D:∀(f:Nat) (st:Option Nat) (acc:List (Nat×Nat)),(∀a,st=some a->a<s.size) ->
   acc.map (fun p=>pieceU s.data.toList p.1 p.2)++qbo (openPiece s.data.toList st s.size) (s.data.toList.drop s.size)=(closeSpans s (spansFromP qcm s f s.size st acc)).map (fun p=>pieceU s.data.toList p.1 p.2):=by
  intro f st acc y;have hd:s.data.toList.drop s.size=[]:=List.drop_eq_nil_of_le (by rw[<-size_eq];exact yg _);rw[hd,spansFromP_end _ s _ _ _ _ (Nat.lt_irrefl _)];cases st with
  |none=>simp[closeSpans,openPiece,qbo]
  |some a=>
    have:=pieceU_ne s.data.toList a s.size (y a rfl) (by rw[<-size_eq];exact yg _);simp[closeSpans,openPiece,qbo,this]
 intro f
 induction f with
 |zero=>
   intro pos st acc h hp y;obtain rfl:pos=s.size:=by omega
   exact D 0 st acc y
 |succ f IH=>
   intro pos st acc h hp y;by_cases Y:pos<s.size
   rotate_left
   ·obtain rfl:pos=s.size:=by omega
    exact D (f+1) st acc y
   ·have T:s.data.toList.drop pos≠[]:=by
     intro h0;have:=yE List.length h0;rw[yM,<-size_eq]at this;simp at this;omega
    have hw:=width_pos s pos;have U:pos+(Utf8.decode s pos).2<=s.size:=by
     have:=decodeN_le_n' (s.size - pos) (s.get! pos).toNat (s.get! (pos+1)).toNat (s.get! (pos+2)).toNat (s.get! (pos+3)).toNat (by omega);rw[<-decode_at]at this;omega
    simp only[spansFromP,if_pos Y];cases z:qcm (Utf8.decode s pos).1 with
    |true=>
      simp only[if_true];have I:=q4v _ _ _ _ _ (by rw[decode_N]at z;exact z);rw[<-decode_N]at I;obtain⟨o1,o2⟩:=I;obtain⟨b,t,J⟩:∃b t,s.data.toList.drop pos=b::t:=by
       cases e:s.data.toList.drop pos with
       |nil=>exact absurd e T
       |cons b t=>exact⟨b,t,rfl⟩
      have hb:qcm b.toNat=true:=by
       rw[o2]at z;have:s.data.toList.getD pos 0=b:=by
        have:=yE (fun l=>l.getD 0 0) J;simpa [getD_dropU]using this
       rw[this]at z;exact z
      have ht:s.data.toList.drop (pos+1)=t:=by
       have:=yE (List.drop 1) J;simpa [List.drop_drop]using this
      have V:∀cur,qbo cur (b::t)=if cur=[]then qbo [] t else cur::qbo [] t:=fun cur=>by
       rw[qbo,qrr,hb];rfl
      rw[o1];cases st with
      |none=>
        have ih:=IH (pos+1) none acc (by omega) (by omega) (fun a h=>by cases h);rw[J,V];rw[ht]at ih;simpa [openPiece]using ih
      |some a=>
        have Z:=pieceU_ne s.data.toList a pos (y a rfl) (by rw[<-size_eq];omega);have ih:=IH (pos+1) none (acc++[(a,pos)]) (by omega) (by omega) (fun a h=>by cases h);rw[J,V];rw[ht]at ih;simpa [openPiece,Z]using ih
    |false=>
      simp only[Bool.false_eq_true,if_false];have O:=q4u _ T (by rw[decodeL_drop];exact z);rw[decodeL_drop]at O;have X:=fun cur=>qr9 _ cur _ O.1 O.2;simp only[yD]at X;rw[X];cases st with
      |none=>
        have ih:=IH (pos+(Utf8.decode s pos).2) (some pos) acc (by omega) U (fun a h=>by cases h;omega);have e:([]:zU)++(s.data.toList.drop pos).take (Utf8.decode s pos).2=pieceU s.data.toList pos (pos+(Utf8.decode s pos).2):=by
         unfold pieceU;rw[xC,Nat.add_sub_cancel_left]
        simp only[openPiece]at ih |-;rw[e];exact ih
      |some a=>
        have ih:=IH (pos+(Utf8.decode s pos).2) (some a) acc (by omega) U (fun b h=>by cases h;have:=y a rfl;omega);simp only[openPiece]at ih |-;rw[pieceU_grow _ _ _ _ (yj (y a rfl))];exact ih
theorem qya(s:zT):(goFieldsP qcm s).map (·.data.toList)=qfy s.data.toList:=by
 have h:=qzo s s.size 0 none [] (by omega) (yH _) (fun a h=>by cases h);simp only[List.map_nil,xC,openPiece,List.drop_zero]at h;unfold qfy goFieldsP spansOfP;rw[h,List.map_map]
 congr 1
 funext p;simp[pieceU]
end
def rdBl:zT:=⟨#[9,10,12,13,32]⟩
theorem q8c:∀pos,pos<5->Utf8.decode rdBl pos=((rdBl.data.toList.getD pos 0).toNat,1)/\(rdBl.data.toList.getD pos 0).toNat<128:=by
 intro pos h;rcases(show pos=0\/pos=1\/pos=2\/pos=3\/pos=4 by omega)with rfl|rfl|rfl|rfl|rfl<;>decide +kernel
theorem qq4(w:World):zC 244 #[.string ⟨#[9,10,12,13,32]⟩,.int .i32 65533] w (zR (zI (-1)) w):=by
 obtain⟨D,X⟩:∃D:zT,D=rdBl:=⟨_,rfl⟩;have J:(⟨#[9,10,12,13,32]⟩:zT)=D:=by rw[X];rfl
 rw[J];have U:D.size=5:=by rw[X];rfl
 have z:∀pos,pos<5->∃r:Nat,Utf8.decode D pos=(r,1)/\r<128:=fun pos h=>by
  rw[X];obtain⟨Y,Z⟩:=q8c pos h;exact⟨_,Y,Z⟩
 clear X J;go_enter func244,ntmps244
 go_wp2
 go_loopw [] (fun wr=>∃pos:Nat,wr.heap[w.heap.size]?=some (.stringIter D pos)/\zW w wr/\pos<=5) (fun wr=>5 - wr.iterPos w.heap.size)
 case atStart=>exact⟨0,World.iter_heap w D 0,zB _,by omega⟩
 case round=>
  obtain⟨pos,hit,O,V⟩:=hrel;by_cases hp:pos<D.size
  ·obtain⟨r,Y,Z⟩:=z pos (by omega)
   have T:=fun ty=>Lib.run_next_any_at (P:=prog) wr w.heap.size D pos ty hit hp;rw[Y]at T;have y:=Lib.iterAt_heap wr w.heap.size D pos (pos+1) hit;have I:=Lib.below_iterAt O (k:=w.heap.size) (by omega) D (pos+1);have hr:((r:Int)==65533)=false:=by rw[yf];omega
   clear Y;go_wp2
   go_roundw
   case rel=>exact⟨pos+1,y,I,by omega⟩
   case measure=>simp only[World.iterPos,y,hit];omega
  ·have T:=fun ty=>Lib.run_next_end_at (P:=prog) wr w.heap.size D pos ty hit hp
   go_wp2
   go_ret
   exact⟨rfl,O⟩
theorem qyj(r:Int)(D:128<=r)(I:Utf8.valid r=true):∃n:Nat,(Utf8.encode r).size=n+1/\1<=n/\n<=3/\∀h:n<(Utf8.encode r).size,128<=((Utf8.encode r)[n]'h).toNat:=by
 have z:¬r.toNat<0x80:=by omega
 have y:∀c:Nat,128<=(UInt8.ofNat (0x80+c % 64)).toNat:=fun c=>by
  rw[UInt8.toNat_ofNat'];omega
 by_cases J:r.toNat<0x800
 ·have e:Utf8.encode r=⟨#[UInt8.ofNat (0xC0+r.toNat / 64),UInt8.ofNat (0x80+r.toNat % 64)]⟩:=by
   unfold Utf8.encode;simp only[I,if_true];rw[if_neg z,if_pos J]
  generalize Utf8.encode r=E at e |-;subst e;exact⟨1,rfl,by omega,by omega,fun _=>y _⟩
 ·by_cases O:r.toNat<0x10000
  ·have e:Utf8.encode r=⟨#[UInt8.ofNat (0xE0+r.toNat / 4096),UInt8.ofNat (0x80+r.toNat / 64 % 64),UInt8.ofNat (0x80+r.toNat % 64)]⟩:=by
    unfold Utf8.encode;simp only[I,if_true];rw[if_neg z,if_neg J,if_pos O]
   generalize Utf8.encode r=E at e |-;subst e;exact⟨2,rfl,by omega,by omega,fun _=>y _⟩
  ·have e:Utf8.encode r=⟨#[UInt8.ofNat (0xF0+r.toNat / 262144),UInt8.ofNat (0x80+r.toNat / 4096 % 64),UInt8.ofNat (0x80+r.toNat / 64 % 64),UInt8.ofNat (0x80+r.toNat % 64)]⟩:=by
    unfold Utf8.encode;simp only[I,if_true];rw[if_neg z,if_neg J,if_neg O]
   generalize Utf8.encode r=E at e |-;subst e;exact⟨3,rfl,by omega,by omega,fun _=>y _⟩
theorem qpr(r:Int):Lib.validRune r=Utf8.valid r:=by
 unfold Lib.validRune Utf8.valid;rw[xh];simp only[yN,yU,yL];omega
theorem zag(r:Int)(w:World):(convert 21 9 (.int .i32 r)).run prog w=.ok (.string (Utf8.encode r)) w:=by
 unfold convert;simp[run_underlying underlying21,run_underlying underlying9,Conv.intToString,Result.andThen]
theorem q51(k:Nat)(c:UInt8)(z:128<=c.toNat):Lib.indexByte (rdBl.extract k 5).data.toList c=-1:=by
 rcases qer (rdBl.extract k 5).data.toList c with⟨_,a⟩|⟨a,_⟩
 ·exfalso
  have D:c∈(rdBl.extract k 5).data.toList:=List.contains_iff_mem.1 (by unfold among at a;simpa using a);rw[ByteArray.data_extract,Array.toList_extract,xA]at D;have y:c∈rdBl.data.toList:=List.mem_of_mem_drop (List.mem_of_mem_take D);have:∀b∈rdBl.data.toList,b.toNat<128:=by decide
  have:=this c y;omega
 ·exact a
theorem qr6(r:Int)(w:World)(h1:128<=r)(h2:r<=1114111)(h3:r≠65533):zC 244 #[.string ⟨#[9,10,12,13,32]⟩,.int .i32 r] w (zR (zI (-1)) w):=by
 obtain⟨D,hD⟩:∃D:zT,D=rdBl:=⟨_,rfl⟩;have J:(⟨#[9,10,12,13,32]⟩:zT)=D:=by rw[hD];rfl
 rw[J];have Z:(D.size:Int)=5:=by rw[hD];rfl
 have hv:=fun w=>utf8_ValidRune r w;have c1:¬r<128:=by omega
 have c2:(r==65533)=false:=by rw[yf];exact h3
 have c3:(0:Int)<=r:=by omega
 rw[qpr]at hv;by_cases y:Utf8.valid r=true
 rotate_left
 ·rw[ye.2 y]at hv
  have HV:=zH hv;clear hv y;go_enter func244,ntmps244
  go_wp2_with (go_at_call 253;refine(HV.out _).mono ?_;rintro e w' ⟨rfl,rfl⟩)
  go_ret
  exact⟨rfl,xL _ _⟩
 ·rw[y]at hv
  obtain⟨n,e1,e2,e3,e4⟩:=qyj r h1 y;have O:=zag r;generalize Utf8.encode r=E at e1 e4 O;have e5:n<E.size:=by omega
  have he:=e4 e5;have HV:=zH hv;have hE:(E.size:Int) - 1=(n:Int):=by omega
  have ha:(n:Int)<(E.size:Int):=by omega
  have T:n<D.size:=by omega
  have U:D[n].toNat<128:=by
   have h0:∀b∈rdBl.data.toList,b.toNat<128:=by decide
   refine h0 _ ?_;subst hD;exact yl (i:=n) (by rw[yc (by simpa using T)];rfl)
  have Ha:((D[n].toNat:Int) != (E[n].toNat:Int))=true:=by rw[bne_iff_ne];omega
  have I:=fun w=>(strings_IndexByte (D.extract (n+1) D.size) (E[n].toNat:Int) w).mono (fun _ w' h=>(⟨h.1,h.2.symm⟩:_/\w=w'));have z:Lib.indexByte (D.extract (n+1) D.size).data.toList (E[n].toNat:Int).toNat.toUInt8=-1:=by
   subst hD;rw[show rdBl.size=5 from rfl,Int.toNat_natCast];refine q51 _ _ ?_;rw[show(E[n].toNat.toUInt8)=E[n]from by simp];exact he
  rw[z]at I;have V:=zH I;have hb:(n:Int)<=3:=by omega
  have Hb:(1:Int)<=(n:Int):=by omega
  have X:(n:Int)<5:=by omega
  clear I z U hD J;clear hv y e4 e1 e2 e3 he h1 h2 h3;go_enter func244,ntmps244
  go_wp2_with (go_at_call 253;refine(HV.out _).mono ?_;rintro e w' ⟨rfl,rfl⟩)
  refine wp_scope_straight ?_;go_wp2
  have Y:(n:Int)<(D.size:Int):=by omega
  have hc:(0:Int)<=(n:Int)+1:=by omega
  have Hc:(n:Int)+1<=(D.size:Int):=by omega
  have He:(n:Int)+1<=5:=by omega
  have hf:((n:Int)+1).toNat=n+1:=by omega
  have Hf:IntKind.i64.wrap ((n:Int)+1)=(n:Int)+1:=by rw[IntKind.wrap_i64];omega
  go_loopw [9] (fun i wr=>i=zI n/\wr=w') (fun _ _=>0)
  case atStart=>exact⟨rfl,rfl⟩
  case round=>
   obtain⟨rfl,rfl⟩:=hrel;go_wp2
   refine wp_scope_straight ?_;go_wp2
   go_quiet (fail)
   go_wp2
   go_region_with (go_at_call 130;refine(V.out _).mono ?_;rintro e w'' ⟨rfl,rfl⟩)
   go_wp2
   show Exit.noGoto _ _ _ _;simp only[Exit.noGoto];go_wp2
   simp only[Exit.noGoto];go_wp2
   go_ret
   exact⟨rfl,qat (xL _ _) _⟩
theorem qn2(r:Int)(w:World)(y:128<=r)(z:r<=1114111):zC 233 #[.string ⟨#[9,10,12,13,32]⟩,.int .i32 r] w (zR (.bool false) w):=by
 have D:∀w,zC 244 #[.string ⟨#[9,10,12,13,32]⟩,.int .i32 r] w (zR (zI (-1)) w):=fun w=>by
  by_cases I:r=65533
  ·subst I;exact qq4 w
  ·exact qr6 r w y z I
 have J:=zH D;clear D y z;go_enter func233,ntmps233
 go_wp2_with (go_at_call 244;refine(J.out _).mono ?_;rintro e w' ⟨rfl,O⟩)
 go_ret
 exact⟨rfl,O⟩
theorem qur(x:Nat)(h:x<128):decide (0<=Lib.indexByte rdBl.data.toList ((x:Int).toNat.toUInt8))=qcm x:=by
 have y:∀x∈List.range 128,decide (0<=Lib.indexByte rdBl.data.toList ((x:Int).toNat.toUInt8))=qcm x:=by decide +kernel
 exact y x (xg.2 h)
theorem q1h(x:Nat)(w:World)(h:x<=1114111):zC 228 #[.int .i32 x] w (zR (.bool (qcm x)) w):=by
 have y:∀w,zC 233 #[.string ⟨#[9,10,12,13,32]⟩,.int .i32 x] w (zR (.bool (qcm x)) w):=fun w=>by
  by_cases z:x<128
  ·rw[<-qur x z]
   refine(strings_ContainsRune_ascii rdBl x w (by omega) (by omega)).mono ?_;rintro e w' ⟨rfl,rfl⟩;exact⟨rfl,xL _ _⟩
  ·have e:qcm x=false:=by unfold qcm;rw[yO];omega
   rw[e];exact qn2 x w (by omega) (by omega)
 have D:=zH y;clear y h;go_enter func228,ntmps228
 go_wp2_with (go_at_call 233;refine(D.out _).mono ?_;rintro e w' ⟨rfl,I⟩)
 go_ret
 exact⟨rfl,I⟩
section
open Go.ChangeShapes Go.WideShapes Go.ChangeAt
def qgf{H:Type}:Nat->DataW H->List Value
 |0,_=>[]
 |_+1,.lit (.int k n)=>[.int k n]
 |_+1,.lit (.bool b)=>[.bool b]
 |_+1,.lit (.string l)=>[.string ⟨l.toArray⟩]
 |n+1,.agg ps=>ps.flatMap (qgf n)
 |_+1,_=>[]
def q7e(P:Program):Nat->List Field->Option Nat
 |o,[]=>some o
 |o,f::fs=>if f.offset=o then q7e P (o+P.cellsOf f.type) fs else none
def qgl(P:Program):Nat->TypeId->Bool
 |0,_=>false
 |n+1,t=>match P.underlying t with
   |some (.int _)=>true
   |some .bool=>true
   |some .string=>true
   |some (.array k e)=>P.cellsOf t==k*P.cellsOf e && qgl P n e
   |some (.struct fs)=>q7e P 0 fs.toList==some (P.cellsOf t) && fs.toList.all fun f=>qgl P n f.type
   |_=>false
theorem qw4{α β:Type}(g:α->List β)(sz:Nat):∀(xs:List α) (cs:List β),cs.length=xs.length*sz->(∀i x,xs[i]?=some x->(cs.drop (i*sz)).take sz=g x)->cs=xs.flatMap g
 |[],cs,h,_=>by simpa using h
 |x::xs,cs,h,hx=>by
   have z:cs.take sz=g x:=by simpa using hx 0 x rfl
   have ih:=qw4 g sz xs (cs.drop sz) (by rw[yM,h,yK,Nat.succ_mul];omega) (fun i y D=>by
    have:=hx (i+1) y (by simpa using D);rw[yD,show sz+i*sz=(i+1)*sz by rw[Nat.succ_mul];omega];exact this)
   rw[List.flatMap_cons,<-z,<-ih,yu]
theorem q7f{α β:Type}{P:Program}(g:α->List β)(cs:List β):∀(fs:List Field) (xs:List α) (o e:Nat),fs.length=xs.length->q7e P o fs=some e->e=cs.length ->
  (∀(i:Nat) (f:Field) (x:α),fs[i]?=some f->xs[i]?=some x->(cs.drop f.offset).take (P.cellsOf f.type)=g x)->cs.drop o=xs.flatMap g
 |[],[],o,e,_,ht,he,_=>by
   simp only[q7e,Option.some.injEq]at ht;subst ht;subst he;simp
 |[],_::_,_,_,hl,_,_,_=>by simp at hl
 |_::_,[],_,_,hl,_,_,_=>by simp at hl
 |f::fs,x::xs,o,e,hl,ht,he,hx=>by
   simp only[q7e]at ht;split at ht
   ·rename_i z
    have D:=hx 0 f x rfl rfl;rw[z]at D;have ih:=q7f g cs fs xs (o+P.cellsOf f.type) e (by simpa using hl) ht he (fun i f' x' I y=>hx (i+1) f' x' (by simpa using I) (by simpa using y));rw[List.flatMap_cons,<-D,<-ih,<-yD,yu]
   ·cases ht
theorem ql3{H:Type}{enc:TypeId×Value->H}{P:Program}{w:World}{base:Nat}{sp:Nat->Bool}{y:Bool}:∀(F fuel:Nat) (t:TypeId) (cs:List Value) (d:DataW H) (p:List MemPlace),
  qgl P F t=true->DataW.trod enc P w base sp y fuel t cs=some (d,p)->cs=qgf F d
 |0,_,_,_,_,_,h,_=>by simp[qgl]at h
 |F+1,fuel,t,cs,d,p,h,hd=>by
   unfold qgl at h;split at h
   ·rename_i k D
    obtain⟨n,rfl,e,_⟩:=DataW.trod_int D hd;cases e;rfl
   ·rename_i D
    obtain⟨b,rfl,e⟩:=DataW.trod_bool D hd;cases e;rfl
   ·rename_i D
    obtain⟨s,rfl,e,_⟩:=DataW.trod_string D hd;cases e;rfl
   ·rename_i k e D
    simp only[yL,yF]at h;obtain⟨xs,m,rfl,I,J,O,T⟩:=DataW.trod_array D hd;cases I;show cs=(xs.map (·.1)).flatMap (qgf F);rw[List.flatMap_map];refine qw4 _ (P.cellsOf e) xs cs (by rw[J,h.1,O]) ?_;intro i x I;have z:i<k:=by
     have:=(yb.1 I).1;omega
    have:=T i z;rw[I]at this;exact ql3 F m e _ x.1 x.2 h.2 this
   ·rename_i fs D
    simp only[yL,yF]at h;obtain⟨xs,m,rfl,I,J,O,T⟩:=DataW.trod_struct D hd;cases I;show cs=(xs.map (·.1)).flatMap (qgf F);rw[List.flatMap_map];have:=q7f (P:=P) (fun x:DataW H×List MemPlace=>qgf F x.1) cs fs.toList xs 0 _ (by simpa using O.symm) h.1 J.symm (fun i f x U I=>by
     have V:=T i f (by simpa using U);rw[I]at V;exact ql3 F m f.type _ x.1 x.2 (yW.1 h.2 f (yl U)) V)
    simpa using this
   ·cases h
theorem qbv{P:Program}{W:World}:∀ {laid:List (String×DataW Unit)} {ps:List MemPlace},DataW.LaidVars P W laid ps->∀(i:Nat) (name:String) (d:DataW Unit),laid[i]?=some (name,d) ->
  ∀(g:Nat) (t:TypeId) (F:Nat),P.globalNamed name=some g->(P.globals[g]?).map (·.type)=some t->qgl P F t=true->∀(j:Nat) (v:Value),(qgf F d)[j]?=some v->W.cell? (zO g j)=some v
 |[],_,_,i,_,_,hi=>by simp at hi
 |(n,d)::r,ps,h,i,name,d',hi=>by
   obtain⟨g',t',cs,fuel,p,q,z,D,y,hd,I,_⟩:=h;intro g t F J O T j v U
   match i with
   |0=>
     simp only[yS,Option.some.injEq,Prod.mk.injEq]at hi;obtain⟨rfl,rfl⟩:=hi;obtain rfl:=yk (J.symm.trans z);obtain rfl:=yk (O.symm.trans D);have e:=ql3 F fuel t _ _ _ T hd;rw[<-e]at U;have:=World.var?_cell J y j;rw[this];simpa using U
   |i+1=>exact qbv I i name d' (by simpa using hi) g t F J O T j v U
theorem gMt:prog.globalNamed "stencil/markup.markupSteps"=some 4:=by kernel_rfl
theorem gCt:prog.globalNamed "stencil/markup.contentSteps"=some 5:=by kernel_rfl
theorem gRd:prog.globalNamed "stencil/markup.readIn"=some 1:=by kernel_rfl
theorem gOt:prog.globalNamed "stencil/markup.others"=some 2:=by kernel_rfl
theorem gEs:prog.globalNamed "stencil/markup.escapes"=some 0:=by kernel_rfl
theorem gEl:prog.globalNamed "stencil/markup.elements"=some 6:=by kernel_rfl
theorem gAt:prog.globalNamed "stencil/markup.attributes"=some 10:=by kernel_rfl
theorem gLe:prog.globalNamed "stencil/markup.longEscapes"=some 3:=by kernel_rfl
theorem tLe:(prog.globals[3]?).map (·.type)=some 252:=by kernel_rfl
theorem pLe:qgl prog 4 252=true:=by kernel_rfl
theorem dLe:qgf 4 (Rows.laid_stencil_markup_longEscapes (H:=Unit))=qqw:=rfl
theorem tMt:(prog.globals[4]?).map (·.type)=some 255:=by kernel_rfl
theorem tCt:(prog.globals[5]?).map (·.type)=some 256:=by kernel_rfl
theorem tRd:(prog.globals[1]?).map (·.type)=some 216:=by kernel_rfl
theorem tOt:(prog.globals[2]?).map (·.type)=some 216:=by kernel_rfl
theorem tEs:(prog.globals[0]?).map (·.type)=some 213:=by kernel_rfl
theorem tEl:(prog.globals[6]?).map (·.type)=some 293:=by kernel_rfl
theorem tAt:(prog.globals[10]?).map (·.type)=some 327:=by kernel_rfl
theorem pMt:qgl prog 4 255=true:=by kernel_rfl
theorem pCt:qgl prog 4 256=true:=by kernel_rfl
theorem pRd:qgl prog 4 216=true:=by kernel_rfl
theorem pEs:qgl prog 4 213=true:=by kernel_rfl
theorem pEl:qgl prog 4 293=true:=by kernel_rfl
theorem pAt:qgl prog 4 327=true:=by kernel_rfl
theorem dMt:qgf 4 (Rows.laid_stencil_markup_markupSteps (H:=Unit))=qjj qbs:=rfl
theorem dCt:qgf 4 (Rows.laid_stencil_markup_contentSteps (H:=Unit))=qjj qbh:=rfl
theorem dRd:qgf 4 (Rows.laid_stencil_markup_readIn (H:=Unit))=qih qek:=rfl
theorem dOt:qgf 4 (Rows.laid_stencil_markup_others (H:=Unit))=qih qe1:=rfl
theorem dEs:qgf 4 (Rows.laid_stencil_markup_escapes (H:=Unit))=qm4 qa2:=rfl
theorem dEl:qgf 4 (Rows.laid_stencil_markup_elements (H:=Unit))=qra:=rfl
theorem dAt:qgf 4 (Rows.laid_stencil_markup_attributes (H:=Unit))=qrq:=rfl
theorem q8t{W:World}(h:W.ShapedOpen prog):qa3 W:=
 cell_of_shapedOpen_int (zero:=#[zI 0]) h (by decide +kernel) (by kernel_rfl) rfl (by kernel_rfl) (by kernel_rfl) underlying3
end
end Go.Proofs.YtfkhljmiehdgmaaGreatDoor
