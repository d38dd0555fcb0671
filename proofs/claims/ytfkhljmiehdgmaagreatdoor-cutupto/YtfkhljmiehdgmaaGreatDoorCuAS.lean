/-
  Steps of the proof.
-/
import Derived.Outline
import Derived.Deep.DeepCutAuto
import Derived.Deep.CutBlock
import Derived.Test.YtfkhljmiehdgmaaGreatDoorCuAJ
import Derived.Test.YtfkhljmiehdgmaaGreatDoorCuAG
set_option maxRecDepth 100000
set_option maxHeartbeats 40000000
namespace Go.Proofs.YtfkhljmiehdgmaaGreatDoor
open Go.RowKit Go.Proofs.Tryz Pl
variable{w w0:World}{g:Nat}{p:Sp}{v:Vw}
def set9(w:World)(g:Nat)(v0 v1 v2 v3 v4 v5 v6 v7 v8:Value):World:=((((((((w.setCell (zO g 0) v0).setCell (zO g 1) v1).setCell (zO g 2) v2).setCell (zO g 3) v3).setCell (zO g 4) v4).setCell (zO g 5) v5).setCell (zO g 6) v6).setCell (zO g 7) v7).setCell (zO g 8) v8
theorem q71(w:World)(g:Nat)(v0 v1 v2 v3 v4 v5 v6 v7 v8:Value):set9 w g v0 v1 v2 v3 v4 v5 v6 v7 v8=qg9 w g 0 [v0,v1,v2,v3,v4,v5,v6,v7,v8]:=rfl
theorem q6k(h:qet 9 w g)(v0 v1 v2 v3 v4 v5 v6 v7 v8:Value):∀(j:Nat) (v:Value),(#[v0,v1,v2,v3,v4,v5,v6,v7,v8]:Array Value).toList[j]?=some v->(set9 w g v0 v1 v2 v3 v4 v5 v6 v7 v8).cell? (zO g j)=some v:=by
 intro j v y;have:=qjn (n:=9) g [v0,v1,v2,v3,v4,v5,v6,v7,v8] w 0 h (by simp) j v y;rw[xf]at this;rw[q71];exact this
theorem q6p{B:Nat}{a:World}(h:Below B a w)(y:B<=g)(v0 v1 v2 v3 v4 v5 v6 v7 v8:Value):Below B a (set9 w g v0 v1 v2 v3 v4 v5 v6 v7 v8):=by
 rw[q71];exact qi7 g y _ _ _ h
theorem qv2{P:Program}{fn:Func}{R:Ending->World->Prop}{a:Act}{p:Tmp}{ty:TypeId}(h:fn.results=#[.cell p ty])(g:Nat)(d:TypeDesc)(z:P.underlying ty=some d)(hd:aggD d=true)(D:(P.info? ty).map (·.size)=some 9)
  (I:a.tmps.getD p undef=zP g) (J:qet 9 w g) (y:a.defers=[]) (v0 v1 v2 v3 v4 v5 v6 v7 v8:Value) (O:R (.returned (.agg #[v0,v1,v2,v3,v4,v5,v6,v7,v8])) (set9 w g v0 v1 v2 v3 v4 v5 v6 v7 v8)):bodyPost P fn R .ret a (set9 w g v0 v1 v2 v3 v4 v5 v6 v7 v8):=
 bodyPost_ret (qbn h a.tmps _ g _ d I (q6k J v0 v1 v2 v3 v4 v5 v6 v7 v8) z hd D) y O
def qfa(v:Vw):Array Value:=#[zI v.mode,zI v.elem,zI v.attr,zI v.ends,zI v.esc,zI v.pct,zI v.link,.string ⟨v.name.toArray⟩,.bool v.ref]
def qwb(v:Vw):Value:=.agg (qfa v)
structure SeeAt(w0 w:World)(p:Sp)(v:Vw):Prop where
 sp:w.heap[w0.heap.size]?=zK (qan p) 94
 res:w.heap[w0.heap.size+1]?=zK (qfa ⟨0,0,0,0,0,0,0,[],false⟩) 111
 vw:w.heap[w0.heap.size+1+1]?=zK (qfa v) 111
 low:zW w0 w
theorem SeeAt.lt(h:SeeAt w0 w p v):w0.heap.size+1+1<w.heap.size:=(ya.1 h.vw).1
theorem SeeAt.kept{w':World}(h:SeeAt w0 w p v)(y:zW w w'):SeeAt w0 w' p v:=by
 have z:=h.lt;exact⟨(y.block _ (by omega)).trans h.sp,(y.block _ (by omega)).trans h.res,(y.block _ z).trans h.vw,h.low.trans (y.mono (by omega))⟩
theorem SeeAt.put{v':Vw}(h:SeeAt w0 w p v)(j:Nat)(x:Value)(e:(qfa v).set! j x=qfa v'):SeeAt w0 (w.setCell (zO (w0.heap.size+1+1) j) x) p v':=by
 refine⟨(xJ _ _ _ _ (by simp;omega)).trans h.sp,(xJ _ _ _ _ (by simp)).trans h.res,?_,h.low.setCell (by simp;omega) _⟩;rw[<-e];exact xG w _ j _ _ _ h.vw
structure SeeC(w0 w:World)(p:Sp)(v:Vw):Prop where
 q0:w.cell? (zO w0.heap.size 0)=some (zI p.mode)
 q1:w.cell? (zO w0.heap.size 1)=some (.string ⟨p.tag.toArray⟩)
 q2:w.cell? (zO w0.heap.size 2)=some (.string ⟨p.attr.toArray⟩)
 q3:w.cell? (zO w0.heap.size 3)=some (.string ⟨p.inside.toArray⟩)
 q4:w.cell? (zO w0.heap.size 4)=some (.string ⟨p.run.toArray⟩)
 q5:w.cell? (zO w0.heap.size 5)=some (zI p.far)
 t:∀(j:Nat) (x:Value),(qfa v).toList[j]?=some x->w.cell? (zO (w0.heap.size+1+1) j)=some x
 f:∀j,w.frozen? (zO (w0.heap.size+1+1) j)=false
theorem SeeAt.c(h:SeeAt w0 w p v):SeeC w0 w p v:=
 ⟨qaa h.sp 0 _ rfl,qaa h.sp 1 _ rfl,qaa h.sp 2 _ rfl,qaa h.sp 3 _ rfl,qaa h.sp 4 _ rfl,qaa h.sp 5 _ rfl,qaa h.vw,fun j=>xH _ _ j _ _ h.vw⟩
theorem qrw(p:Sp)(w:World)(J:p.tag.length<=1000)(O:p.attr.length<=1000)(T:p.inside.length<=1000)(D:p.run.length<=2000000000000000000) :
  zC 41 #[qaz p] w fun e w'=>e=.returned (qwb p.view)/\zW w w':=by
 have U:=zH (fun w=>q2t p w J T);unfold qaz qan at U |-;obtain⟨M,V⟩:∃M,p.mode=M:=⟨_,rfl⟩;rw[V]at U |-;have X:Hid (SeeAt w (((w.alloc (.cells #[zI M,.string ⟨p.tag.toArray⟩,.string ⟨p.attr.toArray⟩,.string ⟨p.inside.toArray⟩,.string ⟨p.run.toArray⟩,zI p.far] 94)).alloc (.cells (qfa ⟨0,0,0,0,0,0,0,[],false⟩) 111)).alloc (.cells (qfa ⟨M,0,0,0,0,0,0,[],false⟩) 111)) p ⟨M,0,0,0,0,0,0,[],false⟩):=by
  rw[<-V];exact⟨(xI _ _ (by simp;omega)).trans ((xI _ _ (by simp)).trans (xF w _)),(xI _ _ (by simp)).trans (qap _ _ _ (by simp)),qap _ _ _ (by simp),((zB _).alloc (by simp) _).alloc (by simp;omega) _⟩
 generalize hQ:(fun(e:Ending) (w':World)=>e=.returned (qwb p.view)/\zW w w')=Q;have Y:=zH hQ;have Z:=zH V;clear hQ V;unfold qfa at X;go_enter func41,ntmps41
 go_upto_block 0 with fail
 generalize World.alloc _ _=w2 at X |-;have HC:=zH X.out.c;have q0:=HC.out.q0;have q1:=HC.out.q1;rw[Z.out]at q0;go_cut [7,14,27] (fun s7 s14 s27 wx=>Hid (SeeAt w wx p ⟨M,p.view.elem,0,p.view.ends,0,0,0,if M=3 then p.tag else[],false⟩))
 case first=>
  by_cases m3:M=3
  ·subst m3
   have t7:=HC.out.t 7 _ rfl;have f7:=HC.out.f 7;go_wp2
   go_meet
   refine X.out.put 7 _ ?_;unfold Sp.view;rw[Z.out];rfl
  have m3':(M==3)=false:=yf.2 m3;by_cases m10:3<M/\M<=10
  ·obtain⟨ma,mb⟩:=m10
   have HK:=zH (X.out.kept (zB qg5));have t1:=HK.out.c.t 1 _ rfl;have f1:=HK.out.c.f 1;go_wp2_with (go_at_call 65;refine(qvs p.tag _).mono ?_;rintro e w' ⟨rfl,rfl⟩)
   go_meet
   refine HK.out.put 1 _ ?_;unfold Sp.view;simp only[Z.out];rw[if_neg m3,if_pos (.inl ⟨ma,mb⟩),if_neg (by omega:¬ 19<=M)];rfl
  by_cases m19:19<=M
  ·have ma:M > 3:=by omega
   have mb:¬M<=10:=by omega
   have HK:=zH (X.out.kept (zB qg5));have t1:=HK.out.c.t 1 _ rfl;have f1:=HK.out.c.f 1;go_upto_region 8 with(go_at_call 65;refine(qvs p.tag _).mono ?_;rintro e w' ⟨rfl,rfl⟩)
   have HE:=(show Hid (SeeAt w ((w2.alloc qg5).setCell (zO (w.heap.size+1+1) 1) (zI (qcu p.tag))) p ⟨M,qcu p.tag,0,0,0,0,0,[],false⟩)from HK.out.put 1 _ rfl);generalize World.setCell _ _ _=w3 at HE |-;have C3:=zH HE.out.c;have q0:=C3.out.q0;have q1:=C3.out.q1;have q2:=C3.out.q2;have q3:=C3.out.q3;have q4:=C3.out.q4;have q5:=C3.out.q5;rw[Z.out]at q0;go_wp2_with (go_at_call 66;refine(U.out _).mono ?_;rintro e w4 ⟨rfl,hb⟩;have HF:=zH (HE.out.kept hb);have t3:=HF.out.c.t 3 _ rfl;have f3:=HF.out.c.f 3;clear hb)
   go_meet
   refine HF.out.put 3 _ ?_;unfold Sp.view;simp only[Z.out];rw[if_neg m3,if_pos (.inr m19),if_pos m19];rfl
  have mb:¬M≥19:=m19;have hw:(⟨M,p.view.elem,0,p.view.ends,0,0,0,if M=3 then p.tag else[],false⟩:Vw)=⟨M,0,0,0,0,0,0,[],false⟩:=by
   unfold Sp.view;simp only[Z.out];rw[if_neg m3,if_neg (by omega),if_neg m19]
  by_cases ma:M > 3
  ·have mc:¬M<=10:=by omega
   go_wp2
   go_meet
   rw[hw];exact X
  ·go_wp2
   go_meet
   rw[hw];exact X
 case rest=>
 clear X HC q0 q1;have X:=zH hcut.out;clear hcut;have HC:=zH X.out.c;have q0:=HC.out.q0;have q1:=HC.out.q1;have q2:=HC.out.q2;have q4:=HC.out.q4;have q5:=HC.out.q5;rw[Z.out]at q0;go_upto_if 40 with fail
 go_cut [] (fun wx=>Hid (SeeAt w wx p ⟨M,p.view.elem,0,p.view.ends,0,0,0,p.view.name,false⟩))
 case first=>
  have t7:=HC.out.t 7 _ rfl;have f7:=HC.out.f 7;cases m5:M==5
  all_goals
   have I:=m5;simp at I;have M5:=zH I;clear I;go_wp2
   go_meet
  ·have e:p.view.name=if M=3 then p.tag else[]:=by unfold Sp.view;simp only[Z.out];rw[if_neg M5.out]
   rw[e];exact X
  ·refine X.out.put 7 _ ?_
   have e:p.view.name=p.attr:=by unfold Sp.view;simp only[Z.out];rw[if_neg (by have:=M5.out;omega),if_pos M5.out]
   rw[e];rfl
 case rest=>
 clear X HC q0 q1 q2 q4 q5;have X:=zH hcut.out;clear hcut;have HC:=zH X.out.c;have q0:=HC.out.q0;have q1:=HC.out.q1;have q2:=HC.out.q2;have q4:=HC.out.q4;have q5:=HC.out.q5;rw[Z.out]at q0;go_upto_region 11 with fail
 go_cut [51] (fun s wx=>s=.bool (decide (6<=M/\M<=9))/\wx=wc)
 case first=>
  by_cases a:M≥6
  ·by_cases b:M<=9
   all_goals
    go_wp2
    go_meet
    exact⟨by simp;omega,rfl⟩
  ·go_wp2
   go_meet
   exact⟨by simp;omega,rfl⟩
 case rest=>
 obtain⟨rfl,rfl⟩:=hcut;generalize y:decide (6<=M/\M<=9)=ee;have HE:=(show Hid (_=ee)from y);clear y;go_upto_if 51 with fail
 go_cut [] (fun wx=>Hid (SeeAt w wx p ⟨M,p.view.elem,p.view.attr,p.view.ends,0,0,0,p.view.name,false⟩))
 case first=>
  have t2:=HC.out.t 2 _ rfl;have f2:=HC.out.f 2;cases ee
  ·go_wp2
   go_meet
   have e:p.view.attr=0:=by unfold Sp.view;simp only[Z.out];rw[if_neg (of_decide_eq_false HE.out)]
   rw[e];exact X
  ·go_wp2_with (go_at_call 67;refine(zch p.attr _ O).mono ?_;rintro e w' ⟨rfl,rfl⟩)
   go_meet
   have e:p.view.attr=qbt p.attr:=by unfold Sp.view;simp only[Z.out];rw[if_pos (of_decide_eq_true HE.out)]
   rw[e];exact X.out.put 2 _ rfl
 case rest=>
 clear X HC HE q0 q1 q2 q4 q5;have X:=zH hcut.out;clear hcut;have HC:=zH X.out.c;have q0:=HC.out.q0;have q1:=HC.out.q1;have q2:=HC.out.q2;have q4:=HC.out.q4;have q5:=HC.out.q5;rw[Z.out]at q0;go_upto_region 13 with fail
 go_cut [73] (fun s wx=>s=.bool (qne M)/\wx=wc)
 case first=>
  have HT:=(show Hid (qne M=(M==1 || (M==19 || (M==8 || M==9))))from rfl);cases a1:M==1<;>cases a2:M==19<;>cases a3:M==8<;>cases a4:M==9
  all_goals
   go_wp2
   go_meet
   exact⟨by rw[HT.out,a1,a2,a3,a4];rfl,rfl⟩
 case rest=>
 obtain⟨rfl,rfl⟩:=hcut;generalize y:qne M=ee;have HE:=(show Hid (_=ee)from y);clear y;go_upto_if 73 with fail
 go_cut [] (fun wx=>Hid (SeeAt w wx p ⟨M,p.view.elem,p.view.attr,p.view.ends,0,0,0,p.view.name,p.view.ref⟩))
 case first=>
  have t8:=HC.out.t 8 _ rfl;have f8:=HC.out.f 8;cases ee
  ·go_wp2
   go_meet
   have e:p.view.ref=false:=by unfold Sp.view;simp only[Z.out];rw[HE.out];rfl
   rw[e];exact X
  ·go_wp2_with (go_at_call 68;refine(qml ⟨p.run.toArray⟩ _ (by simpa [ByteArray.size] using yh D (by omega))).mono ?_;rintro e w' ⟨rfl,rfl⟩)
   go_meet
   have e:p.view.ref=qie p.run:=by unfold Sp.view;simp only[Z.out];rw[HE.out];rfl
   rw[e];exact X.out.put 8 _ rfl
 case rest=>
 clear X HC HE q0 q1 q2 q4 q5;have X:=zH hcut.out;clear hcut;have HC:=zH X.out.c;have q0:=HC.out.q0;have q1:=HC.out.q1;have q2:=HC.out.q2;have q4:=HC.out.q4;have q5:=HC.out.q5;rw[Z.out]at q0;go_upto_if 80 with(go_at_call 69;refine(qhy _ _).mono ?_;rintro e w' ⟨rfl,rfl⟩)
 generalize y:qca M=ee;have HE:=(show Hid (_=ee)from y);clear y;go_cut [] (fun wx=>Hid (SeeAt w wx p ⟨M,p.view.elem,p.view.attr,p.view.ends,p.view.esc,0,0,p.view.name,p.view.ref⟩))
 case first=>
  have t4:=HC.out.t 4 _ rfl;have f4:=HC.out.f 4;cases ee
  ·go_wp2
   go_meet
   have e:p.view.esc=0:=by unfold Sp.view;simp only[Z.out];rw[HE.out];rfl
   rw[e];exact X
  ·go_wp2_with (go_at_call 70;refine(qnx ⟨p.run.toArray⟩ _ _ (by simpa [ByteArray.size] using yh D (by omega))).mono ?_;rintro e w' ⟨rfl,rfl⟩)
   go_meet
   have e:p.view.esc=qdz (qbg M) p.run:=by unfold Sp.view;simp only[Z.out];rw[HE.out];rfl
   rw[e];exact X.out.put 4 _ rfl
 case rest=>
 clear X HC HE q0 q1 q2 q4 q5;have X:=zH hcut.out;clear hcut;have HC:=zH X.out.c;have q0:=HC.out.q0;have q1:=HC.out.q1;have q2:=HC.out.q2;have q4:=HC.out.q4;have q5:=HC.out.q5;rw[Z.out]at q0;go_upto_region 17 with fail
 go_cut [100] (fun s wx=>s=.bool (decide ((M=8\/M=9)/\qbt p.attr=2))/\wx=wc)
 case first=>
  have t2:=HC.out.t 2 _ rfl;by_cases z:M=8\/M=9
  ·have e:p.view.attr=qbt p.attr:=by unfold Sp.view;simp only[Z.out];rw[if_pos (by omega)]
   have t2:wc.cell? (zO (w.heap.size+1+1) 2)=some (zI (qbt p.attr)):=by rw[<-e];exact t2
   clear e;generalize hk:qbt p.attr=K at t2;have HK:=zH hk;clear hk;rcases z with rfl|rfl
   all_goals
    go_wp2
    go_meet
    exact⟨by rw[HK.out];simp;rfl,rfl⟩
  ·have e1:(M==8)=false:=yf.2 (fun q=>z (.inl q))
   have e2:(M==9)=false:=yf.2 (fun q=>z (.inr q));go_wp2
   go_meet
   exact⟨by rw[yx (fun q=>z q.1)],rfl⟩
 case rest=>
 obtain⟨rfl,rfl⟩:=hcut;generalize y:decide ((M=8\/M=9)/\qbt p.attr=2)=ee;have HE:=(show Hid (_=ee)from y);clear y;go_upto_if 100 with fail
 go_cut [] (fun wx=>Hid (SeeAt w wx p p.view))
 case first=>
  have t5:=HC.out.t 5 _ rfl;have f5:=HC.out.f 5;have t6:=HC.out.t 6 _ rfl;have f6:=HC.out.f 6;cases ee
  ·go_wp2
   go_meet
   have e:p.view=⟨M,p.view.elem,p.view.attr,p.view.ends,p.view.esc,0,0,p.view.name,p.view.ref⟩:=by
    have:=of_decide_eq_false HE.out;unfold Sp.view;simp only[Z.out];rw[if_neg this,if_neg this]
   rw[e];exact X
  ·go_wp2_with (go_at_call 71;refine(q02 ⟨p.run.toArray⟩ _ (by simpa [ByteArray.size] using yh D (by omega))).mono ?_;rintro e w' ⟨rfl,rfl⟩)
   go_meet
   have e:p.view=⟨M,p.view.elem,p.view.attr,p.view.ends,p.view.esc,qhq p.run,p.far,p.view.name,p.view.ref⟩:=by
    have:=of_decide_eq_true HE.out;unfold Sp.view;simp only[Z.out];rw[if_pos this,if_pos this]
   rw[e];have h1:SeeAt w (wc.setCell (zO (w.heap.size+1+1) 5) (zI (qhq p.run))) p ⟨M,p.view.elem,p.view.attr,p.view.ends,p.view.esc,qhq p.run,0,p.view.name,p.view.ref⟩:=X.out.put 5 _ rfl;exact h1.put 6 _ rfl
 case rest=>
 clear X HC HE q0 q1 q2 q4 q5;have X:=zH hcut.out;clear hcut;have hV:=X.out.vw;unfold qfa at hV;have t0:=qaa hV 0 _ rfl;have t1:=qaa hV 1 _ rfl;have t2:=qaa hV 2 _ rfl;have t3:=qaa hV 3 _ rfl;have t4:=qaa hV 4 _ rfl;have t5:=qaa hV 5 _ rfl;have t6:=qaa hV 6 _ rfl;have t7:=qaa hV 7 _ rfl;have t8:=qaa hV 8 _ rfl;have hr:=X.out.res;have p0:=qaa hr 0 _ rfl;have p1:=qaa hr 1 _ rfl;have p2:=qaa hr 2 _ rfl;have p3:=qaa hr 3 _ rfl;have p4:=qaa hr 4 _ rfl;have p5:=qaa hr 5 _ rfl;have p6:=qaa hr 6 _ rfl;have p7:=qaa hr 7 _ rfl;have p8:=qaa hr 8 _ rfl;have f0:=xH _ _ 0 _ _ hr;have f1:=xH _ _ 1 _ _ hr;have f2:=xH _ _ 2 _ _ hr;have f3:=xH _ _ 3 _ _ hr;have f4:=xH _ _ 4 _ _ hr;have f5:=xH _ _ 5 _ _ hr;have f6:=xH _ _ 6 _ _ hr;have f7:=xH _ _ 7 _ _ hr;have f8:=xH _ _ 8 _ _ hr;clear hV hr;go_wp2
 refine qv2 results41 (w.heap.size+1) _ underlying111 rfl (by kernel_rfl) rfl ⟨_,_,X.out.res,rfl⟩ rfl _ _ _ _ _ _ _ _ _ ?_;rw[<-Y.out];exact⟨rfl,q6p X.out.low (by simp) _ _ _ _ _ _ _ _ _⟩
end Go.Proofs.YtfkhljmiehdgmaaGreatDoor
