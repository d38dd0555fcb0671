/-
  Steps of the proof.
-/
import Derived.Test.YtfkhljmiehdgmaaGreatDoorCuAS
set_option maxRecDepth 100000
set_option maxHeartbeats 40000000
namespace Go.Proofs.YtfkhljmiehdgmaaGreatDoor
open Go.RowKit Go.Proofs.Tryz Pl
structure HoAt(w0 w:World)(p:Sp)(v:Array Value)(q:Sp)(V T:Nat):Prop where
 sp:w.heap[w0.heap.size]?=zK (qan p) 94
 res:w.heap[w0.heap.size+1]?=zK #[zI 0,zS,zS,zS,zS,zI 0] 94
 vw:w.heap[V]?=zK v 111
 tt:w.heap[T]?=zK (qan q) 94
 low:zW w0 w
 le:w0.heap.size<=T
 ne:V≠w0.heap.size/\V≠w0.heap.size+1/\T≠w0.heap.size/\T≠w0.heap.size+1/\V≠T
theorem zeo(M ve va vd vc vp vl:Int)(vn:zU)(vr:Bool){a:Int}(h:Vw.as ⟨M,ve,va,vd,vc,vp,vl,vn,vr⟩=a):Vw.hole ⟨M,ve,va,vd,vc,vp,vl,vn,vr⟩=bif a==0 then(0,10)else bif va==3 then(0,11)else bif (vr || (decide (vc > 0) || (decide (vp > 0) || decide (vd > 0))))then(0,12)else(a,0):=by
 unfold Vw.hole;rw[h];simp only[gt_iff_lt];by_cases h1:a=0
 ·rw[if_pos h1,yF.2 h1];rfl
 rw[if_neg h1,yf.2 h1];by_cases h2:va=3
 ·rw[if_pos h2,yF.2 h2];rfl
 rw[if_neg h2,yf.2 h2];cases (vr || (decide (0<vc) || (decide (0<vp) || decide (0<vd))))<;>rfl
theorem q97(p:Sp)(V:Vw)(w:World)(hm:V.mode=p.mode)(hS:∀w,zC 41 #[qaz p] w (zR (qwb V) w)) :
  zC 55 #[qaz p] w (zR (.tuple #[zI V.hole.1,zI V.hole.2,qaz (qe9 p V.link)]) w):=by
 obtain⟨vm,ve,va,vd,vc,vp,vl,vn,vr⟩:=V;obtain rfl:vm=p.mode:=hm;obtain⟨A,hA⟩:∃A,Vw.as ⟨p.mode,ve,va,vd,vc,vp,vl,vn,vr⟩=A:=⟨_,rfl⟩;rw[zeo _ _ _ _ _ _ _ _ _ hA];have HA:=zH hA;clear hA;generalize hQ:(fun(e:Ending) (w':World)=>e=.returned (.tuple #[zI (bif A==0 then(0,10)else bif va==3 then(0,11)else bif (vr || (decide (vc > 0) || (decide (vp > 0) || decide (vd > 0))))then(0,12)else(A,0):Int×Int).1,zI (bif A==0 then(0,10)else bif va==3 then(0,11)else bif (vr || (decide (vc > 0) || (decide (vp > 0) || decide (vd > 0))))then(0,12)else(A,0):Int×Int).2,qaz (qe9 p vl)])/\zW w w')=Q;have HQ:=zH hQ;clear hQ;unfold qwb at hS;unfold qaz at hS |-;have HS:=zH hS;clear hS;unfold qan at HS |-;unfold qfa at HS;go_enter func55,ntmps55
 go_upto_region 3 with(go_at_call 41;refine(HS.out _).mono ?_;rintro e w1 ⟨rfl,Ha⟩;have hx:=(Ha.block w.heap.size (by simp<;>omega)).trans ((xJ _ _ (by simp)).trans (xG w _));have hl:=(ya.1 hx).1;have q0:=fun o=>al (qaa ((xJ w1 o hl).trans hx)))
 have H2:Hid (HoAt w ((w1.alloc (.cells #[zI p.mode,zI ve,zI va,zI vd,zI vc,zI vp,zI vl,zV vn,.bool vr] 111)).alloc (.cells (qan p) 94)) p #[zI p.mode,zI ve,zI va,zI vd,zI vc,zI vp,zI vl,zV vn,.bool vr] p w1.heap.size (w1.heap.size+1)):=by
  have hr:=(Ha.block (w.heap.size+1) (by simp)).trans (qap (w.alloc _) _ _ (by simp));have Hc:=(ya.1 hr).1;have hw:zW w w1:=Below.trans (by repeat(first|refine Below.alloc ?_ (by simp<;>omega) _|exact xM _ _)) (Ha.mono (by simp<;>omega))
  refine⟨(xJ _ _ (by simp;omega)).trans ((xJ w1 _ hl).trans hx),(xJ _ _ (by simp;omega)).trans ((xJ w1 _ Hc).trans hr),(xJ _ _ (by simp)).trans (xG _ _),qap _ _ _ (by simp),(hw.alloc (by omega) _).alloc (by simp;omega) _,by omega,by omega,by omega,by omega,by omega,by omega⟩
 unfold qan at H2;clear q0 hx hl Ha HS;generalize w1.heap.size=VV at H2 |-;obtain⟨T,hT⟩:∃T,T=VV+1:=⟨_,rfl⟩;rw[<-hT]at H2 |-;generalize hv:World.alloc (World.alloc w1 _) _=w2 at H2 |-;clear hT hv;have v2:=al (qaa H2.out.vw);go_cut [18] (fun s wx=>s=.bool (vl==2 || vl==3)/\wx=w2)
 case first=>
  cases h2:vl==2<;>cases h3:vl==3
  all_goals
   go_wp2
   go_meet
   exact⟨by rw[h2,h3];rfl,rfl⟩
 case rest=>
 obtain⟨rfl,rfl⟩:=hcut;generalize Hb:(vl==2 || vl==3)=lk;have hc:=(show Hid (_=lk)from Hb);clear Hb;go_upto_if 18 with fail
 go_cut [] (fun wx=>Hid (HoAt w wx p #[zI p.mode,zI ve,zI va,zI vd,zI vc,zI vp,zI vl,zV vn,.bool vr] (qe9 p vl) VV T))
 case first=>
  have f5:=xI wc T 5 _ _ H2.out.tt;have t5:=qaa H2.out.tt 5 _ rfl;cases lk
  all_goals
   go_wp2
   go_meet
  ·have h2:=hc.out
   have e:qe9 p vl=p:=if_neg (by intro h;simp at h2;omega);rw[e];exact H2
  ·have h2:=hc.out
   have e:qe9 p vl=⟨p.mode,p.tag,p.attr,p.inside,p.run,4⟩:=if_pos (by simp at h2;omega);rw[e];have h:=H2.out;exact⟨(xK _ _ _ _ (by exact fun q=>h.ne.2.2.1 q.symm)).trans h.sp,(xK _ _ _ _ (fun q=>h.ne.2.2.2.1 q.symm)).trans h.res,(xK _ _ _ _ h.ne.2.2.2.2).trans h.vw,xH wc T 5 _ _ _ h.tt,h.low.setCell h.le _,h.le,h.ne⟩
 case rest=>
 have H3:=zH hcut.out;clear H2 hcut v2;have m0:=qaa H3.out.sp 0 _ rfl;have v2:=al (qaa H3.out.vw);generalize hM:p.mode=M at m0;go_upto_block 0 with fail
 go_cut [7,22,25,34,37] (fun s7 s22 s25 s34 s37 wx=>s7=zI A/\wx=wc)
 case first=>
  have hA:=HA.out;unfold Vw.as at hA;simp only[hM]at hA;by_cases m1:M=1\/M=19\/M=21\/M=22\/M=29\/M=30
  ·rcases m1 with rfl|rfl|rfl|rfl|rfl|rfl<;>(go_wp2;go_meet;exact⟨by rw[<-hA];rfl,rfl⟩)
  by_cases m8:M=8\/M=9
  ·cases h2:vl==2<;>cases h3:va==2
   all_goals
    have e2:=h2;have e3:=h3;simp at e2 e3;rcases m8 with rfl|rfl<;>(go_wp2;go_meet;exact⟨by rw[<-hA];simp[e2,e3],rfl⟩)
  have e:(M==1)=false/\(M==19)=false/\(M==21)=false/\(M==22)=false/\(M==29)=false/\(M==30)=false/\(M==8)=false/\(M==9)=false:=by simp;omega
  obtain⟨e1,e2,e3,e4,e5,e6,e7,e8⟩:=e;go_wp2;go_meet
  rw[if_neg (by omega),if_neg (by omega),if_neg (by omega),if_neg (by omega)]at hA;exact⟨by rw[<-hA],rfl⟩
 case rest=>
 obtain⟨rfl,rfl⟩:=hcut;have hT:=H3.out.tt;unfold qan at hT;have t0:=qaa hT 0 _ rfl;have t1:=qaa hT 1 _ rfl;have t2:=qaa hT 2 _ rfl;have t3:=qaa hT 3 _ rfl;have t4:=qaa hT 4 _ rfl;have t5:=qaa hT 5 _ rfl;have hR:=H3.out.res;have r0:=al (qaa hR);have f0:=xI _ _ 0 _ _ hR;have f1:=xI _ _ 1 _ _ hR;have f2:=xI _ _ 2 _ _ hR;have f3:=xI _ _ 3 _ _ hR;have f4:=xI _ _ 4 _ _ hR;have f5:=xI _ _ 5 _ _ hR;clear hT hR;have HF:Hid (∀(a:Act) (x y:Int),x=(bif A==0 then(0,10)else bif va==3 then(0,11)else bif (vr || (decide (vc > 0) || (decide (vp > 0) || decide (vd > 0))))then(0,12)else(A,0):Int×Int).1->y=(bif A==0 then(0,10)else bif va==3 then(0,11)else bif (vr || (decide (vc > 0) || (decide (vp > 0) || decide (vd > 0))))then(0,12)else(A,0):Int×Int).2->a.tmps.getD 4 undef=zP (w.heap.size+1)->a.defers=[]->a.tmps.getD 2 undef=zI x->a.tmps.getD 3 undef=zI y->bodyPost prog f55 Q .ret a (set6 wc (w.heap.size+1) (zI (qe9 p vl).mode) (zV ((qe9 p vl).tag)) (zV ((qe9 p vl).attr)) (zV ((qe9 p vl).inside)) (zV ((qe9 p vl).run)) (zI (qe9 p vl).far)).drew):=by
  intro a x y hx hy h4 hd h2 h3;refine qn4 results55 (w.heap.size+1) _ underlying94 rfl (by kernel_rfl) h4 ⟨_,_,H3.out.res,rfl⟩ hd _ _ _ _ _ _ _ _ h2 h3 ?_;rw[<-HQ.out,hx,hy];exact⟨rfl,(qb9 H3.out.low (by omega) _ _ _ _ _ _).drew⟩
 clear HQ HA H3 hM;unfold set6 at HF;generalize qe9 p vl=q at *;cases ha:A==0
 rotate_left
 ·go_wp2
  go_region
  all_goals
   go_wp2
   exact HF.out _ _ _ (by rw[ha];rfl) (by rw[ha];rfl) rfl rfl rfl rfl
 cases hb:va==3
 rotate_left
 ·go_wp2
  go_region
  all_goals
   go_wp2
   exact HF.out _ _ _ (by rw[ha,hb];rfl) (by rw[ha,hb];rfl) rfl rfl rfl rfl
 rw[ha,hb]at HF;go_upto_region 27 with fail
 go_cut [49] (fun s wx=>s=.bool (vr || (decide (vc > 0) || (decide (vp > 0) || decide (vd > 0))))/\wx=wc)
 case first=>
  by_cases hr:vr=true
  ·subst hr
   go_wp2
   go_meet
   exact⟨rfl,rfl⟩
  have hr:vr=false:=ye.2 hr;subst hr;by_cases h1:vc > 0<;>by_cases h2:vp > 0<;>by_cases h3:vd > 0
  all_goals
   go_wp2
   go_meet
   exact⟨by simp[h1,h2,h3],rfl⟩
 case rest=>
 obtain⟨rfl,rfl⟩:=hcut;generalize (vr || (decide (vc > 0) || (decide (vp > 0) || decide (vd > 0))))=X at HF |-;cases X
 all_goals
  go_wp2
  go_region
  all_goals
   go_wp2
   exact HF.out _ _ _ rfl rfl rfl rfl rfl rfl
theorem qx0(p:Sp)(w:World)(ht:p.tag.length<=1000)(ha:p.attr.length<=1000)(hi:p.inside.length<=1000)(Ha:p.run.length<=2000000000000000000) :
  zC 55 #[qaz p] w (zR (.tuple #[zI p.view.hole.1,zI p.view.hole.2,qaz p.behindHole]) w):=
 q97 p p.view w rfl fun w=>qrw p w ht ha hi Ha
end Go.Proofs.YtfkhljmiehdgmaaGreatDoor
