/-
  Steps of the proof.
-/
import Derived.Test.YtfkhljmiehdgmaaGreatDoorCuAK
set_option maxRecDepth 100000
set_option maxHeartbeats 40000000
namespace Go.Proofs.YtfkhljmiehdgmaaGreatDoor
open Go.RowKit Go.Proofs.Tryz Pl
theorem qrt{m:Nat}{b:UInt8}(hm:m<=33)(h:tgt m b=-2):m=2\/m=24\/m=31:=by
 have key:∀k:Fin 34,(k.val=2\/k.val=24\/k.val=31)\/∀r∈qfn k.val,¬r.2=-2:=by decide
 rcases key ⟨m,by omega⟩with q|q
 ·exact q
 ·exfalso
  unfold tgt at h;split at h
  ·next r hr=>exact q r (List.mem_of_find?_eq_some hr) h
  ·omega
theorem q7s(p:Sp)(m:Nat)(b:UInt8)(w:World)(Hc:p.mode=m)(hm:m<=33)(ht:p.tag.length<=1000)(ha:p.attr.length<=1000)(Hg:p.run.length<=2000000000000000000)
  (hR:tgt m b=-2->∀w,zC 123 #[qaz ⟨qa8 m,p.tag,p.attr,p.inside,[],p.far⟩,zJ b.toNat] w (zR (qaz ((Sp.mk (qa8 m) p.tag p.attr p.inside [] p.far).step1 (qa8 m) b)) w)) :
  zC 123 #[qaz p,zJ b.toNat] w (zR (qaz (p.step m b)) w):=by
 have He:=fun w=>q4d m b w hm;have hN:=fun w=>q0e p m b (tgt m b) w Hc ht ha;have hf:(p.named m b (tgt m b)).run=[]/\(p.named m b (tgt m b)).far=0/\(p.named m b (tgt m b)).mode=0:=by
  unfold Sp.named
  repeat' split
  all_goals exact⟨rfl,rfl,rfl⟩
 have hV:p.step m b=if tgt m b=-2 then(Sp.mk (qa8 m) p.tag p.attr p.inside [] p.far).step1 (qa8 m) b else if tgt m b=-1 then(if qav p.tag=1 then Sp.start else⟨qav p.tag,p.tag,[],[],[],0⟩)
   else⟨tgt m b,(p.named m b (tgt m b)).tag,(p.named m b (tgt m b)).attr,(p.named m b (tgt m b)).inside,if(tgt m b==m && runs (tgt m b))=true then kept (tgt m b) (p.run++[b])else[],if(tgt m b==8 || tgt m b==9)=true then(if(tgt m b==m)=true then qcw p.far b else 2)else 0⟩:=by
  unfold Sp.step;rw[show p.step1 m b=_ from rfl];unfold Sp.step1;simp only[yL,yU,yF]
 have he:=qrt (b:=b) hm;generalize p.step m b=V at hV |-;generalize tgt m b=T at He hN hf hV hR he;generalize p.named m b T=N at hN hf hV;obtain⟨nm,nt,na,ni,nr,nf⟩:=N;obtain⟨rfl,rfl,rfl⟩:=hf;generalize hQ:(fun(e:Ending) (w':World)=>e=.returned (qaz V)/\zW w w')=Q;have H0:=zH (Sp2.start w p);have HF:Hid (∀(wx:World) (q:Sp) (a:Act),wx.heap[w.heap.size+1]?=zK (qan ⟨0,[],[],[],[],0⟩) 94->zW w wx->V=q->a.tmps.getD 4 undef=zP (w.heap.size+1)->a.defers=[]->bodyPost prog f123 Q .ret a (set6 wx (w.heap.size+1) (zI q.mode) (zV q.tag) (zV q.attr) (zV q.inside) (zV q.run) (zI q.far))):=by
  intro wx q a h hl e h4 hd;refine qfs results123 (w.heap.size+1) _ underlying94 rfl (by kernel_rfl) h4 ⟨_,_,h,rfl⟩ hd _ _ _ _ _ _ ?_;rw[<-hQ,e];exact⟨rfl,qb9 hl (by omega) _ _ _ _ _ _⟩
 clear hQ;have HV:=zH hV;have HP:=(show Hid (p.mode=m)from Hc);have Hf:=zH He;have hi:=zH Hg;have hz:(ByteArray.mk p.run.toArray).size=p.run.length:=by simp[ByteArray.size]
 unfold qaz at hN |-;unfold qan at H0 hN |-;rw[Hc]at H0 hN |-;simp only at hN;have HN:=zH hN;clear hV Hc He hN ht ha;go_enter func123,ntmps123
 go_upto_region 2 with(go_at_call 170;refine(Hf.out _).mono ?_;rintro e w1 ⟨rfl,hg⟩;have H1:=zH (H0.out.kept hg);clear hg)
 clear H0 Hf;obtain⟨q0,q1,q2,q3,q4,q5⟩:=qbu H1.out.sp;rw[HP.out]at q0;by_cases t2:T=-2
 ·have Ha:Hid (V=(Sp.mk (qa8 m) p.tag p.attr p.inside [] p.far).step1 (qa8 m) b):=HV.out.trans (if_pos t2)
  have hb:=hR t2;generalize (Sp.mk (qa8 m) p.tag p.attr p.inside [] p.far).step1 (qa8 m) b=N at Ha hb;obtain⟨g0,_,_,_,g4,_⟩:=qgx H1.out.sp;have Hi:=he t2;have HX:=zH (fun a:Int=>Sp2.put (q:=⟨a,p.tag,p.attr,p.inside,[],p.far⟩) (Sp2.put (q:=⟨a,p.tag,p.attr,p.inside,p.run,p.far⟩) H1.out 0 (zI a) (by rfl)) 4 (zS) (by rfl));subst t2;clear hR he HV;unfold qaz qan at hb;simp only at hb;rcases Hi with rfl|rfl|rfl
  all_goals
   have hj:=zH hb;clear hb;go_wp2_with (go_at_call 123;refine(hj.out _).mono ?_;rintro e w3 ⟨rfl,Hb⟩;have H3:=(show Hid _ from(HX.out _).kept Hb);clear Hb;have r0:=qbu H3.out.res;have f0:=qgx H3.out.res)
   exact HF.out _ N _ H3.out.res H3.out.low Ha.out rfl rfl
 have b2:(T==-2)=false:=yf.2 t2;clear hR he;by_cases t1:T=-1
 ·have Ha:Hid (V=if qav p.tag=1 then Sp.start else⟨qav p.tag,p.tag,[],[],[],0⟩):=HV.out.trans ((if_neg t2).trans (if_pos t1))
  have hC:=fun w=>q88 p.tag w;generalize qav p.tag=C at Ha hC;have HC:=zH hC;subst t1;clear HV hC;go_upto_region 13 with(go_at_call 171;refine(HC.out _).mono ?_;rintro e w2 ⟨rfl,hc⟩;have H2:=zH (H1.out.kept hc);clear hc)
  by_cases c1:C=1
  ·subst c1
   have Hb:=(xM w2.heap.size w2).alloc (yg _) (.cells #[zI 1,zS,zS,zS,zS,zI 0] 94);have H3:=zH (H2.out.kept Hb);clear Hb;have r0:=qbu H3.out.res;have f0:=qgx H3.out.res;go_wp2_with (go_at_call 34;refine(qln _).mono ?_;rintro e w3 ⟨rfl,rfl⟩)
   exact HF.out _ ⟨1,[],[],[],[],0⟩ _ H3.out.res H3.out.low Ha.out rfl rfl
  ·have c1':((C:Int)==1)=false:=yf.2 (by omega)
   have Hj:Hid (V=⟨C,p.tag,[],[],[],0⟩):=Ha.out.trans (if_neg c1);obtain⟨_,q1,_,_,_,_⟩:=qbu H2.out.sp;have r0:=qbu H2.out.res;have f0:=qgx H2.out.res;go_wp2
   exact HF.out _ ⟨C,p.tag,[],[],[],0⟩ _ H2.out.res H2.out.low Hj.out rfl rfl
 have b1:(T==-1)=false:=yf.2 t1;have Ha:Hid (V=⟨T,nt,na,ni,if(T==m && runs T)=true then kept T (p.run++[b])else[],if(T==8 || T==9)=true then(if(T==m)=true then qcw p.far b else 2)else 0⟩):=HV.out.trans ((if_neg t2).trans (if_neg t1));clear HV t1 t2;go_upto_region 17 with(go_at_call 172;refine(HN.out _).mono ?_;rintro e w2 ⟨rfl,hc⟩;have H2:=zH (H1.out.kept hc);clear hc)
 have H3:=zH (H2.out.more ⟨0,nt,na,ni,[],0⟩);unfold qan at H3;generalize w2.heap.size=g at H3 |-;generalize World.alloc w2 _=w3 at H3 |-;clear H2 H1 HN q0 q1 q2 q3 q4 q5;have t0:=qaa H3.out.tt 0 _ rfl;have g0:=xI _ _ 0 _ _ H3.out.tt;go_upto_region 18 with fail
 have H4:Hid (Sp3 w (w3.setCell (zO g 0) (zI T)) g p ⟨T,nt,na,ni,[],0⟩):=H3.out.put 0 _ (by rfl);generalize World.setCell w3 _ _=w4 at H4 |-;clear H3 t0 g0;have q0:=qaa H4.out.sp 0 _ rfl;rw[HP.out]at q0;go_cut [64] (fun s wx=>s=.bool (T==m && runs T)/\wx=w4)
 case first=>
  cases e0:T==(m:Int)
  ·go_wp2
   go_meet
   exact⟨by rw[e0];rfl,rfl⟩
  cases e1:T==1
  rotate_left
  ·go_wp2
   go_meet
   exact⟨by rw[e0];unfold runs;rw[e1];rfl,rfl⟩
  cases e8:T==8
  rotate_left
  ·go_wp2
   go_meet
   exact⟨by rw[e0];unfold runs;rw[e1,e8];rfl,rfl⟩
  cases e9:T==9
  rotate_left
  ·go_wp2
   go_meet
   exact⟨by rw[e0];unfold runs;rw[e1,e8,e9];rfl,rfl⟩
  go_wp2_with (go_at_call 69;refine(qhy T _).mono ?_;rintro e w' ⟨rfl,rfl⟩)
  go_meet
  exact⟨by rw[e0];unfold runs;rw[e1,e8,e9];rfl,rfl⟩
 case rest=>
 obtain⟨rfl,rfl⟩:=hcut;generalize (T==(m:Int) && runs T)=X at Ha |-;go_upto_if 64 with fail
 go_cut [] (fun wx=>Hid (Sp3 w wx g p ⟨T,nt,na,ni,if X=true then kept T (p.run++[b])else[],0⟩))
 case first=>
  cases X
  ·go_wp2
   go_meet
   exact H4
  have q4:=fun o=>qaa (H4.out.alloc o).sp 4 _ rfl;have q4':=qaa H4.out.sp 4 _ rfl;have t4:=fun o=>qaa (H4.out.alloc o).tt 4 _ rfl;have g4:=fun o=>xI _ _ 4 _ _ (H4.out.alloc o).tt;have cv:=qi0 b wc _ rfl;go_wp2_with (go_at_call 169;refine(q26 T p.run b _ hi.out).mono ?_;rintro e w' ⟨rfl,rfl⟩)
  go_meet
  exact(H4.out.alloc _).put 4 _ (by rfl)
 case rest=>
 have H5:=zH hcut.out;clear hcut H4 q0;have q0:=qaa H5.out.sp 0 _ rfl;have q5:=qaa H5.out.sp 5 _ rfl;rw[HP.out]at q0;generalize (if X=true then kept T (p.run++[b])else[])=R at Ha H5;go_upto_region 20 with fail
 go_cut [79] (fun s wx=>s=.bool (T==8 || T==9)/\wx=wc)
 case first=>
  cases e8:T==8<;>cases e9:T==9
  all_goals
   go_wp2
   go_meet
   exact⟨by rw[e8,e9];rfl,rfl⟩
 case rest=>
 obtain⟨rfl,rfl⟩:=hcut;generalize (T==8 || T==9)=Y at Ha |-;go_upto_if 79 with fail
 go_cut [] (fun wx=>Hid (Sp3 w wx g p ⟨T,nt,na,ni,R,if Y=true then(if(T==m)=true then qcw p.far b else 2)else 0⟩))
 case first=>
  cases Y
  ·go_wp2
   go_meet
   exact H5
  have t5:=qaa H5.out.tt 5 _ rfl;have g5:=xI _ _ 5 _ _ H5.out.tt;cases e0:T==(m:Int)
  ·go_wp2
   go_meet
   rw[e0,if_pos trivial,if_neg (by decide)];exact H5.out.put 5 _ (by rfl)
  go_upto_region 22 with fail
  have H6:Hid (Sp3 w (wc.setCell (zO g 5) (zI 2)) g p ⟨T,nt,na,ni,R,2⟩):=H5.out.put 5 _ (by rfl);generalize World.setCell wc _ _=w6 at H6 |-;clear q0 q5 t5 g5;obtain⟨q0,q1,q2,q3,q4,q5⟩:=qbu H6.out.sp;rw[HP.out]at q0;have t5:=qaa H6.out.tt 5 _ rfl;have g5:=xI _ _ 5 _ _ H6.out.tt;go_wp2_with (go_at_call 173;refine(qul p.far b _).mono ?_;rintro e w' ⟨rfl,rfl⟩)
  go_meet
  rw[e0,if_pos trivial,if_pos rfl];exact H6.out.put 5 _ (by rfl)
 case rest=>
 have H6:=zH hcut.out;clear hcut H5 q0 q5;generalize (if Y=true then(if(T==m)=true then qcw p.far b else 2)else 0)=Z at Ha H6;obtain⟨t0,t1,t2,t3,t4,t5⟩:=qbu H6.out.tt;have r0:=qbu H6.out.res;have f0:=qgx H6.out.res;go_wp2
 exact HF.out _ ⟨T,nt,na,ni,R,Z⟩ _ H6.out.res H6.out.low Ha.out rfl rfl
theorem qsm(p:Sp)(m:Nat)(b:UInt8)(w:World)(hb:p.mode=m)(hm:m<=33)(ht:p.tag.length<=1000)(ha:p.attr.length<=1000)(Hb:p.run.length<=2000000000000000000) :
  zC 123 #[qaz p,zJ b.toNat] w (zR (qaz (p.step m b)) w):=by
 refine q7s p m b w hb hm ht ha Hb fun _ w=>?_;have Ha:∀m,qa8 m<=33:=fun m=>by
  unfold qa8
  repeat' split
  all_goals omega
 have hn:¬tgt (qa8 m) b=-2:=fun q=>by
  have:=qrt (Ha m) q
  revert this
  unfold qa8
  repeat' split
  all_goals omega
 have:=q7s ⟨qa8 m,p.tag,p.attr,p.inside,[],p.far⟩ (qa8 m) b w rfl (Ha m) ht ha (by simp) fun q=>absurd q hn;unfold Sp.step at this
 rwa [if_neg hn]at this
end Go.Proofs.YtfkhljmiehdgmaaGreatDoor
