/-
  Steps of the proof.
-/
import Derived.Test.YtfkhljmiehdgmaaGreatDoorCmAT
import Derived.Test.YtfkhljmiehdgmaaGreatDoorCmAN
set_option maxRecDepth 100000
set_option maxHeartbeats 40000000
namespace Go.Proofs.YtfkhljmiehdgmaaGreatDoor
open Go.RowKit
theorem qpt{m:Nat}{b:UInt8}(hm:m<=33)(h:Pl.tgt m b=-2):m=2\/m=24\/m=31:=by
 have key:∀k:Fin 34,(k.val=2\/k.val=24\/k.val=31)\/∀r∈Pl.qe3 k.val,¬r.2=-2:=by decide
 rcases key ⟨m,by omega⟩with q|q
 ·exact q
 ·exfalso
  unfold Pl.tgt at h;split at h
  ·next r hr=>exact q r (List.mem_of_find?_eq_some hr) h
  ·omega
theorem q2z(p:Pl.Sp)(m:Nat)(b:UInt8)(w:World)(Hc:p.mode=m)(hm:m<=33)(ht:p.tag.length<=1000)(ha:p.attr.length<=1000)(Hg:p.run.length<=2000000000000000000)
  (hR:Pl.tgt m b=-2->∀w,Calls Tryz.prog 123 #[qau ⟨Pl.qa8 m,p.tag,p.attr,p.inside,[],p.far⟩,.int .u8 b.toNat] w fun e w'=>e=.returned (qau ((Pl.Sp.mk (Pl.qa8 m) p.tag p.attr p.inside [] p.far).step1 (Pl.qa8 m) b))/\Below w.heap.size w w') :
  Calls Tryz.prog 123 #[qau p,.int .u8 b.toNat] w fun e w'=>e=.returned (qau (p.step m b))/\Below w.heap.size w w':=by
 have He:=fun w=>q0b m b w hm;have hN:=fun w=>qws p m b (Pl.tgt m b) w Hc ht ha;have hf:(p.named m b (Pl.tgt m b)).run=[]/\(p.named m b (Pl.tgt m b)).far=0/\(p.named m b (Pl.tgt m b)).mode=0:=by
  unfold Pl.Sp.named
  repeat' split
  all_goals exact⟨rfl,rfl,rfl⟩
 have hV:p.step m b=if Pl.tgt m b=-2 then(Pl.Sp.mk (Pl.qa8 m) p.tag p.attr p.inside [] p.far).step1 (Pl.qa8 m) b else if Pl.tgt m b=-1 then(if Pl.qaw p.tag=1 then Pl.Sp.start else⟨Pl.qaw p.tag,p.tag,[],[],[],0⟩)
   else⟨Pl.tgt m b,(p.named m b (Pl.tgt m b)).tag,(p.named m b (Pl.tgt m b)).attr,(p.named m b (Pl.tgt m b)).inside,if(Pl.tgt m b==m && Pl.runs (Pl.tgt m b))=true then Pl.kept (Pl.tgt m b) (p.run++[b])else[],if(Pl.tgt m b==8 || Pl.tgt m b==9)=true then(if(Pl.tgt m b==m)=true then Pl.qcq p.far b else 2)else 0⟩:=by
  unfold Pl.Sp.step;rw[show p.step1 m b=_ from rfl];unfold Pl.Sp.step1;simp only[Bool.and_eq_true,Bool.or_eq_true,beq_iff_eq]
 have he:=qpt (b:=b) hm;generalize p.step m b=V at hV |-;generalize Pl.tgt m b=T at He hN hf hV hR he;generalize p.named m b T=N at hN hf hV;obtain⟨nm,nt,na,ni,nr,nf⟩:=N;obtain⟨rfl,rfl,rfl⟩:=hf;generalize hQ:(fun(e:Ending) (w':World)=>e=.returned (qau V)/\Below w.heap.size w w')=Q;have H0:=hd (Sp2.start w p);have HF:Hid (∀(wx:World) (q:Pl.Sp) (a:Act),wx.heap[w.heap.size+1]?=some (.cells (qag ⟨0,[],[],[],[],0⟩) 94 (0,0))->Below w.heap.size w wx->V=q->a.tmps.getD 4 undef=.pointer (some ⟨w.heap.size+1,0,none⟩)->a.defers=[]->bodyPost Tryz.prog Tryz.f123 Q .ret a (set6 wx (w.heap.size+1) (.int .i64 q.mode) (.string ⟨q.tag.toArray⟩) (.string ⟨q.attr.toArray⟩) (.string ⟨q.inside.toArray⟩) (.string ⟨q.run.toArray⟩) (.int .i64 q.far))):=by
  intro wx q a h hl e h4 hd;refine qfk Tryz.results123 (w.heap.size+1) _ Tryz.underlying94 rfl (by kernel_rfl) h4 ⟨_,_,h,rfl⟩ hd _ _ _ _ _ _ ?_;rw[<-hQ,e];exact⟨rfl,qbx hl (by omega) _ _ _ _ _ _⟩
 clear hQ;have HV:=hd hV;have HP:=(show Hid (p.mode=m)from Hc);have Hf:=hd He;have hi:=hd Hg;have hz:(ByteArray.mk p.run.toArray).size=p.run.length:=by simp[ByteArray.size]
 unfold qau at hN |-;unfold qag at H0 hN |-;rw[Hc]at H0 hN |-;simp only at hN;have HN:=hd hN;clear hV Hc He hN ht ha;go_enter Tryz.func123,Tryz.ntmps123
 go_upto_region 2 with(go_at_call 170;refine(Hf.out _).mono ?_;rintro e w1 ⟨rfl,hg⟩;have H1:=hd (H0.out.kept hg);clear hg)
 clear H0 Hf;obtain⟨q0,q1,q2,q3,q4,q5⟩:=qar H1.out.sp;rw[HP.out]at q0;by_cases t2:T=-2
 ·have Ha:Hid (V=(Pl.Sp.mk (Pl.qa8 m) p.tag p.attr p.inside [] p.far).step1 (Pl.qa8 m) b):=HV.out.trans (if_pos t2)
  have hb:=hR t2;generalize (Pl.Sp.mk (Pl.qa8 m) p.tag p.attr p.inside [] p.far).step1 (Pl.qa8 m) b=N at Ha hb;obtain⟨g0,_,_,_,g4,_⟩:=qd0 H1.out.sp;have Hi:=he t2;have HX:=hd (fun a:Int=>Sp2.put (q:=⟨a,p.tag,p.attr,p.inside,[],p.far⟩) (Sp2.put (q:=⟨a,p.tag,p.attr,p.inside,p.run,p.far⟩) H1.out 0 (.int .i64 a) (by rfl)) 4 (.string ⟨#[]⟩) (by rfl));subst t2;clear hR he HV;unfold qau qag at hb;simp only at hb;rcases Hi with rfl|rfl|rfl
  all_goals
   have hj:=hd hb;clear hb;go_wp2_with (go_at_call 123;refine(hj.out _).mono ?_;rintro e w3 ⟨rfl,Hb⟩;have H3:=(show Hid _ from(HX.out _).kept Hb);clear Hb;obtain⟨r0,r1,r2,r3,r4,r5⟩:=qar H3.out.res;obtain⟨f0,f1,f2,f3,f4,f5⟩:=qd0 H3.out.res)
   exact HF.out _ N _ H3.out.res H3.out.low Ha.out rfl rfl
 have b2:(T==-2)=false:=beq_eq_false_iff_ne.2 t2;clear hR he;by_cases t1:T=-1
 ·have Ha:Hid (V=if Pl.qaw p.tag=1 then Pl.Sp.start else⟨Pl.qaw p.tag,p.tag,[],[],[],0⟩):=HV.out.trans ((if_neg t2).trans (if_pos t1))
  have hC:=fun w=>q34 p.tag w;generalize Pl.qaw p.tag=C at Ha hC;have HC:=hd hC;subst t1;clear HV hC;go_upto_region 13 with(go_at_call 171;refine(HC.out _).mono ?_;rintro e w2 ⟨rfl,hc⟩;have H2:=hd (H1.out.kept hc);clear hc)
  by_cases c1:C=1
  ·subst c1
   have Hb:=(Below.refl w2.heap.size w2).alloc (Nat.le_refl _) (.cells #[.int .i64 1,.string ⟨#[]⟩,.string ⟨#[]⟩,.string ⟨#[]⟩,.string ⟨#[]⟩,.int .i64 0] 94);have H3:=hd (H2.out.kept Hb);clear Hb;obtain⟨r0,r1,r2,r3,r4,r5⟩:=qar H3.out.res;obtain⟨f0,f1,f2,f3,f4,f5⟩:=qd0 H3.out.res;go_wp2_with (go_at_call 34;refine(qic _).mono ?_;rintro e w3 ⟨rfl,rfl⟩)
   exact HF.out _ ⟨1,[],[],[],[],0⟩ _ H3.out.res H3.out.low Ha.out rfl rfl
  ·have c1':((C:Int)==1)=false:=beq_eq_false_iff_ne.2 (by omega)
   have Hj:Hid (V=⟨C,p.tag,[],[],[],0⟩):=Ha.out.trans (if_neg c1);obtain⟨_,q1,_,_,_,_⟩:=qar H2.out.sp;obtain⟨r0,r1,r2,r3,r4,r5⟩:=qar H2.out.res;obtain⟨f0,f1,f2,f3,f4,f5⟩:=qd0 H2.out.res;go_wp2_with fail
   exact HF.out _ ⟨C,p.tag,[],[],[],0⟩ _ H2.out.res H2.out.low Hj.out rfl rfl
 have b1:(T==-1)=false:=beq_eq_false_iff_ne.2 t1;have Ha:Hid (V=⟨T,nt,na,ni,if(T==m && Pl.runs T)=true then Pl.kept T (p.run++[b])else[],if(T==8 || T==9)=true then(if(T==m)=true then Pl.qcq p.far b else 2)else 0⟩):=HV.out.trans ((if_neg t2).trans (if_neg t1));clear HV t1 t2;go_upto_region 17 with(go_at_call 172;refine(HN.out _).mono ?_;rintro e w2 ⟨rfl,hc⟩;have H2:=hd (H1.out.kept hc);clear hc)
 have H3:=hd (H2.out.more ⟨0,nt,na,ni,[],0⟩);unfold qag at H3;generalize w2.heap.size=g at H3 |-;generalize World.alloc w2 _=w3 at H3 |-;clear H2 H1 HN q0 q1 q2 q3 q4 q5;have t0:=qaa H3.out.tt 0 _ rfl;have g0:=frozen_of_row _ _ 0 _ _ H3.out.tt;go_upto_region 18 with fail
 have H4:Hid (Sp3 w (w3.setCell ⟨g,0,none⟩ (.int .i64 T)) g p ⟨T,nt,na,ni,[],0⟩):=H3.out.put 0 _ (by rfl);generalize World.setCell w3 _ _=w4 at H4 |-;clear H3 t0 g0;have q0:=qaa H4.out.sp 0 _ rfl;rw[HP.out]at q0;go_cut [64] (fun s wx=>s=.bool (T==m && Pl.runs T)/\wx=w4)
 case first=>
  cases e0:T==(m:Int)
  ·go_wp2_with fail
   go_meet
   exact⟨by rw[e0];rfl,rfl⟩
  cases e1:T==1
  rotate_left
  ·go_wp2_with fail
   go_meet
   exact⟨by rw[e0];unfold Pl.runs;rw[e1];rfl,rfl⟩
  cases e8:T==8
  rotate_left
  ·go_wp2_with fail
   go_meet
   exact⟨by rw[e0];unfold Pl.runs;rw[e1,e8];rfl,rfl⟩
  cases e9:T==9
  rotate_left
  ·go_wp2_with fail
   go_meet
   exact⟨by rw[e0];unfold Pl.runs;rw[e1,e8,e9];rfl,rfl⟩
  go_wp2_with (go_at_call 69;refine(qhe T _).mono ?_;rintro e w' ⟨rfl,rfl⟩)
  go_meet
  exact⟨by rw[e0];unfold Pl.runs;rw[e1,e8,e9];rfl,rfl⟩
 case rest=>
 obtain⟨rfl,rfl⟩:=hcut;generalize (T==(m:Int) && Pl.runs T)=X at Ha |-;go_upto_if 64 with fail
 go_cut [] (fun wx=>Hid (Sp3 w wx g p ⟨T,nt,na,ni,if X=true then Pl.kept T (p.run++[b])else[],0⟩))
 case first=>
  cases X
  ·go_wp2_with fail
   go_meet
   exact H4
  have q4:=fun o=>qaa (H4.out.alloc o).sp 4 _ rfl;have q4':=qaa H4.out.sp 4 _ rfl;have t4:=fun o=>qaa (H4.out.alloc o).tt 4 _ rfl;have g4:=fun o=>frozen_of_row _ _ 4 _ _ (H4.out.alloc o).tt;have cv:=qig b wc _ rfl;go_wp2_with (go_at_call 169;refine(qzc T p.run b _ hi.out).mono ?_;rintro e w' ⟨rfl,rfl⟩)
  go_meet
  exact(H4.out.alloc _).put 4 _ (by rfl)
 case rest=>
 have H5:=hd hcut.out;clear hcut H4 q0;have q0:=qaa H5.out.sp 0 _ rfl;have q5:=qaa H5.out.sp 5 _ rfl;rw[HP.out]at q0;generalize (if X=true then Pl.kept T (p.run++[b])else[])=R at Ha H5;go_upto_region 20 with fail
 go_cut [79] (fun s wx=>s=.bool (T==8 || T==9)/\wx=wc)
 case first=>
  cases e8:T==8<;>cases e9:T==9
  all_goals
   go_wp2_with fail
   go_meet
   exact⟨by rw[e8,e9];rfl,rfl⟩
 case rest=>
 obtain⟨rfl,rfl⟩:=hcut;generalize (T==8 || T==9)=Y at Ha |-;go_upto_if 79 with fail
 go_cut [] (fun wx=>Hid (Sp3 w wx g p ⟨T,nt,na,ni,R,if Y=true then(if(T==m)=true then Pl.qcq p.far b else 2)else 0⟩))
 case first=>
  cases Y
  ·go_wp2_with fail
   go_meet
   exact H5
  have t5:=qaa H5.out.tt 5 _ rfl;have g5:=frozen_of_row _ _ 5 _ _ H5.out.tt;cases e0:T==(m:Int)
  ·go_wp2_with fail
   go_meet
   rw[e0,if_pos trivial,if_neg (by decide)];exact H5.out.put 5 _ (by rfl)
  go_upto_region 22 with fail
  have H6:Hid (Sp3 w (wc.setCell ⟨g,5,none⟩ (.int .i64 2)) g p ⟨T,nt,na,ni,R,2⟩):=H5.out.put 5 _ (by rfl);generalize World.setCell wc _ _=w6 at H6 |-;clear q0 q5 t5 g5;obtain⟨q0,q1,q2,q3,q4,q5⟩:=qar H6.out.sp;rw[HP.out]at q0;have t5:=qaa H6.out.tt 5 _ rfl;have g5:=frozen_of_row _ _ 5 _ _ H6.out.tt;go_wp2_with (go_at_call 173;refine(qr8 p.far b _).mono ?_;rintro e w' ⟨rfl,rfl⟩)
  go_meet
  rw[e0,if_pos trivial,if_pos rfl];exact H6.out.put 5 _ (by rfl)
 case rest=>
 have H6:=hd hcut.out;clear hcut H5 q0 q5;generalize (if Y=true then(if(T==m)=true then Pl.qcq p.far b else 2)else 0)=Z at Ha H6;obtain⟨t0,t1,t2,t3,t4,t5⟩:=qar H6.out.tt;obtain⟨r0,r1,r2,r3,r4,r5⟩:=qar H6.out.res;obtain⟨f0,f1,f2,f3,f4,f5⟩:=qd0 H6.out.res;go_wp2_with fail
 exact HF.out _ ⟨T,nt,na,ni,R,Z⟩ _ H6.out.res H6.out.low Ha.out rfl rfl
theorem qqk(p:Pl.Sp)(m:Nat)(b:UInt8)(w:World)(hb:p.mode=m)(hm:m<=33)(ht:p.tag.length<=1000)(ha:p.attr.length<=1000)(Hb:p.run.length<=2000000000000000000) :
  Calls Tryz.prog 123 #[qau p,.int .u8 b.toNat] w fun e w'=>e=.returned (qau (p.step m b))/\Below w.heap.size w w':=by
 refine q2z p m b w hb hm ht ha Hb fun _ w=>?_;have Ha:∀m,Pl.qa8 m<=33:=fun m=>by
  unfold Pl.qa8
  repeat' split
  all_goals omega
 have hn:¬Pl.tgt (Pl.qa8 m) b=-2:=fun q=>by
  have:=qpt (Ha m) q
  revert this
  unfold Pl.qa8
  repeat' split
  all_goals omega
 have:=q2z ⟨Pl.qa8 m,p.tag,p.attr,p.inside,[],p.far⟩ (Pl.qa8 m) b w rfl (Ha m) ht ha (by simp) fun q=>absurd q hn;unfold Pl.Sp.step at this
 rwa [if_neg hn]at this
end Go.Proofs.YtfkhljmiehdgmaaGreatDoor
