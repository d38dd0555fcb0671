/-
  Steps of the proof.
-/
import Derived.Test.YtfkhljmiehdgmaaGreatDoorCmAY
set_option maxRecDepth 100000
set_option maxHeartbeats 40000000
namespace Go.Proofs.YtfkhljmiehdgmaaGreatDoor
open Go.RowKit
theorem qr9(p:Pl.Sp)(m:Nat)(b:UInt8)(w:World)(He:p.mode=m)(hm:m<=33)(ht:p.tag.length<=1000)(ha:p.attr.length<=1000)(hi:p.inside.length<=1000)(hf:p.run.length<=2000000000000000000) :
  Calls Tryz.prog 122 #[qau p,.int .u8 b.toNat] w fun e w'=>e=.returned (qau (p.element m b))/\Below w.heap.size w w':=by
 have Hb:=fun w=>qyx p w ht hi;have hS:=fun w=>qqk ⟨m,p.tag,p.attr,Pl.qcb (p.inside++[b]),p.run,p.far⟩ m b w rfl hm ht ha hf;have hl:(Pl.qcm p.tag).length=p.tag.length+2:=rfl
 have hV:p.element m b=if(((p.read:Int)==(p.tag.length:Int)+2) && Pl.among b Pl.qdl)=true then(if b=62 then Pl.Sp.start else⟨12,[],[],[],[],0⟩)
   else if(Pl.qb8 m && (Pl.qd1 (Pl.qbe m) p.run==1))=true then⟨m,p.tag,p.attr,Pl.qcb (p.inside++[b]),p.run++[b],p.far⟩
   else if m=19 then⟨m,p.tag,p.attr,Pl.qcb (p.inside++[b]),Pl.kept m (p.run++[b]),p.far⟩
   else(Pl.Sp.mk m p.tag p.attr (Pl.qcb (p.inside++[b])) p.run p.far).step m b:=by
  unfold Pl.Sp.element;rw[hl];have hc:p.read=p.tag.length+2↔(p.read:Int)=(p.tag.length:Int)+2:=⟨by omega,by omega⟩;simp only[hc,Bool.and_eq_true,beq_iff_eq]
 generalize (Pl.Sp.mk m p.tag p.attr (Pl.qcb (p.inside++[b])) p.run p.far).step m b=N at hS hV;generalize p.element m b=V at hV |-;generalize hQ:(fun(e:Ending) (w':World)=>e=.returned (qau V)/\Below w.heap.size w w')=Q;have H0:=hd (Sp2.start w p);have HF:Hid (∀(wx:World) (q:Pl.Sp) (a:Act),wx.heap[w.heap.size+1]?=some (.cells (qag ⟨0,[],[],[],[],0⟩) 94 (0,0))->Below w.heap.size w wx->V=q->a.tmps.getD 4 undef=.pointer (some ⟨w.heap.size+1,0,none⟩)->a.defers=[]->bodyPost Tryz.prog Tryz.f122 Q .ret a (set6 wx (w.heap.size+1) (.int .i64 q.mode) (.string ⟨q.tag.toArray⟩) (.string ⟨q.attr.toArray⟩) (.string ⟨q.inside.toArray⟩) (.string ⟨q.run.toArray⟩) (.int .i64 q.far))):=by
  intro wx q a h hl e h4 hd;refine qfk Tryz.results122 (w.heap.size+1) _ Tryz.underlying94 rfl (by kernel_rfl) h4 ⟨_,_,h,rfl⟩ hd _ _ _ _ _ _ ?_;rw[<-hQ,e];exact⟨rfl,qbx hl (by omega) _ _ _ _ _ _⟩
 clear hQ;have HV:=hd hV;have HP:=(show Hid (p.mode=m)from He);have Hf:=hd (And.intro hi hf);have hz:(ByteArray.mk p.run.toArray).size=p.run.length:=by simp[ByteArray.size]
 have Hl:(ByteArray.mk p.inside.toArray).size=p.inside.length:=by simp[ByteArray.size]
 have Hm:(ByteArray.mk p.tag.toArray).size=p.tag.length:=by simp[ByteArray.size]
 unfold qau at Hb hS |-;unfold qag at H0 Hb hS |-;rw[He]at H0 Hb |-;simp only at hS;have Hg:=hd Hb;have HS:=hd hS;clear hV He Hb hS ha hl;go_enter Tryz.func122,Tryz.ntmps122
 go_upto_region 2 with(go_at_call 66;refine(Hg.out _).mono ?_;rintro e w1 ⟨rfl,Hi⟩;have H1:=hd (H0.out.kept Hi);clear Hi)
 clear H0 Hg;obtain⟨q0,q1,q2,q3,q4,q5⟩:=qar H1.out.sp;obtain⟨r0,r1,r2,r3,r4,r5⟩:=qar H1.out.res;obtain⟨f0,f1,f2,f3,f4,f5⟩:=qd0 H1.out.res;rw[HP.out]at q0;have HT:=hd ht;go_cut [18] (fun s wx=>s=.bool (((p.read:Int)==(p.tag.length:Int)+2) && Pl.among b Pl.qdl)/\wx=w1)
 case first=>
  cases hr:((p.read:Int)==(p.tag.length:Int)+2)
  ·go_wp2_with fail
   go_meet
   exact⟨by rw[hr];rfl,rfl⟩
  ·go_wp2_with (go_at_call 80;refine(qdx b _ Pl.qdl _ rfl (by decide)).mono ?_;rintro e w' ⟨rfl,rfl⟩)
   go_meet
   exact⟨by rw[hr];rfl,rfl⟩
 case rest=>
 obtain⟨rfl,rfl⟩:=hcut;generalize (((p.read:Int)==(p.tag.length:Int)+2) && Pl.among b Pl.qdl)=X at HV |-;cases X
 rotate_left
 ·have hv:=HV.out
  rw[if_pos rfl]at hv;by_cases hb:b=62
  ·subst hb
   have Ha:=hd hv;have H2:=hd (H1.out.kept (ba (.cells #[.int .i64 1,.string ⟨#[]⟩,.string ⟨#[]⟩,.string ⟨#[]⟩,.string ⟨#[]⟩,.int .i64 0] 94)));clear hv r0 r1 r2 r3 r4 r5 f0 f1 f2 f3 f4 f5;obtain⟨r0,r1,r2,r3,r4,r5⟩:=qar H2.out.res;obtain⟨f0,f1,f2,f3,f4,f5⟩:=qd0 H2.out.res;go_wp2_with (go_at_call 34;refine(qic _).mono ?_;rintro e w3 ⟨rfl,rfl⟩)
   exact HF.out _ ⟨1,[],[],[],[],0⟩ _ H2.out.res H2.out.low Ha.out rfl rfl
  ·rw[if_neg hb]at hv
   have Ha:=hd hv;have hn:((b.toNat:Int)==62)=false:=by have:=Pl.beq8 b 62;rw[show((62:UInt8).toNat:Int)=62 from rfl]at this;rw[this];exact beq_eq_false_iff_ne.2 hb
   clear hv hb;go_wp2_with fail
   exact HF.out _ ⟨12,[],[],[],[],0⟩ _ H1.out.res H1.out.low Ha.out rfl rfl
 have Ha:=hd (HV.out.trans (if_neg (by decide)));clear HV r0 r1 r2 r3 r4 r5 f0 f1 f2 f3 f4 f5;have q3':=fun o=>(qaa (H1.out.kept ((Below.refl wc.heap.size wc).alloc (Nat.le_refl _) o)).sp 3 _ rfl);have g3':=fun o=>(frozen_of_row _ _ 3 _ _ (H1.out.kept ((Below.refl wc.heap.size wc).alloc (Nat.le_refl _) o)).sp);have cv:=qig b wc _ rfl;go_upto_region 7 with(go_at_call 168;refine(q5s p.inside b _ (by have:=Hf.out.1;omega)).mono ?_;rintro e w' ⟨rfl,rfl⟩)
 have H2:Hid (Sp2 w ((wc.alloc (.cells #[.int .u8 b.toNat] 5)).setCell ⟨w.heap.size,3,none⟩ (.string ⟨(Pl.qcb (p.inside++[b])).toArray⟩)) ⟨p.mode,p.tag,p.attr,Pl.qcb (p.inside++[b]),p.run,p.far⟩):=(H1.out.kept (ba _)).put 3 _ (by rfl);rw[HP.out]at H2;clear q0 q1 q2 q3 q4 q5 q3' g3' cv H1;generalize World.setCell _ _ _=w2 at H2 |-;generalize Pl.qcb (p.inside++[b])=IN at Ha H2 HS |-;obtain⟨q0,q1,q2,q3,q4,q5⟩:=qar H2.out.sp;have g4':=fun o=>frozen_of_row _ _ 4 _ _ (H2.out.kept ((Below.refl w2.heap.size w2).alloc (Nat.le_refl _) o)).sp;have cv:=qig b w2 _ rfl;have hf:=Hf.out.2;have hE:=fun w=>qmh ⟨p.run.toArray⟩ (Pl.qbe m) w (by rw[hz];omega);generalize hc:Pl.qd1 (Pl.qbe m) p.run=C at Ha;have hE:∀(w:World) (t:Bool),t=Pl.qbe m->Calls Tryz.prog 70 #[.string ⟨p.run.toArray⟩,.bool t] w fun e w'=>e=.returned (.int .i64 C)/\w=w':=fun w t ht=>by rw[ht,<-hc];exact hE w
 have HE:=hd hE;have hj:(ByteArray.mk p.run.toArray++ByteArray.mk #[b])=⟨(p.run++[b]).toArray⟩:=by apply ByteArray.ext;simp
 have Hk:=hd hj;clear hE hc hj;have hi:=qhe m;generalize Pl.qb8 m=S at Ha hi;have HI:=hd hi;clear hi;go_upto_if 33 with(go_at_call 69;refine(HI.out _).mono ?_;rintro e w' ⟨rfl,rfl⟩)
 go_cut [6] (fun s6 wx=>wx=w2/\Hid ((S && (C==1))=false))
 case first=>
  have q0':=fun o=>qaa (H2.out.kept ((Below.refl w2.heap.size w2).alloc (Nat.le_refl _) o)).sp 4 _ rfl;cases S
  ·go_wp2_with fail
   go_meet
   exact⟨rfl,by show _=_;rfl⟩
  have hx:((28:Int)<=(m:Int)/\Hid (true=Pl.qbe m))\/(¬(28:Int)<=(m:Int)/\Hid (false=Pl.qbe m)):=(Nat.lt_or_ge m 28).symm.imp (fun h=>⟨by omega,(decide_eq_true (by omega)).symm⟩) fun h=>⟨by omega,(decide_eq_false (by omega)).symm⟩;cases he:C==1
  ·rcases hx with ⟨hg,hx⟩ | ⟨hg,hx⟩
   all_goals
    go_upto_region 9 with(go_at_call 70;refine(HE.out _ _ hx.out).mono ?_;rintro e w' ⟨rfl,rfl⟩)
    go_wp2_with fail
    go_meet
    exact⟨rfl,by show _=_;rw[he];rfl⟩
  ·have Hc:Hid (V=⟨m,p.tag,p.attr,IN,p.run++[b],p.far⟩):=Ha.out.trans (if_pos (by rw[he];rfl))
   have H3:Hid (Sp2 w ((w2.alloc (.cells #[.int .u8 b.toNat] 5)).setCell ⟨w.heap.size,4,none⟩ (.string (ByteArray.mk p.run.toArray++ByteArray.mk #[b]))) ⟨m,p.tag,p.attr,IN,p.run++[b],p.far⟩):=(H2.out.kept (ba _)).put 4 _ (by rw[Hk.out];rfl);rcases hx with⟨hg,hx⟩|⟨hg,hx⟩
   all_goals
    go_upto_region 11 with(go_at_call 70;refine(HE.out _ _ hx.out).mono ?_;rintro e w' ⟨rfl,rfl⟩)
    generalize World.setCell _ _ _=w3 at H3 |-;clear q0 q1 q2 q3 q4 q5 q0' g4';obtain⟨q0,q1,q2,q3,q4,q5⟩:=qar H3.out.sp;obtain⟨r0,r1,r2,r3,r4,r5⟩:=qar H3.out.res;obtain⟨f0,f1,f2,f3,f4,f5⟩:=qd0 H3.out.res;go_wp2_with fail
    exact HF.out _ ⟨m,p.tag,p.attr,IN,p.run++[b],p.far⟩ _ H3.out.res H3.out.low Hc.out rfl rfl
 case rest=>
 obtain⟨rfl,HX⟩:=hcut;have hv:=Ha.out;rw[if_neg (by rw[HX.out];decide)]at hv;clear Ha;by_cases Hj:m=19
 ·subst Hj
  rw[if_pos rfl]at hv;have Hc:=hd hv;have H3:Hid (Sp2 w ((wc.alloc (.cells #[.int .u8 b.toNat] 5)).setCell ⟨w.heap.size,4,none⟩ (.string ⟨(Pl.kept 19 (p.run++[b])).toArray⟩)) ⟨((19:Nat):Int),p.tag,p.attr,IN,Pl.kept 19 (p.run++[b]),p.far⟩):=(H2.out.kept (ba _)).put 4 _ (by rfl);have q0':=fun o=>qaa (H2.out.kept ((Below.refl wc.heap.size wc).alloc (Nat.le_refl _) o)).sp 4 _ rfl;clear hv;go_upto_region 14 with(go_at_call 169;refine(qzc 19 p.run b _ Hf.out.2).mono ?_;rintro e w' ⟨rfl,rfl⟩)
  generalize World.setCell _ _ _=w3 at H3 |-;clear q0 q1 q2 q3 q4 q5 q0' g4';obtain⟨q0,q1,q2,q3,q4,q5⟩:=qar H3.out.sp;obtain⟨r0,r1,r2,r3,r4,r5⟩:=qar H3.out.res;obtain⟨f0,f1,f2,f3,f4,f5⟩:=qd0 H3.out.res;go_wp2_with fail
  exact HF.out _ ⟨19,p.tag,p.attr,IN,Pl.kept 19 (p.run++[b]),p.far⟩ _ H3.out.res H3.out.low Hc.out rfl rfl
 ·rw[if_neg Hj]at hv
  have Hc:=hd hv;clear hv;go_wp2_with (go_at_call 123;refine(HS.out _).mono ?_;rintro e w3 ⟨rfl,hk⟩;have H3:=hd (H2.out.kept hk);clear hk;obtain⟨r0,r1,r2,r3,r4,r5⟩:=qar H3.out.res;obtain⟨f0,f1,f2,f3,f4,f5⟩:=qd0 H3.out.res)
  exact HF.out _ N _ H3.out.res H3.out.low Hc.out rfl rfl
theorem q0l(p:Pl.Sp)(m:Nat)(b:UInt8)(w:World)(Ha:p.mode=m)(hm:m<=33)(ht:p.tag.length<=1000)(ha:p.attr.length<=1000)(hi:p.inside.length<=1000)(Hb:p.run.length<=2000000000000000000) :
  Calls Tryz.prog 88 #[qau p,.int .u8 b.toNat] w fun e w'=>e=.returned (qau (p.next b))/\Below w.heap.size w w':=by
 have hE:=fun w=>qr9 p m b w Ha hm ht ha hi Hb;have hS:=fun w=>qqk p m b w Ha hm ht ha Hb;have hv:p.next b=if 19<=m then p.element m b else p.step m b:=by unfold Pl.Sp.next;rw[Ha,Int.toNat_natCast]
 have H0:=hd (Sp2.start w p);have hN:∃N:Pl.Sp,p.next b=N/\(19<=m->p.element m b=N)/\(¬ 19<=m->p.step m b=N):=⟨_,rfl,fun h=>by rw[hv,if_pos h],fun h=>by rw[hv,if_neg h]⟩;obtain⟨N,e,e1,e2⟩:=hN;rw[e];clear hv e;obtain⟨nm,nt,na,ni,nr,nf⟩:=N;unfold qau at hE hS |-;unfold qag at H0 hE hS |-;rw[Ha]at H0 hE hS |-;clear Ha hm ht ha hi Hb;by_cases h:19<=m
 ·rw[e1 h]at hE
  have HC:=hd hE;have hc:(19:Int)<=(m:Int):=by omega
  clear hE hS e1 e2 h;go_enter Tryz.func88,Tryz.ntmps88
  go_wp2_with (go_at_call 122;refine(HC.out _).mono ?_;rintro e w1 ⟨rfl,hb⟩;have H1:=hd (H0.out.kept hb);clear hb;obtain⟨r0,r1,r2,r3,r4,r5⟩:=qar H1.out.res;obtain⟨f0,f1,f2,f3,f4,f5⟩:=qd0 H1.out.res)
  refine qfk Tryz.results88 (w.heap.size+1) _ Tryz.underlying94 rfl (by kernel_rfl) rfl ⟨_,_,H1.out.res,rfl⟩ rfl _ _ _ _ _ _ ?_;exact⟨rfl,qbx H1.out.low (by simp) _ _ _ _ _ _⟩
 ·rw[e2 h]at hS
  have HC:=hd hS;have hc:¬(19:Int)<=(m:Int):=by omega
  clear hE hS e1 e2 h;go_enter Tryz.func88,Tryz.ntmps88
  go_wp2_with (go_at_call 123;refine(HC.out _).mono ?_;rintro e w1 ⟨rfl,hb⟩;have H1:=hd (H0.out.kept hb);clear hb;obtain⟨r0,r1,r2,r3,r4,r5⟩:=qar H1.out.res;obtain⟨f0,f1,f2,f3,f4,f5⟩:=qd0 H1.out.res)
  refine qfk Tryz.results88 (w.heap.size+1) _ Tryz.underlying94 rfl (by kernel_rfl) rfl ⟨_,_,H1.out.res,rfl⟩ rfl _ _ _ _ _ _ ?_;exact⟨rfl,qbx H1.out.low (by simp) _ _ _ _ _ _⟩
end Go.Proofs.YtfkhljmiehdgmaaGreatDoor
