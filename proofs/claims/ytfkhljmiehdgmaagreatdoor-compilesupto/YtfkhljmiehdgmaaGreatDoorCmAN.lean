/-
  Steps of the proof.
-/
import Derived.Test.YtfkhljmiehdgmaaGreatDoorCmAI
set_option maxRecDepth 100000
set_option maxHeartbeats 40000000
namespace Go.Proofs.YtfkhljmiehdgmaaGreatDoor
open Go.RowKit
theorem qws(p:Pl.Sp)(m:Nat)(b:UInt8)(k:Int)(w:World)(Ha:p.mode=m)(ht:p.tag.length<=1000)(ha:p.attr.length<=1000) :
  Calls Tryz.prog 172 #[qau p,.int .u8 b.toNat,.int .i64 k] w fun e w'=>e=.returned (qau (p.named m b k))/\Below w.heap.size w w':=by
 generalize hQ:(fun(e:Ending) (w':World)=>e=.returned (qau (p.named m b k))/\Below w.heap.size w w')=Q;have HQ:=hd hQ;have H0:=hd (Sp3.start w p ⟨0,p.tag,[],p.inside,[],0⟩);have HP:=(show Hid (p.mode=m)from Ha);unfold qau;unfold qag at H0 |-;rw[Ha]at H0 |-;clear hQ Ha;have hz:(ByteArray.mk p.tag.toArray).size=p.tag.length:=by simp[ByteArray.size]
 have hc:(ByteArray.mk p.attr.toArray).size=p.attr.length:=by simp[ByteArray.size]
 have HT:=hd (And.intro ht ha);clear ht ha;go_enter Tryz.func172,Tryz.ntmps172
 go_upto_block 0 with fail
 generalize World.alloc _ _=w2 at H0 |-;obtain⟨g,hg⟩:∃g,g=w.heap.size+1+1:=⟨_,rfl⟩;rw[<-hg]at H0 |-;clear hg;have HF:Hid (∀(wx:World) (q:Pl.Sp) (a:Act),Sp3 w wx g p q->p.named m b k=q->a.tmps.getD 6 undef=.pointer (some ⟨w.heap.size+1,0,none⟩)->a.defers=[]->bodyPost Tryz.prog Tryz.f172 Q .ret a (set6 wx (w.heap.size+1) (.int .i64 q.mode) (.string ⟨q.tag.toArray⟩) (.string ⟨q.attr.toArray⟩) (.string ⟨q.inside.toArray⟩) (.string ⟨q.run.toArray⟩) (.int .i64 q.far))):=by
  intro wx q a h e h6 hd;refine qfk Tryz.results172 (w.heap.size+1) _ Tryz.underlying94 rfl (by kernel_rfl) h6 ⟨_,_,h.res,rfl⟩ hd _ _ _ _ _ _ ?_;rw[<-HQ.out,e];exact⟨rfl,qbx h.low (by omega) _ _ _ _ _ _⟩
 have HR:=H0.out.res;obtain⟨r0,r1,r2,r3,r4,r5⟩:=qar HR;obtain⟨f0,f1,f2,f3,f4,f5⟩:=qd0 HR;clear HR;obtain⟨t0,t1,t2,t3,t4,t5⟩:=qar H0.out.tt;by_cases Hb:19<=k
 ·go_wp2_with fail
  exact HF.out _ ⟨0,p.tag,[],p.inside,[],0⟩ _ H0.out (by unfold Pl.Sp.named;rw[if_pos Hb]) rfl rfl
 have FT:=hd (qd0 H0.out.tt);go_cut [14,18,38,58,76] (fun s14 s18 s38 s58 s76 wx=>Hid (Sp3 w wx g p (p.named m b k)))
 case first=>
  obtain⟨q0,q1,q2,q3,q4,q5⟩:=qar H0.out.sp;rw[HP.out]at q0;by_cases k3:k=3
  ·subst k3
   have ht:=HT.out.1;have hb:=hd ht;have q':=fun o=>qaa (H0.out.alloc o).sp 1 _ rfl;have t':=fun o=>qaa (H0.out.alloc o).tt 1 _ rfl;have g':=fun o=>frozen_of_row _ _ 1 _ _ (H0.out.alloc o).tt;have cv:=qig (Pl.qcr b) w2 _ rfl;have cd:=qy3 (Pl.qcr b) w2 _ rfl;go_upto_region 6 with fail
   go_cut [] (fun wx=>Hid (Sp3 w wx g p ⟨0,Pl.qfp (p.tag++[Pl.qcr b]),[],p.inside,[],0⟩))
   case first=>
    go_wp2_with fail
    go_region_with (first|(go_at_call 101;refine(qgw b _).mono ?_;rintro e w' ⟨rfl,rfl⟩)|(go_at_call 212;refine(qu3 p.tag (Pl.qcr b) _ hb.out).mono ?_;rintro e w' ⟨rfl,rfl⟩))
    all_goals
     go_wp2_with fail
     go_meet
     exact((H0.out.alloc _).put 1 _ (by rfl)).drew
   case rest=>
   have H1:=hd hcut.out;clear hcut q0 q1 q2 q3 q4 q5 q' t' g' t0 t1 t2 t3 t4 t5 cv cd r0 r1 r2 r3 r4 r5 f0 f1 f2 f3 f4 f5;have q0:=qaa H1.out.sp 0 _ rfl;rw[HP.out]at q0;have t':=fun o=>qaa (H1.out.alloc o).tt 1 _ rfl;have g':=fun o=>frozen_of_row _ _ 1 _ _ (H1.out.alloc o).tt;have cv:=qig (Pl.qcr b) wc _ rfl;by_cases hm:m=2
   ·subst hm
    go_wp2_with (go_at_call 101;refine(qgw b _).mono ?_;rintro e w' ⟨rfl,rfl⟩)
    go_meet
    rw[show p.named 2 b 3=⟨0,[Pl.qcr b],[],p.inside,[],0⟩ by rfl];exact(H1.out.alloc _).put 1 _ (by rfl)
   ·go_wp2_with (go_at_call 101;refine(qgw b _).mono ?_;rintro e w' ⟨rfl,rfl⟩)
    go_meet
    rw[show p.named m b 3=⟨0,Pl.qfp (p.tag++[Pl.qcr b]),[],p.inside,[],0⟩ by unfold Pl.Sp.named;simp[hm]];exact H1.out
  by_cases k5:k=5
  ·subst k5
   have ht:=HT.out.2;have hb:=hd ht;have q':=fun o=>qaa (H0.out.alloc o).sp 2 _ rfl;have t':=fun o=>qaa (H0.out.alloc o).tt 2 _ rfl;have g':=fun o=>frozen_of_row _ _ 2 _ _ (H0.out.alloc o).tt;have cv:=qig (Pl.qcr b) w2 _ rfl;have cd:=qy3 (Pl.qcr b) w2 _ rfl;go_upto_region 10 with fail
   go_cut [] (fun wx=>Hid (Sp3 w wx g p ⟨0,p.tag,Pl.qfp (p.attr++[Pl.qcr b]),p.inside,[],0⟩))
   case first=>
    go_wp2_with fail
    go_region_with (first|(go_at_call 101;refine(qgw b _).mono ?_;rintro e w' ⟨rfl,rfl⟩)|(go_at_call 212;refine(qu3 p.attr (Pl.qcr b) _ hb.out).mono ?_;rintro e w' ⟨rfl,rfl⟩))
    all_goals
     go_wp2_with fail
     go_meet
     exact((H0.out.alloc _).put 2 _ (by rfl)).drew
   case rest=>
   have H1:=hd hcut.out;clear hcut q0 q1 q2 q3 q4 q5 q' t' g' t0 t1 t2 t3 t4 t5 cv cd r0 r1 r2 r3 r4 r5 f0 f1 f2 f3 f4 f5;have q0:=qaa H1.out.sp 0 _ rfl;rw[HP.out]at q0;have t':=fun o=>qaa (H1.out.alloc o).tt 2 _ rfl;have g':=fun o=>frozen_of_row _ _ 2 _ _ (H1.out.alloc o).tt;have cv:=qig (Pl.qcr b) wc _ rfl;by_cases hm:m=5
   ·subst hm
    go_wp2_with (go_at_call 101;refine(qgw b _).mono ?_;rintro e w' ⟨rfl,rfl⟩)
    go_meet
    rw[show p.named 5 b 5=⟨0,p.tag,Pl.qfp (p.attr++[Pl.qcr b]),p.inside,[],0⟩ by rfl];exact H1.out
   ·go_wp2_with (go_at_call 101;refine(qgw b _).mono ?_;rintro e w' ⟨rfl,rfl⟩)
    go_meet
    rw[show p.named m b 5=⟨0,p.tag,[Pl.qcr b],p.inside,[],0⟩ by unfold Pl.Sp.named;simp[hm]];exact(H1.out.alloc _).put 2 _ (by rfl)
  obtain⟨g0,g1,g2,g3,g4,g5⟩:=FT.out;by_cases k6:k=6\/k=7\/k=8\/k=9
  ·rcases k6 with rfl|rfl|rfl|rfl
   all_goals
    go_wp2_with fail
    go_meet
    exact H0.out.put 2 _ (by rfl)
  by_cases k4:k=4\/k=10
  ·rcases k4 with rfl|rfl
   all_goals
    go_wp2_with fail
    go_meet
    exact H0.out
  have hk:(k==3)=false/\(k==5)=false/\(k==6)=false/\(k==7)=false/\(k==8)=false/\(k==9)=false/\(k==4)=false/\(k==10)=false:=by simp;omega
  obtain⟨e1,e2,e3,e4,e5,e6,e7,e8⟩:=hk;have HN:Hid (p.named m b k=⟨0,[],[],p.inside,[],0⟩):=by show _=_;unfold Pl.Sp.named;rw[if_neg Hb,if_neg k3,if_neg k5,if_neg k6,if_neg k4]
  clear k3 k5 k6 k4;go_wp2_with fail
  go_meet
  rw[HN.out];exact H0.out.put 1 _ (by rfl)
 case rest=>
 have H1:=hd hcut.out;clear hcut r0 r1 r2 r3 r4 r5 f0 f1 f2 f3 f4 f5 t0 t1 t2 t3 t4 t5;generalize hN:p.named m b k=N at H1;obtain⟨r0,r1,r2,r3,r4,r5⟩:=qar H1.out.res;obtain⟨f0,f1,f2,f3,f4,f5⟩:=qd0 H1.out.res;obtain⟨t0,t1,t2,t3,t4,t5⟩:=qar H1.out.tt;have HN:=hd hN;clear hN;go_wp2_with fail
 exact HF.out _ N _ H1.out HN.out rfl rfl
end Go.Proofs.YtfkhljmiehdgmaaGreatDoor
