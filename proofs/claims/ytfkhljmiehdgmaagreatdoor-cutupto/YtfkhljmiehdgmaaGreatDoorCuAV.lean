/-
  Steps of the proof.
-/
import Derived.Test.YtfkhljmiehdgmaaGreatDoorCuAL
set_option maxRecDepth 100000
set_option maxHeartbeats 40000000
namespace Go.Proofs.YtfkhljmiehdgmaaGreatDoor
open Go.RowKit Go.Proofs.Tryz Pl
theorem q0e(p:Sp)(m:Nat)(b:UInt8)(k:Int)(w:World)(y:p.mode=m)(J:p.tag.length<=1000)(O:p.attr.length<=1000) :
  zC 172 #[qaz p,zJ b.toNat,zI k] w fun e w'=>e=.returned (qaz (p.named m b k))/\zW w w':=by
 generalize hQ:(fun(e:Ending) (w':World)=>e=.returned (qaz (p.named m b k))/\zW w w')=Q;have T:=zH hQ;have U:=zH (Sp3.start w p ⟨0,p.tag,[],p.inside,[],0⟩);have V:=(show Hid (p.mode=m)from y);unfold qaz;unfold qan at U |-;rw[y]at U |-;clear hQ y;have X:(ByteArray.mk p.tag.toArray).size=p.tag.length:=by simp[ByteArray.size]
 have I:(ByteArray.mk p.attr.toArray).size=p.attr.length:=by simp[ByteArray.size]
 have Y:=zH (And.intro J O);clear J O;go_enter func172,ntmps172
 go_upto_block 0 with fail
 generalize World.alloc _ _=w2 at U |-;obtain⟨g,Z⟩:∃g,g=w.heap.size+1+1:=⟨_,rfl⟩;rw[<-Z]at U |-;clear Z;have HF:Hid (∀(wx:World) (q:Sp) (a:Act),Sp3 w wx g p q->p.named m b k=q->a.tmps.getD 6 undef=zP (w.heap.size+1)->a.defers=[]->bodyPost prog f172 Q .ret a (set6 wx (w.heap.size+1) (zI q.mode) (.string ⟨q.tag.toArray⟩) (.string ⟨q.attr.toArray⟩) (.string ⟨q.inside.toArray⟩) (.string ⟨q.run.toArray⟩) (zI q.far))):=by
  intro wx q a h e h6 hd;refine qfs results172 (w.heap.size+1) _ underlying94 rfl (by kernel_rfl) h6 ⟨_,_,h.res,rfl⟩ hd _ _ _ _ _ _ ?_;rw[<-T.out,e];exact⟨rfl,qb9 h.low (by omega) _ _ _ _ _ _⟩
 have HR:=U.out.res;have r0:=qbu HR;have f0:=qgx HR;clear HR;have t0:=qbu U.out.tt;by_cases D:19<=k
 ·go_wp2
  exact HF.out _ ⟨0,p.tag,[],p.inside,[],0⟩ _ U.out (by unfold Sp.named;rw[if_pos D]) rfl rfl
 have FT:=zH (qgx U.out.tt);go_cut [14,18,38,58,76] (fun s14 s18 s38 s58 s76 wx=>Hid (Sp3 w wx g p (p.named m b k)))
 case first=>
  obtain⟨q0,q1,q2,q3,q4,q5⟩:=qbu U.out.sp;rw[V.out]at q0;by_cases k3:k=3
  ·subst k3
   have J:=Y.out.1;have z:=zH J;have q':=fun o=>qaa (U.out.alloc o).sp 1 _ rfl;have t':=fun o=>qaa (U.out.alloc o).tt 1 _ rfl;have g':=fun o=>xH _ _ 1 _ _ (U.out.alloc o).tt;have cv:=qi0 (small b) w2 _ rfl;have cd:=q2z (small b) w2 _ rfl;go_upto_region 6 with fail
   go_cut [] (fun wx=>Hid (Sp3 w wx g p ⟨0,qfx (p.tag++[small b]),[],p.inside,[],0⟩))
   case first=>
    go_wp2
    go_region_with (first|(go_at_call 101;refine cm (qg7 b _) ?_)|(go_at_call 212;refine cm (qx8 p.tag (small b) _ z.out) ?_))
    all_goals
     go_wp2
     go_meet
     exact((U.out.alloc _).put 1 _ (by rfl)).drew
   case rest=>
   have H1:=zH hcut.out;clear hcut q0 q1 q2 q3 q4 q5 q' t' g' t0 cv cd r0 f0;have q0:=qaa H1.out.sp 0 _ rfl;rw[V.out]at q0;have t':=fun o=>qaa (H1.out.alloc o).tt 1 _ rfl;have g':=fun o=>xH _ _ 1 _ _ (H1.out.alloc o).tt;have cv:=qi0 (small b) wc _ rfl;by_cases hm:m=2
   ·subst hm
    go_wp2_with (go_at_call 101;refine cm (qg7 b _) ?_)
    go_meet
    rw[show p.named 2 b 3=⟨0,[small b],[],p.inside,[],0⟩ by rfl];exact(H1.out.alloc _).put 1 _ (by rfl)
   ·go_wp2_with (go_at_call 101;refine cm (qg7 b _) ?_)
    go_meet
    rw[show p.named m b 3=⟨0,qfx (p.tag++[small b]),[],p.inside,[],0⟩ by unfold Sp.named;simp[hm]];exact H1.out
  by_cases k5:k=5
  ·subst k5
   have J:=Y.out.2;have z:=zH J;have q':=fun o=>qaa (U.out.alloc o).sp 2 _ rfl;have t':=fun o=>qaa (U.out.alloc o).tt 2 _ rfl;have g':=fun o=>xH _ _ 2 _ _ (U.out.alloc o).tt;have cv:=qi0 (small b) w2 _ rfl;have cd:=q2z (small b) w2 _ rfl;go_upto_region 10 with fail
   go_cut [] (fun wx=>Hid (Sp3 w wx g p ⟨0,p.tag,qfx (p.attr++[small b]),p.inside,[],0⟩))
   case first=>
    go_wp2
    go_region_with (first|(go_at_call 101;refine cm (qg7 b _) ?_)|(go_at_call 212;refine cm (qx8 p.attr (small b) _ z.out) ?_))
    all_goals
     go_wp2
     go_meet
     exact((U.out.alloc _).put 2 _ (by rfl)).drew
   case rest=>
   have H1:=zH hcut.out;clear hcut q0 q1 q2 q3 q4 q5 q' t' g' t0 cv cd r0 f0;have q0:=qaa H1.out.sp 0 _ rfl;rw[V.out]at q0;have t':=fun o=>qaa (H1.out.alloc o).tt 2 _ rfl;have g':=fun o=>xH _ _ 2 _ _ (H1.out.alloc o).tt;have cv:=qi0 (small b) wc _ rfl;by_cases hm:m=5
   ·subst hm
    go_wp2_with (go_at_call 101;refine cm (qg7 b _) ?_)
    go_meet
    rw[show p.named 5 b 5=⟨0,p.tag,qfx (p.attr++[small b]),p.inside,[],0⟩ by rfl];exact H1.out
   ·go_wp2_with (go_at_call 101;refine cm (qg7 b _) ?_)
    go_meet
    rw[show p.named m b 5=⟨0,p.tag,[small b],p.inside,[],0⟩ by unfold Sp.named;simp[hm]];exact(H1.out.alloc _).put 2 _ (by rfl)
  obtain⟨g0,g1,g2,g3,g4,g5⟩:=FT.out;by_cases k6:k=6\/k=7\/k=8\/k=9
  ·rcases k6 with rfl | rfl | rfl | rfl
   all_goals
    go_wp2
    go_meet
    exact U.out.put 2 _ (by rfl)
  by_cases k4:k=4\/k=10
  ·rcases k4 with rfl | rfl
   all_goals
    go_wp2
    go_meet
    exact U.out
  have hk:(k==3)=false/\(k==5)=false/\(k==6)=false/\(k==7)=false/\(k==8)=false/\(k==9)=false/\(k==4)=false/\(k==10)=false:=by simp;omega
  obtain⟨e1,e2,e3,e4,e5,e6,e7,e8⟩:=hk;have HN:Hid (p.named m b k=⟨0,[],[],p.inside,[],0⟩):=by show _=_;unfold Sp.named;rw[if_neg D,if_neg k3,if_neg k5,if_neg k6,if_neg k4]
  clear k3 k5 k6 k4;go_wp2
  go_meet
  rw[HN.out];exact U.out.put 1 _ (by rfl)
 case rest=>
 have H1:=zH hcut.out;clear hcut r0 f0 t0;generalize hN:p.named m b k=N at H1;have r0:=qbu H1.out.res;have f0:=qgx H1.out.res;have t0:=qbu H1.out.tt;have HN:=zH hN;clear hN;go_wp2
 exact HF.out _ N _ H1.out HN.out rfl rfl
end Go.Proofs.YtfkhljmiehdgmaaGreatDoor
