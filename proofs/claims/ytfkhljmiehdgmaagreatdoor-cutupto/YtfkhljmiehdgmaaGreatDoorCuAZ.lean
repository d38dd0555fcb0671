/-
  Steps of the proof.
-/
import Derived.Test.YtfkhljmiehdgmaaGreatDoorCuAY
set_option maxRecDepth 100000
set_option maxHeartbeats 40000000
namespace Go.Proofs.YtfkhljmiehdgmaaGreatDoor
open Go.RowKit Go.Proofs.Tryz Pl
theorem qum(p:Sp)(m:Nat)(b:UInt8)(w:World)(I:p.mode=m)(hm:m<=33)(ht:p.tag.length<=1000)(ha:p.attr.length<=1000)(hi:p.inside.length<=1000)(J:p.run.length<=2000000000000000000) :
  zC 122 #[qaz p,zJ b.toNat] w fun e w'=>e=.returned (qaz (p.element m b))/\zW w w':=by
 have z:=fun w=>q2t p w ht hi;have hS:=fun w=>qsm ⟨m,p.tag,p.attr,qce (p.inside++[b]),p.run,p.far⟩ m b w rfl hm ht ha J;have hl:(qcr p.tag).length=p.tag.length+2:=rfl
 have hV:p.element m b=if(((p.read:Int)==(p.tag.length:Int)+2) && among b qdl)=true then(if b=62 then Sp.start else⟨12,[],[],[],[],0⟩)
   else if(qca m && (qdz (qbg m) p.run==1))=true then⟨m,p.tag,p.attr,qce (p.inside++[b]),p.run++[b],p.far⟩
   else if m=19 then⟨m,p.tag,p.attr,qce (p.inside++[b]),kept m (p.run++[b]),p.far⟩
   else(Sp.mk m p.tag p.attr (qce (p.inside++[b])) p.run p.far).step m b:=by
  unfold Sp.element;rw[hl];have hc:p.read=p.tag.length+2↔(p.read:Int)=(p.tag.length:Int)+2:=⟨by omega,by omega⟩;simp only[hc,yL,yF]
 generalize (Sp.mk m p.tag p.attr (qce (p.inside++[b])) p.run p.far).step m b=N at hS hV;generalize p.element m b=V at hV |-;generalize hQ:(fun(e:Ending) (w':World)=>e=.returned (qaz V)/\zW w w')=Q;have H0:=zH (Sp2.start w p);have HF:Hid (∀(wx:World) (q:Sp) (a:Act),wx.heap[w.heap.size+1]?=zK (qan ⟨0,[],[],[],[],0⟩) 94->zW w wx->V=q->a.tmps.getD 4 undef=zP (w.heap.size+1)->a.defers=[]->bodyPost prog f122 Q .ret a (set6 wx (w.heap.size+1) (zI q.mode) (.string ⟨q.tag.toArray⟩) (.string ⟨q.attr.toArray⟩) (.string ⟨q.inside.toArray⟩) (.string ⟨q.run.toArray⟩) (zI q.far))):=by
  intro wx q a h hl e h4 hd;refine qfs results122 (w.heap.size+1) _ underlying94 rfl (by kernel_rfl) h4 ⟨_,_,h,rfl⟩ hd _ _ _ _ _ _ ?_;rw[<-hQ,e];exact⟨rfl,qb9 hl (by omega) _ _ _ _ _ _⟩
 clear hQ;have HV:=zH hV;have HP:=(show Hid (p.mode=m)from I);have O:=zH (And.intro hi J);have hz:(ByteArray.mk p.run.toArray).size=p.run.length:=by simp[ByteArray.size]
 have He:(ByteArray.mk p.inside.toArray).size=p.inside.length:=by simp[ByteArray.size]
 have hf:(ByteArray.mk p.tag.toArray).size=p.tag.length:=by simp[ByteArray.size]
 unfold qaz at z hS |-;unfold qan at H0 z hS |-;rw[I]at H0 z |-;simp only at hS;have U:=zH z;have HS:=zH hS;clear hV I z hS ha hl;go_enter func122,ntmps122
 go_upto_region 2 with(go_at_call 66;refine(U.out _).mono ?_;rintro e w1 ⟨rfl,Y⟩;have H1:=zH (H0.out.kept Y);clear Y)
 clear H0 U;obtain⟨q0,q1,q2,q3,q4,q5⟩:=qbu H1.out.sp;have r0:=qbu H1.out.res;have f0:=qgx H1.out.res;rw[HP.out]at q0;have HT:=zH ht;go_cut [18] (fun s wx=>s=.bool (((p.read:Int)==(p.tag.length:Int)+2) && among b qdl)/\wx=w1)
 case first=>
  cases hr:((p.read:Int)==(p.tag.length:Int)+2)
  ·go_wp2
   go_meet
   exact⟨by rw[hr];rfl,rfl⟩
  ·go_wp2_with (go_at_call 80;refine(qed b _ qdl _ rfl (by decide)).mono ?_;rintro e w' ⟨rfl,rfl⟩)
   go_meet
   exact⟨by rw[hr];rfl,rfl⟩
 case rest=>
 obtain⟨rfl,rfl⟩:=hcut;generalize (((p.read:Int)==(p.tag.length:Int)+2) && among b qdl)=X at HV |-;cases X
 rotate_left
 ·have hv:=HV.out
  rw[if_pos rfl]at hv;by_cases hb:b=62
  ·subst hb
   have y:=zH hv;have H2:=zH (H1.out.kept (zB (.cells #[zI 1,zS,zS,zS,zS,zI 0] 94)));clear hv r0 f0;have r0:=qbu H2.out.res;have f0:=qgx H2.out.res;go_wp2_with (go_at_call 34;refine(qln _).mono ?_;rintro e w3 ⟨rfl,rfl⟩)
   exact HF.out _ ⟨1,[],[],[],[],0⟩ _ H2.out.res H2.out.low y.out rfl rfl
  ·rw[if_neg hb]at hv
   have y:=zH hv;have Hf:((b.toNat:Int)==62)=false:=by have:=beq8 b 62;rw[show((62:UInt8).toNat:Int)=62 from rfl]at this;rw[this];exact yf.2 hb
   clear hv hb;go_wp2
   exact HF.out _ ⟨12,[],[],[],[],0⟩ _ H1.out.res H1.out.low y.out rfl rfl
 have y:=zH (HV.out.trans (if_neg (by decide)));clear HV r0 f0;have q3':=fun o=>(qaa (H1.out.kept ((xL wc.heap.size wc).alloc (yg _) o)).sp 3 _ rfl);have g3':=fun o=>(xH _ _ 3 _ _ (H1.out.kept ((xL wc.heap.size wc).alloc (yg _) o)).sp);have cv:=qi0 b wc _ rfl;go_upto_region 7 with(go_at_call 168;refine(zbi p.inside b _ (by have:=O.out.1;omega)).mono ?_;rintro e w' ⟨rfl,rfl⟩)
 have H2:Hid (Sp2 w ((wc.alloc (.cells #[zJ b.toNat] 5)).setCell (zO w.heap.size 3) (.string ⟨(qce (p.inside++[b])).toArray⟩)) ⟨p.mode,p.tag,p.attr,qce (p.inside++[b]),p.run,p.far⟩):=(H1.out.kept (zB _)).put 3 _ (by rfl);rw[HP.out]at H2;clear q0 q1 q2 q3 q4 q5 q3' g3' cv H1;generalize World.setCell _ _ _=w2 at H2 |-;generalize qce (p.inside++[b])=IN at y H2 HS |-;obtain⟨q0,q1,q2,q3,q4,q5⟩:=qbu H2.out.sp;have g4':=fun o=>xH _ _ 4 _ _ (H2.out.kept ((xL w2.heap.size w2).alloc (yg _) o)).sp;have cv:=qi0 b w2 _ rfl;have J:=O.out.2;have hE:=fun w=>qnx ⟨p.run.toArray⟩ (qbg m) w (by rw[hz];omega);generalize hc:qdz (qbg m) p.run=C at y;have hE:∀(w:World) (t:Bool),t=qbg m->zC 70 #[.string ⟨p.run.toArray⟩,.bool t] w fun e w'=>e=.returned (zI C)/\w=w':=fun w t ht=>by rw[ht,<-hc];exact hE w
 have HE:=zH hE;have Z:(ByteArray.mk p.run.toArray++ByteArray.mk #[b])=⟨(p.run++[b]).toArray⟩:=by apply xi;simp
 have Hc:=zH Z;clear hE hc Z;have hi:=qhy m;generalize qca m=S at y hi;have HI:=zH hi;clear hi;go_upto_if 33 with(go_at_call 69;refine(HI.out _).mono ?_;rintro e w' ⟨rfl,rfl⟩)
 go_cut [6] (fun s6 wx=>wx=w2/\Hid ((S && (C==1))=false))
 case first=>
  have q0':=fun o=>qaa (H2.out.kept ((xL w2.heap.size w2).alloc (yg _) o)).sp 4 _ rfl;cases S
  ·go_wp2
   go_meet
   exact⟨rfl,by show _=_;rfl⟩
  have hx:((28:Int)<=(m:Int)/\Hid (true=qbg m))\/(¬(28:Int)<=(m:Int)/\Hid (false=qbg m)):=(Nat.lt_or_ge m 28).symm.imp (fun h=>⟨by omega,(yV (by omega)).symm⟩) fun h=>⟨by omega,(yx (by omega)).symm⟩;cases he:C==1
  ·rcases hx with ⟨T,hx⟩ | ⟨T,hx⟩
   all_goals
    go_upto_region 9 with(go_at_call 70;refine(HE.out _ _ hx.out).mono ?_;rintro e w' ⟨rfl,rfl⟩)
    go_wp2
    go_meet
    exact⟨rfl,by show _=_;rw[he];rfl⟩
  ·have D:Hid (V=⟨m,p.tag,p.attr,IN,p.run++[b],p.far⟩):=y.out.trans (if_pos (by rw[he];rfl))
   have H3:Hid (Sp2 w ((w2.alloc (.cells #[zJ b.toNat] 5)).setCell (zO w.heap.size 4) (.string (ByteArray.mk p.run.toArray++ByteArray.mk #[b]))) ⟨m,p.tag,p.attr,IN,p.run++[b],p.far⟩):=(H2.out.kept (zB _)).put 4 _ (by rw[Hc.out];rfl);rcases hx with⟨T,hx⟩|⟨T,hx⟩
   all_goals
    go_upto_region 11 with(go_at_call 70;refine(HE.out _ _ hx.out).mono ?_;rintro e w' ⟨rfl,rfl⟩)
    generalize World.setCell _ _ _=w3 at H3 |-;clear q0 q1 q2 q3 q4 q5 q0' g4';obtain⟨q0,q1,q2,q3,q4,q5⟩:=qbu H3.out.sp;have r0:=qbu H3.out.res;have f0:=qgx H3.out.res;go_wp2
    exact HF.out _ ⟨m,p.tag,p.attr,IN,p.run++[b],p.far⟩ _ H3.out.res H3.out.low D.out rfl rfl
 case rest=>
 obtain⟨rfl,HX⟩:=hcut;have hv:=y.out;rw[if_neg (by rw[HX.out];decide)]at hv;clear y;by_cases Ha:m=19
 ·subst Ha
  rw[if_pos rfl]at hv;have D:=zH hv;have H3:Hid (Sp2 w ((wc.alloc (.cells #[zJ b.toNat] 5)).setCell (zO w.heap.size 4) (.string ⟨(kept 19 (p.run++[b])).toArray⟩)) ⟨((19:Nat):Int),p.tag,p.attr,IN,kept 19 (p.run++[b]),p.far⟩):=(H2.out.kept (zB _)).put 4 _ (by rfl);have q0':=fun o=>qaa (H2.out.kept ((xL wc.heap.size wc).alloc (yg _) o)).sp 4 _ rfl;clear hv;go_upto_region 14 with(go_at_call 169;refine(q26 19 p.run b _ O.out.2).mono ?_;rintro e w' ⟨rfl,rfl⟩)
  generalize World.setCell _ _ _=w3 at H3 |-;clear q0 q1 q2 q3 q4 q5 q0' g4';obtain⟨q0,q1,q2,q3,q4,q5⟩:=qbu H3.out.sp;have r0:=qbu H3.out.res;have f0:=qgx H3.out.res;go_wp2
  exact HF.out _ ⟨19,p.tag,p.attr,IN,kept 19 (p.run++[b]),p.far⟩ _ H3.out.res H3.out.low D.out rfl rfl
 ·rw[if_neg Ha]at hv
  have D:=zH hv;clear hv;go_wp2_with (go_at_call 123;refine(HS.out _).mono ?_;rintro e w3 ⟨rfl,Hb⟩;have H3:=zH (H2.out.kept Hb);clear Hb;have r0:=qbu H3.out.res;have f0:=qgx H3.out.res)
  exact HF.out _ N _ H3.out.res H3.out.low D.out rfl rfl
theorem q4p(p:Sp)(m:Nat)(b:UInt8)(w:World)(y:p.mode=m)(J:m<=33)(O:p.tag.length<=1000)(T:p.attr.length<=1000)(U:p.inside.length<=1000)(D:p.run.length<=2000000000000000000) :
  zC 88 #[qaz p,zJ b.toNat] w fun e w'=>e=.returned (qaz (p.next b))/\zW w w':=by
 have V:=fun w=>qum p m b w y J O T U D;have X:=fun w=>qsm p m b w y J O T D;have Y:p.next b=if 19<=m then p.element m b else p.step m b:=by unfold Sp.next;rw[y,Int.toNat_natCast]
 have Z:=zH (Sp2.start w p);have hN:∃N:Sp,p.next b=N/\(19<=m->p.element m b=N)/\(¬ 19<=m->p.step m b=N):=⟨_,rfl,fun h=>by rw[Y,if_pos h],fun h=>by rw[Y,if_neg h]⟩;obtain⟨N,e,e1,e2⟩:=hN;rw[e];clear Y e;obtain⟨nm,nt,na,ni,nr,nf⟩:=N;unfold qaz at V X |-;unfold qan at Z V X |-;rw[y]at Z V X |-;clear y J O T U D;by_cases h:19<=m
 ·rw[e1 h]at V
  have HC:=zH V;have I:(19:Int)<=(m:Int):=by omega
  clear V X e1 e2 h;go_enter func88,ntmps88
  go_wp2_with (go_at_call 122;refine(HC.out _).mono ?_;rintro e w1 ⟨rfl,z⟩;have H1:=zH (Z.out.kept z);clear z;have r0:=qbu H1.out.res;have f0:=qgx H1.out.res)
  refine qfs results88 (w.heap.size+1) _ underlying94 rfl (by kernel_rfl) rfl ⟨_,_,H1.out.res,rfl⟩ rfl _ _ _ _ _ _ ?_;exact⟨rfl,qb9 H1.out.low (by simp) _ _ _ _ _ _⟩
 ·rw[e2 h]at X
  have HC:=zH X;have I:¬(19:Int)<=(m:Int):=by omega
  clear V X e1 e2 h;go_enter func88,ntmps88
  go_wp2_with (go_at_call 123;refine(HC.out _).mono ?_;rintro e w1 ⟨rfl,z⟩;have H1:=zH (Z.out.kept z);clear z;have r0:=qbu H1.out.res;have f0:=qgx H1.out.res)
  refine qfs results88 (w.heap.size+1) _ underlying94 rfl (by kernel_rfl) rfl ⟨_,_,H1.out.res,rfl⟩ rfl _ _ _ _ _ _ ?_;exact⟨rfl,qb9 H1.out.low (by simp) _ _ _ _ _ _⟩
theorem qwq(p:Sp)(n:Nat)(s:zT)(w:World)(y:SpOk n p)(z:n+s.size<=2000000000000000000) :
  zC 54 #[qaz p,.string s] w (zR (.tuple #[qaz (qei p s.data.toList),zI (wrongFrom p (-1) 0 s.data.toList)]) w):=
 qwp (fun p m b w=>q4p p m b w) p n s w y z
end Go.Proofs.YtfkhljmiehdgmaaGreatDoor
