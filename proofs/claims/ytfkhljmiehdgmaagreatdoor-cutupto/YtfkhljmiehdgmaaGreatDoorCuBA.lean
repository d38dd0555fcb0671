/-
  Steps of the proof.
-/
import Derived.Deep.MidRow
import Derived.Test.YtfkhljmiehdgmaaGreatDoorCuAW
import Derived.Test.YtfkhljmiehdgmaaGreatDoorCuAQ
set_option maxRecDepth 100000
set_option maxHeartbeats 40000000
namespace Go.Proofs.YtfkhljmiehdgmaaGreatDoor
open Go.RowKit Go.Proofs.Tryz Pl
theorem qv5(b:UInt8)(w:World) :
  zC 92 #[zJ b.toNat] w fun e w'=>e=.returned (zJ (qc3 b:Nat))/\w=w':=by
 by_cases h:b=62
 ·subst h
  go_enter func92,ntmps92
  go_wp2
  go_ret
  exact⟨qal rfl,rfl⟩
 ·have y:Hid (qc3 b=12):=by show _=_;unfold qc3;rw[if_neg h]
  have z:((b.toNat:Int)==62)=false:=by have:=beq8 b 62;rw[show((62:UInt8).toNat:Int)=62 from rfl]at this;rw[this];exact yf.2 h
  go_enter func92,ntmps92
  go_wp2
  go_ret
  exact⟨qal (by rw[y.out];rfl),rfl⟩
theorem qtw(x:Sx)(b:UInt8)(w:World)(ht:PTabs w)(h:SxOk x) :
  zC 63 #[qar x,zJ b.toNat] w fun e w'=>e=.returned (qar (x.behind b))/\zW w w':=by
 obtain⟨⟨M,nm,el,kd,rd,es⟩,k⟩:=x;have hx:-1000<=k.hex/\k.hex<=1000:=by have:=h.ma.hex;simp only at this;omega
 have hy:-1000<=k.pct/\k.pct<=1000:=by have:=h.ma.pct;simp only at this;omega
 have h:=h.st;have hn:nm.length<=9:=h.name;have Ht:M<=33:=h.hi;have hs:el.length<=1000:=by have:=qks h.elem;simp only at this;omega
 have I:qa2.getD M false=false->es=false:=h.calm;have hE:=fun w=>zc6 ⟨⟨M,nm,el,kd,rd,es⟩,k⟩ b w hs;have ha:=fun w=>q0r ⟨⟨M,nm,el,kd,rd,es⟩,k⟩ b w hs;obtain⟨V,hV⟩:∃V,Sx.behind ⟨⟨M,nm,el,kd,rd,es⟩,k⟩ b=V:=⟨_,rfl⟩;have He:=q3x ⟨⟨M,nm,el,kd,rd,es⟩,k⟩ b;have Ha:=qy7 ⟨⟨M,nm,el,kd,rd,es⟩,k⟩ b;have Hb:=fun r t=>qrn ⟨⟨M,nm,el,kd,rd,es⟩,k⟩ b r t;have hj:(19<=M->St.nowRead ⟨M,nm,el,kd,rd,es⟩ b=St.readEnd ⟨M,nm,el,kd,rd,es⟩ b)/\(¬ 19<=M->St.nowRead ⟨M,nm,el,kd,rd,es⟩ b=rd):=⟨fun q=>if_pos q,fun q=>if_neg q⟩;rw[hV]at He Ha Hb |-;simp only at He Ha Hb hE ha;generalize St.nowRead ⟨M,nm,el,kd,rd,es⟩ b=RD at Ha Hb hj;generalize St.readEnd ⟨M,nm,el,kd,rd,es⟩ b=RE at ha hj;generalize St.ends ⟨M,nm,el,kd,rd,es⟩ b=EN at hE He Ha Hb;generalize hu:(fun(e:Ending) (w':World)=>e=.returned (qar V)/\zW w w')=Q;have H0:=zH (Sx2.start ht (⟨⟨M,nm,el,kd,rd,es⟩,k⟩:Sx));have HF:Hid (∀(wx:World) (q:Sx) (a:Act),wx.heap[w.heap.size+1]?=zK (qaf ⟨⟨0,[],[],0,0,false⟩,⟨false,0,0,0⟩⟩) 162->zW w wx->V=q->a.tmps.getD 4 undef=zP (w.heap.size+1)->a.defers=[]->bodyPost prog f63 Q .ret a (qdf wx (w.heap.size+1) (zJ (q.st.mode:Int)) (.string ⟨q.st.name.toArray⟩) (.string ⟨q.st.elem.toArray⟩) (zI q.st.kind) (zI (q.st.read:Int)) (.bool q.ma.ref) (.bool q.st.esc) (zI q.ma.hex) (zI q.ma.pct) (zI q.ma.far))):=by
  intro wx q a h hl e h6 hd;refine qle results63 (w.heap.size+1) _ underlying162 rfl (by kernel_rfl) h6 ⟨_,_,h,rfl⟩ hd _ _ _ _ _ _ _ _ _ _ ?_;rw[<-hu,e];exact⟨rfl,qfe hl (by omega) _ _ _ _ _ _ _ _ _ _⟩
 have Hm:=zH ht;have Hj:=zH (And.intro He (And.intro Ha Hb));have Hn:=zH hj;have Z:=(show Hid (nm.length<=9/\M<=33/\el.length<=1000/\(qa2.getD M false=false->es=false)/\(-1000<=k.hex/\k.hex<=1000)/\(-1000<=k.pct/\k.pct<=1000))from⟨hn,Ht,hs,I,hx,hy⟩);unfold qar at hE ha |-;unfold qaf bs at H0 hE ha |-;have HE:=zH hE;have Hu:=zH ha;clear hV hu hE ha hn Ht hs I hx hy h ht He Ha Hb hj;go_enter func63,ntmps63
 go_wp2
 generalize World.alloc _ _=w1 at H0 |-;refine qt6 0 rfl ?_;generalize hQ:Exit.jump 0 _ _=QQ;have HQ:=zH hQ;clear hQ;obtain⟨q0,q1,q2,q3,q4,q5,q6,q7,q8,q9⟩:=qcq H0.out.sp;have g0:=qgm H0.out.sp;go_upto_if 8 with fail
 go_cut []from 6 to 66 (fun wx=>Hid (Sx2 w wx ⟨⟨M,nm,el,kd,RD,es⟩,k⟩/\¬(19<=M/\EN=true)))
 case first=>
  by_cases Hc:19<=M
  rotate_left
  ·have Hz:¬M≥19:=Hc
   have H1:=H0;rw[<-Hn.out.2 Hc]at H1;have HX:=(show Hid (¬(19<=M/\EN=true))from fun q=>Hc q.1);clear Hc;go_wp2
   go_meet
   exact⟨H1.out,HX.out⟩
  cases EN
  ·have HR:=zH (Hn.out.1 Hc)
   have hA:=(show Hid (∀w3,Sx2 w w3 ⟨⟨M,nm,el,kd,rd,es⟩,k⟩->Sx2 w (w3.setCell (zO w.heap.size 4) (zI RE)) ⟨⟨M,nm,el,kd,RD,es⟩,k⟩)from fun w3 h=>h.put Hm.out 4 _ (by rw[HR.out];rfl));go_upto_region 4 with(go_at_call 91;refine(HE.out _).mono ?_;rintro e w3 ⟨rfl,J⟩;have H3:=zH (H0.out.kept J);clear J)
   clear q0 q1 q2 q3 q4 q5 q6 q7 q8 q9 g0;obtain⟨q0,q1,q2,q3,q4,q5,q6,q7,q8,q9⟩:=qcq H3.out.sp;go_wp2_with (go_at_call 93;refine(Hu.out _).mono ?_;rintro e w4 ⟨rfl,U⟩;have H4:=zH (H3.out.kept U);clear U;have r4:=qaa H4.out.sp 4 _ rfl;have f4:=xH _ _ 4 _ _ H4.out.sp)
   go_meet
   exact⟨hA.out _ H4.out,fun q=>nomatch q.2⟩
  ·have hk:=zH (Hj.out.1 Hc rfl)
   go_wp2_with (first|(go_at_call 91;refine(HE.out _).mono ?_;rintro e w3 ⟨rfl,J⟩;have H3:=zH (H0.out.kept J);clear J;obtain⟨r0,r1,r2,r3,r4,r5,r6,r7,r8,r9⟩:=qcq H3.out.res;obtain⟨f0,f1,f2,f3,f4,f5,f6,f7,f8,f9⟩:=qgm H3.out.res)|(go_at_call 92;refine cm (qv5 b _) ?_))
   rw[<-HQ.out];exact HF.out _ ⟨⟨qc3 b,[],[],0,0,false⟩,Mk.none⟩ _ H3.out.res H3.out.low hk.out rfl rfl
 case rest=>
 have H1:=zH hcut.out.1;have HX:=zH hcut.out.2;clear hcut H0 q0 q1 q2 q3 q4 q5 q6 q7 q8 q9 g0 HE Hu;obtain⟨q0,q1,q2,q3,q4,q5,q6,q7,q8,q9⟩:=qcq H1.out.sp;have g0:=qgm H1.out.sp;have c0:=zdn H1.out.tabs.es M (by show _<34;have:=Z.out.2.1;omega);have hf:(M:Int)<34:=by have:=Z.out.2.1;omega
 generalize ho:qa2.getD M false=ES at c0;have Hf:=zH (Hj.out.2.1 HX.out);have Hg:=zH (fun r t=>Hj.out.2.2 r t HX.out);have hv:=(show Hid (ES=false->es=false)from by rw[<-ho];exact Z.out.2.2.2.1);rw[ho]at Hf Hg;clear ho;go_upto_region 5 with fail
 go_cut [31]from 6 to 66 (fun s wx=>s=.bool (ES && (es || b==92))/\wx=wc)
 case first=>
  cases ES
  ·go_wp2
   go_meet
   exact⟨rfl,rfl⟩
  cases es
  rotate_left
  ·go_wp2
   go_meet
   exact⟨rfl,rfl⟩
  cases hb:b==92
  all_goals
   have HC:((b.toNat:Int)==92)=_:=(beq8 b 92).trans hb;go_wp2
   go_meet
   exact⟨by rw[hb];rfl,rfl⟩
 case rest=>
 obtain⟨rfl,rfl⟩:=hcut;generalize Hv:(ES && (es || b==92))=X at Hf Hg |-;have hw:=zH Hv;clear Hv;go_upto_if 31 with fail
 go_cut []from 6 to 66 (fun wx=>wx=wc/\Hid (X=false))
 case first=>
  cases X
  ·go_wp2
   go_meet
   exact⟨rfl,trivial⟩
  have hX:=fun w ht=>q1u ⟨⟨M,nm,el,kd,RD,es⟩,k⟩ b w ht;unfold qar qu5 qgg at hX;unfold qaf bs at hX;simp only at hX;have Hw:=zH hX;have hk:=zH (Hf.out rfl);clear hX Hf Hg;generalize qa7 M es b=KE at Hw hk;go_upto_region 7 with(go_at_call 94;refine(Hw.out _ H1.out.tabs).mono ?_;rintro e w3 ⟨rfl,J⟩;have H3:=zH (H1.out.kept J);clear J;obtain⟨r0,r1,r2,r3,r4,r5,r6,r7,r8,r9⟩:=qcq H3.out.sp;obtain⟨f0,f1,f2,f3,f4,f5,f6,f7,f8,f9⟩:=qgm H3.out.sp)
  have H4:=zH (H3.out.marks Hm.out (!es) KE);unfold setM at H4;generalize World.setCell _ _ _=w4 at H4 |-;clear q0 q1 q2 q3 q4 q5 q6 q7 q8 q9 g0 r0 r1 r2 r3 r4 r5 r6 r7 r8 r9 f0 f1 f2 f3 f4 f5 f6 f7 f8 f9 H3;obtain⟨q0,q1,q2,q3,q4,q5,q6,q7,q8,q9⟩:=qcq H4.out.sp;obtain⟨r0,r1,r2,r3,r4,r5,r6,r7,r8,r9⟩:=qcq H4.out.res;obtain⟨f0,f1,f2,f3,f4,f5,f6,f7,f8,f9⟩:=qgm H4.out.res;unfold bs at q1 q2;go_wp2
  rw[<-HQ.out];exact HF.out _ ⟨⟨M,nm,el,kd,RD,!es⟩,KE⟩ _ H4.out.res H4.out.low hk.out rfl rfl
 case rest=>
 obtain⟨rfl,Ho⟩:=hcut;obtain rfl:es=false:=by
  have h:=hw.out.trans Ho.out;have hc:=hv.out;cases ES
  ·exact hc rfl
  ·cases es
   ·rfl
   ·cases h
 have Hx:=zH (fun r t=>Hg.out r t Ho.out);have y:=zH Z.out.2.1;clear Hf Hg Ho hw hv HX Hj Hn c0 hf;have hS:=fun(m:Nat) w ht=>q4k m b w ht;have HS:=zH hS;clear hS;have hp:Hid (∀(m T:Nat) (wz:World),m<=33->Sx2 w wz ⟨⟨m,nm,el,kd,RD,false⟩,k⟩->V=Sx.led ⟨⟨m,nm,el,kd,RD,false⟩,k⟩ (or3 T (qe1.getD m 0) m) b->∃O:Nat,wz.cell? (zO 2 m)=some (zJ O)/\∀w,PTabs w->zC 96 #[qar ⟨⟨m,nm,el,kd,RD,false⟩,k⟩,zJ (or3 T O m:Nat),zJ b.toNat] w fun e w'=>e=.returned (qar V)/\zW w w'):=by
  intro m T wz hm h e;refine⟨_,qu4 h.tabs.ot m (by show _<34;omega),fun w ht=>?_⟩;rw[e];exact zfr ⟨⟨m,nm,el,kd,RD,false⟩,k⟩ _ b w ht Z.out.1 hm rfl Z.out.2.2.2.2.1 Z.out.2.2.2.2.2
 unfold qar qaf bs at hp;go_wp2
 go_step3
 go_upto_region 9 with(go_at_call 95;refine cm (HS.out M _ H1.out.tabs) ?_)
 have c1:=qu4 H1.out.tabs.rd M (by show _<34;have:=y.out;omega);have hf:(M:Int)<34:=by have:=y.out;omega
 have Hk:=q43 M y.out;obtain⟨R,Hp⟩:∃R,R=qek.getD M 0:=⟨_,rfl⟩;obtain⟨T,Hq⟩:∃T,T=qc6 M b:=⟨_,rfl⟩;rw[<-Hp]at c1 Hk;rw[<-Hq];have he:=(show Hid (R=qek.getD M 0/\T=qc6 M b/\qek.getD R 0=0/\R<=33)from⟨Hp,Hq,Hk.1,Hk.2⟩);clear Hp Hq Hk;go_cut [49]from 6 to 66 (fun s wx=>s=.bool (T==0 && R != 0)/\wx=wc)
 case first=>
  cases hT:T==0
  ·have hB:((T:Int)==0)=false:=(beqN T 0).trans hT
   go_wp2
   go_meet
   exact⟨by rw[hT];rfl,rfl⟩
  ·have hB:((T:Int)==0)=true:=(beqN T 0).trans hT
   cases hR:R==0
   all_goals
    have HB:((R:Int)==0)=_:=(beqN R 0).trans hR;go_wp2
    go_meet
    exact⟨by unfold bne;rw[HB,hT,hR];rfl,rfl⟩
 case rest=>
 obtain⟨rfl,rfl⟩:=hcut;generalize hY:(T==0 && R != 0)=Y;have Hy:=zH hY;clear hY;go_upto_if 49 with fail
 go_cut []from 6 to 66 (fun wx=>wx=wc/\Hid (qbx M b=M/\qdg M b=or3 T (qe1.getD M 0) M))
 case first=>
  cases Y
  ·have hY:=Hy.out
   have z:=he.out;have Hi:=(show Hid (qbx M b=M/\qdg M b=or3 T (qe1.getD M 0) M) from by
    show _/\_;by_cases h0:qc6 M b=0
    ·have Hl:R=0:=by rw[z.2.1,h0]at hY;simpa using hY
     have:=at_b M b h0 (by rw[<-z.1];exact Hl);rw[z.2.1,h0];exact this
    ·rw[z.2.1];exact at_a M b h0)
   clear hY z;go_wp2
   go_meet
   exact⟨rfl,Hi.out⟩
  have hY:=Hy.out;have z:=he.out;have hz:T=0:=by simp at hY;exact hY.1
  have Hl:R≠0:=by simp at hY;exact hY.2
  have hc:=at_c M R b (by rw[<-z.2.1];exact hz) z.1.symm Hl;have hr:=zH (Hx.out _ _ hc.1 hc.2);clear hY z hc hz Hl;go_upto_region 10 with fail
  go_wp2
  go_step3
  rw[<-HQ.out];refine⟨rfl,?_⟩;clear HQ;have H9:Hid (Sx2 w (wc.setCell (zO w.heap.size 0) (zJ R)) ⟨⟨R,nm,el,kd,RD,false⟩,k⟩):=H1.out.put Hm.out 0 _ (by rfl);generalize World.setCell wc _ _=w9 at H9 |-;clear c1 q0 q1 q2 q3 q4 q5 q6 q7 q8 q9 g0 H1;obtain⟨O,c2,hL⟩:=hp.out R (qc6 R b) w9 he.out.2.2.2 H9.out hr.out;have HL:=zH hL;have HO:=zH (fun g w t hg=>q8l (qc6 R b) O R g w t hg);have c1:=qu4 H9.out.tabs.rd R (by show _<34;have:=he.out.2.2.2;omega);rw[he.out.2.2.1]at c1;have hC:(R:Int)<34:=by have:=he.out.2.2.2;omega
  have r0:=qaa H9.out.sp 0 _ rfl;clear hL;go_upto_region 9 with(go_at_call 95;refine cm (HS.out R _ H9.out.tabs) ?_)
  generalize qc6 R b=T1 at HL HO |-;go_cut [49]from 6 to 66 (fun s wx=>s=.bool false/\wx=w9)
  case first=>
   by_cases Hr:T1=0
   ·have Hs:((T1:Int)==0)=true:=by rw[Hr];rfl
    clear Hr;go_wp2
    go_meet
    exact⟨rfl,rfl⟩
   ·have Hs:((T1:Int)==0)=false:=yf.2 (by omega)
    clear Hr;go_wp2
    go_meet
    exact⟨rfl,rfl⟩
  case rest=>
  obtain⟨rfl,rfl⟩:=hcut;clear r0 c1;obtain⟨q0,q1,q2,q3,q4,q5,q6,q7,q8,q9⟩:=qcq H9.out.sp;have HA:=zH (fun o=>qcq (H9.out.alloc o).sp);have a0:=fun o=>(HA.out o).1;have a1:=fun o=>(HA.out o).2.1;have a2:=fun o=>(HA.out o).2.2.1;have a3:=fun o=>(HA.out o).2.2.2.1;have a4:=fun o=>(HA.out o).2.2.2.2.1;have a5:=fun o=>(HA.out o).2.2.2.2.2.1;have a6:=fun o=>(HA.out o).2.2.2.2.2.2.1;have a7:=fun o=>(HA.out o).2.2.2.2.2.2.2.1;have a8:=fun o=>(HA.out o).2.2.2.2.2.2.2.2.1;have a9:=fun o=>(HA.out o).2.2.2.2.2.2.2.2.2;unfold bs at q1 q2 a1 a2;go_upto_region 11 with fail
  go_region_with (first
   |(go_at_call 97;refine cm (HO.out _ _ _ (by simp)) ?_)
   | (go_at_call 96;refine(HL.out _ (H9.out.alloc _).drew.tabs).mono ?_;rintro e w4 ⟨rfl,U⟩;have D:=(show Hid _ from(H9.out.alloc _).drew.kept U);clear U q0 q1 q2 q3 q4 q5 q6 q7 q8 q9 a0 a1 a2 a3 a4 a5 a6 a7 a8 a9;obtain⟨r0,r1,r2,r3,r4,r5,r6,r7,r8,r9⟩:=qcq D.out.res;obtain⟨f0,f1,f2,f3,f4,f5,f6,f7,f8,f9⟩:=qgm D.out.res))
  all_goals
   go_wp2
   try rw[Exit.noGoto_ret]
   exact HF.out _ V _ D.out.res D.out.low rfl rfl rfl
 case rest=>
 obtain⟨rfl,Hi⟩:=hcut;have hr:=zH (Hx.out _ _ Hi.out.1 Hi.out.2);clear c1 q0 q1 q2 q3 q4 q5 q6 q7 q8 q9 g0 Hi;have H9:=H1;obtain⟨O,c2,hL⟩:=hp.out M T wc y.out H9.out hr.out;have HL:=zH hL;have HO:=zH (fun g w t hg=>q8l T O M g w t hg);clear hL H1;have hq:=HQ.out;clear HQ;subst hq;obtain⟨q0,q1,q2,q3,q4,q5,q6,q7,q8,q9⟩:=qcq H9.out.sp;have HA:=zH (fun o=>qcq (H9.out.alloc o).sp);have a0:=fun o=>(HA.out o).1;have a1:=fun o=>(HA.out o).2.1;have a2:=fun o=>(HA.out o).2.2.1;have a3:=fun o=>(HA.out o).2.2.2.1;have a4:=fun o=>(HA.out o).2.2.2.2.1;have a5:=fun o=>(HA.out o).2.2.2.2.2.1;have a6:=fun o=>(HA.out o).2.2.2.2.2.2.1;have a7:=fun o=>(HA.out o).2.2.2.2.2.2.2.1;have a8:=fun o=>(HA.out o).2.2.2.2.2.2.2.2.1;have a9:=fun o=>(HA.out o).2.2.2.2.2.2.2.2.2;unfold bs at q1 q2 a1 a2;go_upto_region 11 with fail
 go_region_with (first
  |(go_at_call 97;refine cm (HO.out _ _ _ (by simp)) ?_)
  | (go_at_call 96;refine(HL.out _ (H9.out.alloc _).drew.tabs).mono ?_;rintro e w4 ⟨rfl,U⟩;have D:=(show Hid _ from(H9.out.alloc _).drew.kept U);clear U q0 q1 q2 q3 q4 q5 q6 q7 q8 q9 a0 a1 a2 a3 a4 a5 a6 a7 a8 a9;obtain⟨r0,r1,r2,r3,r4,r5,r6,r7,r8,r9⟩:=qcq D.out.res;obtain⟨f0,f1,f2,f3,f4,f5,f6,f7,f8,f9⟩:=qgm D.out.res))
 all_goals
  go_wp2
  exact HF.out _ V _ D.out.res D.out.low rfl rfl rfl
end Go.Proofs.YtfkhljmiehdgmaaGreatDoor
