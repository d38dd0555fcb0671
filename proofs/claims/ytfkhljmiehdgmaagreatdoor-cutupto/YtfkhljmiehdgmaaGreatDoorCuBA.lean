/-
  Steps of the proof.
-/
import Derived.Deep.MidRow
import Derived.Test.YtfkhljmiehdgmaaGreatDoorCuAW
import Derived.Test.YtfkhljmiehdgmaaGreatDoorCuAQ
set_option maxRecDepth 100000
set_option maxHeartbeats 40000000
namespace Go.Proofs.YtfkhljmiehdgmaaGreatDoor
open Go.RowKit Go.Proofs.Tryz Pl
theorem qv5(b:UInt8)(w:World) :
  zC 92 #[zJ b.toNat] w (zQ (zJ (qc3 b:Nat)) w):=by
 by_cases h:b=62
 ·subst h
  go_enter func92,ntmps92
  go_wp2
  go_ret
  exact⟨qal rfl,rfl⟩
 ·have HV:Hid (qc3 b=12):=by show _=_;unfold qc3;rw[if_neg h]
  have h':((b.toNat:Int)==62)=false:=by have:=beq8 b 62;rw[show((62:UInt8).toNat:Int)=62 from rfl]at this;rw[this];exact yf.2 h
  go_enter func92,ntmps92
  go_wp2
  go_ret
  exact⟨qal (by rw[HV.out];rfl),rfl⟩
theorem qtw(x:Sx)(b:UInt8)(w:World)(ht:PTabs w)(h:SxOk x) :
  zC 63 #[qar x,zJ b.toNat] w (zR (qar (x.behind b)) w):=by
 obtain⟨⟨M,nm,el,kd,rd,es⟩,k⟩:=x;have hx:-1000<=k.hex/\k.hex<=1000:=by have:=h.ma.hex;simp only at this;omega
 have hy:-1000<=k.pct/\k.pct<=1000:=by have:=h.ma.pct;simp only at this;omega
 have h:=h.st;have hn:nm.length<=9:=h.name;have Hx:M<=33:=h.hi;have hs:el.length<=1000:=by have:=qks h.elem;simp only at this;omega
 have Hc:qa2.getD M false=false->es=false:=h.calm;have hE:=fun w=>zc6 ⟨⟨M,nm,el,kd,rd,es⟩,k⟩ b w hs;have Hf:=fun w=>q0r ⟨⟨M,nm,el,kd,rd,es⟩,k⟩ b w hs;obtain⟨V,hV⟩:∃V,Sx.behind ⟨⟨M,nm,el,kd,rd,es⟩,k⟩ b=V:=⟨_,rfl⟩;have hk:=q3x ⟨⟨M,nm,el,kd,rd,es⟩,k⟩ b;have Hg:=qy7 ⟨⟨M,nm,el,kd,rd,es⟩,k⟩ b;have Hi:=fun r t=>qrn ⟨⟨M,nm,el,kd,rd,es⟩,k⟩ b r t;have ho:(19<=M->St.nowRead ⟨M,nm,el,kd,rd,es⟩ b=St.readEnd ⟨M,nm,el,kd,rd,es⟩ b)/\(¬ 19<=M->St.nowRead ⟨M,nm,el,kd,rd,es⟩ b=rd):=⟨fun q=>if_pos q,fun q=>if_neg q⟩;rw[hV]at hk Hg Hi |-;simp only at hk Hg Hi hE Hf;generalize St.nowRead ⟨M,nm,el,kd,rd,es⟩ b=RD at Hg Hi ho;generalize St.readEnd ⟨M,nm,el,kd,rd,es⟩ b=RE at Hf ho;generalize St.ends ⟨M,nm,el,kd,rd,es⟩ b=EN at hE hk Hg Hi;generalize Hy:(fun(e:Ending) (w':World)=>e=.returned (qar V)/\zW w w')=Q;have H0:=zH (Sx2.start ht (⟨⟨M,nm,el,kd,rd,es⟩,k⟩:Sx));have HF:Hid (∀(wx:World) (q:Sx) (a:Act),wx.heap[w.heap.size+1]?=zK (qaf ⟨⟨0,[],[],0,0,false⟩,⟨false,0,0,0⟩⟩) 162->zW w wx->V=q->a.tmps.getD 4 undef=zP (w.heap.size+1)->a.defers=[]->bodyPost prog f63 Q .ret a (qdf wx (w.heap.size+1) (zJ (q.st.mode:Int)) (zV q.st.name) (zV q.st.elem) (zI q.st.kind) (zI (q.st.read:Int)) (.bool q.ma.ref) (.bool q.st.esc) (zI q.ma.hex) (zI q.ma.pct) (zI q.ma.far))):=by
  intro wx q a h hl e h6 hd;refine qle results63 (w.heap.size+1) _ underlying162 rfl (by kernel_rfl) h6 ⟨_,_,h,rfl⟩ hd _ _ _ _ _ _ _ _ _ _ ?_;rw[<-Hy,e];exact⟨rfl,qfe hl (by omega) _ _ _ _ _ _ _ _ _ _⟩
 have hr:=zH ht;have Ho:=zH (And.intro hk (And.intro Hg Hi));have Hr:=zH ho;have hf:=(show Hid (nm.length<=9/\M<=33/\el.length<=1000/\(qa2.getD M false=false->es=false)/\(-1000<=k.hex/\k.hex<=1000)/\(-1000<=k.pct/\k.pct<=1000))from⟨hn,Hx,hs,Hc,hx,hy⟩);unfold qar at hE Hf |-;unfold qaf bs at H0 hE Hf |-;have HE:=zH hE;have hz:=zH Hf;clear hV Hy hE Hf hn Hx hs Hc hx hy h ht hk Hg Hi ho;go_enter func63,ntmps63
 go_wp2
 generalize World.alloc _ _=w1 at H0 |-;refine qt6 0 rfl ?_;generalize hQ:Exit.jump 0 _ _=QQ;have HQ:=zH hQ;clear hQ;obtain⟨q0,q1,q2,q3,q4,q5,q6,q7,q8,q9⟩:=qcq H0.out.sp;have g0:=qgm H0.out.sp;go_upto_if 8 with fail
 go_cut []from 6 to 66 (fun wx=>Hid (Sx2 w wx ⟨⟨M,nm,el,kd,RD,es⟩,k⟩/\¬(19<=M/\EN=true)))
 case first=>
  by_cases hj:19<=M
  rotate_left
  ·have HD:¬M≥19:=hj
   have H1:=H0;rw[<-Hr.out.2 hj]at H1;have HX:=(show Hid (¬(19<=M/\EN=true))from fun q=>hj q.1);clear hj;go_wp2
   go_meet
   exact⟨H1.out,HX.out⟩
  cases EN
  ·have HR:=zH (Hr.out.1 hj)
   have hF:=(show Hid (∀w3,Sx2 w w3 ⟨⟨M,nm,el,kd,rd,es⟩,k⟩->Sx2 w (w3.setCell (zO w.heap.size 4) (zI RE)) ⟨⟨M,nm,el,kd,RD,es⟩,k⟩)from fun w3 h=>h.put hr.out 4 _ (by rw[HR.out];rfl));go_upto_region 4 with(go_at_call 91;refine(HE.out _).mono ?_;rintro e w3 ⟨rfl,he⟩;have H3:=zH (H0.out.kept he);clear he)
   clear q0 q1 q2 q3 q4 q5 q6 q7 q8 q9 g0;obtain⟨q0,q1,q2,q3,q4,q5,q6,q7,q8,q9⟩:=qcq H3.out.sp;go_wp2_with (go_at_call 93;refine(hz.out _).mono ?_;rintro e w4 ⟨rfl,He⟩;have H4:=zH (H3.out.kept He);clear He;have r4:=qaa H4.out.sp 4 _ rfl;have f4:=xH _ _ 4 _ _ H4.out.sp)
   go_meet
   exact⟨hF.out _ H4.out,fun q=>nomatch q.2⟩
  ·have hp:=zH (Ho.out.1 hj rfl)
   go_wp2_with (first|(go_at_call 91;refine(HE.out _).mono ?_;rintro e w3 ⟨rfl,he⟩;have H3:=zH (H0.out.kept he);clear he;obtain⟨r0,r1,r2,r3,r4,r5,r6,r7,r8,r9⟩:=qcq H3.out.res;obtain⟨f0,f1,f2,f3,f4,f5,f6,f7,f8,f9⟩:=qgm H3.out.res)|(go_at_call 92;refine cm (qv5 b _) ?_))
   rw[<-HQ.out];exact HF.out _ ⟨⟨qc3 b,[],[],0,0,false⟩,Mk.none⟩ _ H3.out.res H3.out.low hp.out rfl rfl
 case rest=>
 have H1:=zH hcut.out.1;have HX:=zH hcut.out.2;clear hcut H0 q0 q1 q2 q3 q4 q5 q6 q7 q8 q9 g0 HE hz;obtain⟨q0,q1,q2,q3,q4,q5,q6,q7,q8,q9⟩:=qcq H1.out.sp;have g0:=qgm H1.out.sp;have c0:=zdn H1.out.tabs.es M (by show _<34;have:=hf.out.2.1;omega);have Hk:(M:Int)<34:=by have:=hf.out.2.1;omega
 generalize Hs:qa2.getD M false=ES at c0;have Hl:=zH (Ho.out.2.1 HX.out);have Hm:=zH (fun r t=>Ho.out.2.2 r t HX.out);have Hz:=(show Hid (ES=false->es=false)from by rw[<-Hs];exact hf.out.2.2.2.1);rw[Hs]at Hl Hm;clear Hs;go_upto_region 5 with fail
 go_cut [31]from 6 to 66 (fun s wx=>s=.bool (ES && (es || b==92))/\wx=wc)
 case first=>
  cases ES
  ·go_wp2
   go_meet
   exact⟨rfl,rfl⟩
  cases es
  rotate_left
  ·go_wp2
   go_meet
   exact⟨rfl,rfl⟩
  cases hb:b==92
  all_goals
   have HI:((b.toNat:Int)==92)=_:=(beq8 b 92).trans hb;go_wp2
   go_meet
   exact⟨by rw[hb];rfl,rfl⟩
 case rest=>
 obtain⟨rfl,rfl⟩:=hcut;generalize hA:(ES && (es || b==92))=X at Hl Hm |-;have hB:=zH hA;clear hA;go_upto_if 31 with fail
 go_cut []from 6 to 66 (fun wx=>wx=wc/\Hid (X=false))
 case first=>
  cases X
  ·go_wp2
   go_meet
   exact⟨rfl,trivial⟩
  have hX:=fun w ht=>q1u ⟨⟨M,nm,el,kd,RD,es⟩,k⟩ b w ht;unfold qar qu5 qgg at hX;unfold qaf bs at hX;simp only at hX;have HB:=zH hX;have hp:=zH (Hl.out rfl);clear hX Hl Hm;generalize qa7 M es b=KE at HB hp;go_upto_region 7 with(go_at_call 94;refine(HB.out _ H1.out.tabs).mono ?_;rintro e w3 ⟨rfl,he⟩;have H3:=zH (H1.out.kept he);clear he;obtain⟨r0,r1,r2,r3,r4,r5,r6,r7,r8,r9⟩:=qcq H3.out.sp;obtain⟨f0,f1,f2,f3,f4,f5,f6,f7,f8,f9⟩:=qgm H3.out.sp)
  have H4:=zH (H3.out.marks hr.out (!es) KE);unfold setM at H4;generalize World.setCell _ _ _=w4 at H4 |-;clear q0 q1 q2 q3 q4 q5 q6 q7 q8 q9 g0 r0 r1 r2 r3 r4 r5 r6 r7 r8 r9 f0 f1 f2 f3 f4 f5 f6 f7 f8 f9 H3;obtain⟨q0,q1,q2,q3,q4,q5,q6,q7,q8,q9⟩:=qcq H4.out.sp;obtain⟨r0,r1,r2,r3,r4,r5,r6,r7,r8,r9⟩:=qcq H4.out.res;obtain⟨f0,f1,f2,f3,f4,f5,f6,f7,f8,f9⟩:=qgm H4.out.res;unfold bs at q1 q2;go_wp2
  rw[<-HQ.out];exact HF.out _ ⟨⟨M,nm,el,kd,RD,!es⟩,KE⟩ _ H4.out.res H4.out.low hp.out rfl rfl
 case rest=>
 obtain⟨rfl,Ht⟩:=hcut;obtain rfl:es=false:=by
  have h:=hB.out.trans Ht.out;have hc:=Hz.out;cases ES
  ·exact hc rfl
  ·cases es
   ·rfl
   ·cases h
 have hC:=zH (fun r t=>Hm.out r t Ht.out);have ha:=zH hf.out.2.1;clear Hl Hm Ht hB Hz HX Ho Hr c0 Hk;have hS:=fun(m:Nat) w ht=>q4k m b w ht;have HS:=zH hS;clear hS;have hu:Hid (∀(m T:Nat) (wz:World),m<=33->Sx2 w wz ⟨⟨m,nm,el,kd,RD,false⟩,k⟩->V=Sx.led ⟨⟨m,nm,el,kd,RD,false⟩,k⟩ (or3 T (qe1.getD m 0) m) b->∃O:Nat,wz.cell? (zO 2 m)=some (zJ O)/\∀w,PTabs w->zC 96 #[qar ⟨⟨m,nm,el,kd,RD,false⟩,k⟩,zJ (or3 T O m:Nat),zJ b.toNat] w (zR (qar V) w)):=by
  intro m T wz hm h e;refine⟨_,qu4 h.tabs.ot m (by show _<34;omega),fun w ht=>?_⟩;rw[e];exact zfr ⟨⟨m,nm,el,kd,RD,false⟩,k⟩ _ b w ht hf.out.1 hm rfl hf.out.2.2.2.2.1 hf.out.2.2.2.2.2
 unfold qar qaf bs at hu;go_wp2
 go_step3
 go_upto_region 9 with(go_at_call 95;refine cm (HS.out M _ H1.out.tabs) ?_)
 have c1:=qu4 H1.out.tabs.rd M (by show _<34;have:=ha.out;omega);have Hk:(M:Int)<34:=by have:=ha.out;omega
 have Hp:=q43 M ha.out;obtain⟨R,Hu⟩:∃R,R=qek.getD M 0:=⟨_,rfl⟩;obtain⟨T,hv⟩:∃T,T=qc6 M b:=⟨_,rfl⟩;rw[<-Hu]at c1 Hp;rw[<-hv];have Hj:=(show Hid (R=qek.getD M 0/\T=qc6 M b/\qek.getD R 0=0/\R<=33)from⟨Hu,hv,Hp.1,Hp.2⟩);clear Hu hv Hp;go_cut [49]from 6 to 66 (fun s wx=>s=.bool (T==0 && R != 0)/\wx=wc)
 case first=>
  cases hT:T==0
  ·have hG:((T:Int)==0)=false:=(beqN T 0).trans hT
   go_wp2
   go_meet
   exact⟨by rw[hT];rfl,rfl⟩
  ·have hG:((T:Int)==0)=true:=(beqN T 0).trans hT
   cases hR:R==0
   all_goals
    have HG:((R:Int)==0)=_:=(beqN R 0).trans hR;go_wp2
    go_meet
    exact⟨by unfold bne;rw[HG,hT,hR];rfl,rfl⟩
 case rest=>
 obtain⟨rfl,rfl⟩:=hcut;generalize hY:(T==0 && R != 0)=Y;have HC:=zH hY;clear hY;go_upto_if 49 with fail
 go_cut []from 6 to 66 (fun wx=>wx=wc/\Hid (qbx M b=M/\qdg M b=or3 T (qe1.getD M 0) M))
 case first=>
  cases Y
  ·have hY:=HC.out
   have Ha:=Hj.out;have Hn:=(show Hid (qbx M b=M/\qdg M b=or3 T (qe1.getD M 0) M) from by
    show _/\_;by_cases h0:qc6 M b=0
    ·have Hq:R=0:=by rw[Ha.2.1,h0]at hY;simpa using hY
     have:=at_b M b h0 (by rw[<-Ha.1];exact Hq);rw[Ha.2.1,h0];exact this
    ·rw[Ha.2.1];exact at_a M b h0)
   clear hY Ha;go_wp2
   go_meet
   exact⟨rfl,Hn.out⟩
  have hY:=HC.out;have Ha:=Hj.out;have hD:T=0:=by simp at hY;exact hY.1
  have Hq:R≠0:=by simp at hY;exact hY.2
  have hc:=at_c M R b (by rw[<-Ha.2.1];exact hD) Ha.1.symm Hq;have Hv:=zH (hC.out _ _ hc.1 hc.2);clear hY Ha hc hD Hq;go_upto_region 10 with fail
  go_wp2
  go_step3
  rw[<-HQ.out];refine⟨rfl,?_⟩;clear HQ;have H9:Hid (Sx2 w (wc.setCell (zO w.heap.size 0) (zJ R)) ⟨⟨R,nm,el,kd,RD,false⟩,k⟩):=H1.out.put hr.out 0 _ (by rfl);generalize World.setCell wc _ _=w9 at H9 |-;clear c1 q0 q1 q2 q3 q4 q5 q6 q7 q8 q9 g0 H1;obtain⟨O,c2,hL⟩:=hu.out R (qc6 R b) w9 Hj.out.2.2.2 H9.out Hv.out;have HL:=zH hL;have HO:=zH (fun g w t hg=>q8l (qc6 R b) O R g w t hg);have c1:=qu4 H9.out.tabs.rd R (by show _<34;have:=Hj.out.2.2.2;omega);rw[Hj.out.2.2.1]at c1;have hI:(R:Int)<34:=by have:=Hj.out.2.2.2;omega
  have r0:=qaa H9.out.sp 0 _ rfl;clear hL;go_upto_region 9 with(go_at_call 95;refine cm (HS.out R _ H9.out.tabs) ?_)
  generalize qc6 R b=T1 at HL HO |-;go_cut [49]from 6 to 66 (fun s wx=>s=.bool false/\wx=w9)
  case first=>
   by_cases hw:T1=0
   ·have Hw:((T1:Int)==0)=true:=by rw[hw];rfl
    clear hw;go_wp2
    go_meet
    exact⟨rfl,rfl⟩
   ·have Hw:((T1:Int)==0)=false:=yf.2 (by omega)
    clear hw;go_wp2
    go_meet
    exact⟨rfl,rfl⟩
  case rest=>
  obtain⟨rfl,rfl⟩:=hcut;clear r0 c1;obtain⟨q0,q1,q2,q3,q4,q5,q6,q7,q8,q9⟩:=qcq H9.out.sp;have HA:=zH (fun o=>qcq (H9.out.alloc o).sp);have a0:=fun o=>(HA.out o).1;have a1:=fun o=>(HA.out o).2.1;have a2:=fun o=>(HA.out o).2.2.1;have a3:=fun o=>(HA.out o).2.2.2.1;have a4:=fun o=>(HA.out o).2.2.2.2.1;have a5:=fun o=>(HA.out o).2.2.2.2.2.1;have a6:=fun o=>(HA.out o).2.2.2.2.2.2.1;have a7:=fun o=>(HA.out o).2.2.2.2.2.2.2.1;have a8:=fun o=>(HA.out o).2.2.2.2.2.2.2.2.1;have a9:=fun o=>(HA.out o).2.2.2.2.2.2.2.2.2;unfold bs at q1 q2 a1 a2;go_upto_region 11 with fail
  go_region_with (first
   |(go_at_call 97;refine cm (HO.out _ _ _ (by simp)) ?_)
   | (go_at_call 96;refine(HL.out _ (H9.out.alloc _).drew.tabs).mono ?_;rintro e w4 ⟨rfl,He⟩;have Hb:=(show Hid _ from(H9.out.alloc _).drew.kept He);clear He q0 q1 q2 q3 q4 q5 q6 q7 q8 q9 a0 a1 a2 a3 a4 a5 a6 a7 a8 a9;obtain⟨r0,r1,r2,r3,r4,r5,r6,r7,r8,r9⟩:=qcq Hb.out.res;obtain⟨f0,f1,f2,f3,f4,f5,f6,f7,f8,f9⟩:=qgm Hb.out.res))
  all_goals
   go_wp2
   try rw[Exit.noGoto_ret]
   exact HF.out _ V _ Hb.out.res Hb.out.low rfl rfl rfl
 case rest=>
 obtain⟨rfl,Hn⟩:=hcut;have Hv:=zH (hC.out _ _ Hn.out.1 Hn.out.2);clear c1 q0 q1 q2 q3 q4 q5 q6 q7 q8 q9 g0 Hn;have H9:=H1;obtain⟨O,c2,hL⟩:=hu.out M T wc ha.out H9.out Hv.out;have HL:=zH hL;have HO:=zH (fun g w t hg=>q8l T O M g w t hg);clear hL H1;have hq:=HQ.out;clear HQ;subst hq;obtain⟨q0,q1,q2,q3,q4,q5,q6,q7,q8,q9⟩:=qcq H9.out.sp;have HA:=zH (fun o=>qcq (H9.out.alloc o).sp);have a0:=fun o=>(HA.out o).1;have a1:=fun o=>(HA.out o).2.1;have a2:=fun o=>(HA.out o).2.2.1;have a3:=fun o=>(HA.out o).2.2.2.1;have a4:=fun o=>(HA.out o).2.2.2.2.1;have a5:=fun o=>(HA.out o).2.2.2.2.2.1;have a6:=fun o=>(HA.out o).2.2.2.2.2.2.1;have a7:=fun o=>(HA.out o).2.2.2.2.2.2.2.1;have a8:=fun o=>(HA.out o).2.2.2.2.2.2.2.2.1;have a9:=fun o=>(HA.out o).2.2.2.2.2.2.2.2.2;unfold bs at q1 q2 a1 a2;go_upto_region 11 with fail
 go_region_with (first
  |(go_at_call 97;refine cm (HO.out _ _ _ (by simp)) ?_)
  | (go_at_call 96;refine(HL.out _ (H9.out.alloc _).drew.tabs).mono ?_;rintro e w4 ⟨rfl,He⟩;have Hb:=(show Hid _ from(H9.out.alloc _).drew.kept He);clear He q0 q1 q2 q3 q4 q5 q6 q7 q8 q9 a0 a1 a2 a3 a4 a5 a6 a7 a8 a9;obtain⟨r0,r1,r2,r3,r4,r5,r6,r7,r8,r9⟩:=qcq Hb.out.res;obtain⟨f0,f1,f2,f3,f4,f5,f6,f7,f8,f9⟩:=qgm Hb.out.res))
 all_goals
  go_wp2
  exact HF.out _ V _ Hb.out.res Hb.out.low rfl rfl rfl
end Go.Proofs.YtfkhljmiehdgmaaGreatDoor
