/-
  Steps of the proof.
-/
import Derived.Deep.MidRow
import Derived.Test.YtfkhljmiehdgmaaGreatDoorCmAQ
import Derived.Test.YtfkhljmiehdgmaaGreatDoorCmAK
set_option maxRecDepth 100000
set_option maxHeartbeats 40000000
namespace Go.Proofs.YtfkhljmiehdgmaaGreatDoor
open Go.RowKit
theorem qtk(b:UInt8)(w:World) :
  Calls Tryz.prog 92 #[.int .u8 b.toNat] w fun e w'=>e=.returned (.int .u8 (Pl.qc0 b:Nat))/\w=w':=by
 by_cases h:b=62
 ·subst h
  go_enter Tryz.func92,Tryz.ntmps92
  go_wp2
  go_ret
  exact⟨qan rfl,rfl⟩
 ·have HV:Hid (Pl.qc0 b=12):=by show _=_;unfold Pl.qc0;rw[if_neg h]
  have h':((b.toNat:Int)==62)=false:=by have:=Pl.beq8 b 62;rw[show((62:UInt8).toNat:Int)=62 from rfl]at this;rw[this];exact beq_eq_false_iff_ne.2 h
  go_enter Tryz.func92,Tryz.ntmps92
  go_wp2
  go_ret
  exact⟨qan (by rw[HV.out];rfl),rfl⟩
theorem q1z(x:Pl.Sx)(b:UInt8)(w:World)(ht:PTabs w)(h:Pl.SxOk x) :
  Calls Tryz.prog 63 #[qap x,.int .u8 b.toNat] w fun e w'=>e=.returned (qap (x.behind b))/\Below w.heap.size w w':=by
 obtain⟨⟨M,nm,el,kd,rd,es⟩,k⟩:=x;have hx:-1000<=k.hex/\k.hex<=1000:=by have:=h.ma.hex;simp only at this;omega
 have hy:-1000<=k.pct/\k.pct<=1000:=by have:=h.ma.pct;simp only at this;omega
 have h:=h.st;have hn:nm.length<=9:=h.name;have Hx:M<=33:=h.hi;have hs:el.length<=1000:=by have:=Pl.qjw h.elem;simp only at this;omega
 have Hc:Pl.qa3.getD M false=false->es=false:=h.calm;have hE:=fun w=>q66 ⟨⟨M,nm,el,kd,rd,es⟩,k⟩ b w hs;have Hf:=fun w=>qw1 ⟨⟨M,nm,el,kd,rd,es⟩,k⟩ b w hs;obtain⟨V,hV⟩:∃V,Pl.Sx.behind ⟨⟨M,nm,el,kd,rd,es⟩,k⟩ b=V:=⟨_,rfl⟩;have hk:=Pl.qzy ⟨⟨M,nm,el,kd,rd,es⟩,k⟩ b;have Hg:=Pl.qvs ⟨⟨M,nm,el,kd,rd,es⟩,k⟩ b;have Hi:=fun r t=>Pl.qpo ⟨⟨M,nm,el,kd,rd,es⟩,k⟩ b r t;have ho:(19<=M->Pl.St.nowRead ⟨M,nm,el,kd,rd,es⟩ b=Pl.St.readEnd ⟨M,nm,el,kd,rd,es⟩ b)/\(¬ 19<=M->Pl.St.nowRead ⟨M,nm,el,kd,rd,es⟩ b=rd):=⟨fun q=>if_pos q,fun q=>if_neg q⟩;rw[hV]at hk Hg Hi |-;simp only at hk Hg Hi hE Hf;generalize Pl.St.nowRead ⟨M,nm,el,kd,rd,es⟩ b=RD at Hg Hi ho;generalize Pl.St.readEnd ⟨M,nm,el,kd,rd,es⟩ b=RE at Hf ho;generalize Pl.St.ends ⟨M,nm,el,kd,rd,es⟩ b=EN at hE hk Hg Hi;generalize Hy:(fun(e:Ending) (w':World)=>e=.returned (qap V)/\Below w.heap.size w w')=Q;have H0:=hd (Sx2.start ht (⟨⟨M,nm,el,kd,rd,es⟩,k⟩:Pl.Sx));have HF:Hid (∀(wx:World) (q:Pl.Sx) (a:Act),wx.heap[w.heap.size+1]?=some (.cells (qaf ⟨⟨0,[],[],0,0,false⟩,⟨false,0,0,0⟩⟩) 162 (0,0))->Below w.heap.size w wx->V=q->a.tmps.getD 4 undef=.pointer (some ⟨w.heap.size+1,0,none⟩)->a.defers=[]->bodyPost Tryz.prog Tryz.f63 Q .ret a (qcs wx (w.heap.size+1) (.int .u8 (q.st.mode:Int)) (.string ⟨q.st.name.toArray⟩) (.string ⟨q.st.elem.toArray⟩) (.int .i64 q.st.kind) (.int .i64 (q.st.read:Int)) (.bool q.ma.ref) (.bool q.st.esc) (.int .i64 q.ma.hex) (.int .i64 q.ma.pct) (.int .i64 q.ma.far))):=by
  intro wx q a h hl e h6 hd;refine qj8 Tryz.results63 (w.heap.size+1) _ Tryz.underlying162 rfl (by kernel_rfl) h6 ⟨_,_,h,rfl⟩ hd _ _ _ _ _ _ _ _ _ _ ?_;rw[<-Hy,e];exact⟨rfl,qei hl (by omega) _ _ _ _ _ _ _ _ _ _⟩
 have hr:=hd ht;have Ho:=hd (And.intro hk (And.intro Hg Hi));have Hr:=hd ho;have hf:=(show Hid (nm.length<=9/\M<=33/\el.length<=1000/\(Pl.qa3.getD M false=false->es=false)/\(-1000<=k.hex/\k.hex<=1000)/\(-1000<=k.pct/\k.pct<=1000))from⟨hn,Hx,hs,Hc,hx,hy⟩);unfold qap at hE Hf |-;unfold qaf bs at H0 hE Hf |-;have HE:=hd hE;have hz:=hd Hf;clear hV Hy hE Hf hn Hx hs Hc hx hy h ht hk Hg Hi ho;go_enter Tryz.func63,Tryz.ntmps63
 go_wp2_with fail
 generalize World.alloc _ _=w1 at H0 |-;refine qrp 0 rfl ?_;generalize hQ:Exit.jump 0 _ _=QQ;have HQ:=hd hQ;clear hQ;obtain⟨q0,q1,q2,q3,q4,q5,q6,q7,q8,q9⟩:=qb7 H0.out.sp;obtain⟨g0,g1,g2,g3,g4,g5,g6,g7,g8,g9⟩:=qgg H0.out.sp;go_upto_if 8 with fail
 go_cut []from 6 to 66 (fun wx=>Hid (Sx2 w wx ⟨⟨M,nm,el,kd,RD,es⟩,k⟩/\¬(19<=M/\EN=true)))
 case first=>
  by_cases hj:19<=M
  rotate_left
  ·have HD:¬M≥19:=hj
   have H1:=H0;rw[<-Hr.out.2 hj]at H1;have HX:=(show Hid (¬(19<=M/\EN=true))from fun q=>hj q.1);clear hj;go_wp2_with fail
   go_meet
   exact⟨H1.out,HX.out⟩
  cases EN
  ·have HR:=hd (Hr.out.1 hj)
   have hF:=(show Hid (∀w3,Sx2 w w3 ⟨⟨M,nm,el,kd,rd,es⟩,k⟩->Sx2 w (w3.setCell ⟨w.heap.size,4,none⟩ (.int .i64 RE)) ⟨⟨M,nm,el,kd,RD,es⟩,k⟩)from fun w3 h=>h.put hr.out 4 _ (by rw[HR.out];rfl));go_upto_region 4 with(go_at_call 91;refine(HE.out _).mono ?_;rintro e w3 ⟨rfl,he⟩;have H3:=hd (H0.out.kept he);clear he)
   clear q0 q1 q2 q3 q4 q5 q6 q7 q8 q9 g0 g1 g2 g3 g4 g5 g6 g7 g8 g9;obtain⟨q0,q1,q2,q3,q4,q5,q6,q7,q8,q9⟩:=qb7 H3.out.sp;go_wp2_with (go_at_call 93;refine(hz.out _).mono ?_;rintro e w4 ⟨rfl,He⟩;have H4:=hd (H3.out.kept He);clear He;have r4:=qaa H4.out.sp 4 _ rfl;have f4:=frozen_of_row _ _ 4 _ _ H4.out.sp)
   go_meet
   exact⟨hF.out _ H4.out,fun q=>nomatch q.2⟩
  ·have hp:=hd (Ho.out.1 hj rfl)
   go_wp2_with (first|(go_at_call 91;refine(HE.out _).mono ?_;rintro e w3 ⟨rfl,he⟩;have H3:=hd (H0.out.kept he);clear he;obtain⟨r0,r1,r2,r3,r4,r5,r6,r7,r8,r9⟩:=qb7 H3.out.res;obtain⟨f0,f1,f2,f3,f4,f5,f6,f7,f8,f9⟩:=qgg H3.out.res)|(go_at_call 92;refine(qtk b _).mono ?_;rintro e w' ⟨rfl,rfl⟩))
   rw[<-HQ.out];exact HF.out _ ⟨⟨Pl.qc0 b,[],[],0,0,false⟩,Pl.Mk.none⟩ _ H3.out.res H3.out.low hp.out rfl rfl
 case rest=>
 have H1:=hd hcut.out.1;have HX:=hd hcut.out.2;clear hcut H0 q0 q1 q2 q3 q4 q5 q6 q7 q8 q9 g0 g1 g2 g3 g4 g5 g6 g7 g8 g9 HE hz;obtain⟨q0,q1,q2,q3,q4,q5,q6,q7,q8,q9⟩:=qb7 H1.out.sp;obtain⟨g0,g1,g2,g3,g4,g5,g6,g7,g8,g9⟩:=qgg H1.out.sp;have c0:=q7j H1.out.tabs.es M (by show _<34;have:=hf.out.2.1;omega);have Hk:(M:Int)<34:=by have:=hf.out.2.1;omega
 generalize Hs:Pl.qa3.getD M false=ES at c0;have Hl:=hd (Ho.out.2.1 HX.out);have Hm:=hd (fun r t=>Ho.out.2.2 r t HX.out);have Hz:=(show Hid (ES=false->es=false)from by rw[<-Hs];exact hf.out.2.2.2.1);rw[Hs]at Hl Hm;clear Hs;go_upto_region 5 with fail
 go_cut [31]from 6 to 66 (fun s wx=>s=.bool (ES && (es || b==92))/\wx=wc)
 case first=>
  cases ES
  ·go_wp2_with fail
   go_meet
   exact⟨rfl,rfl⟩
  cases es
  rotate_left
  ·go_wp2_with fail
   go_meet
   exact⟨rfl,rfl⟩
  cases hb:b==92
  all_goals
   have HI:((b.toNat:Int)==92)=_:=(Pl.beq8 b 92).trans hb;go_wp2_with fail
   go_meet
   exact⟨by rw[hb];rfl,rfl⟩
 case rest=>
 obtain⟨rfl,rfl⟩:=hcut;generalize hA:(ES && (es || b==92))=X at Hl Hm |-;have hB:=hd hA;clear hA;go_upto_if 31 with fail
 go_cut []from 6 to 66 (fun wx=>wx=wc/\Hid (X=false))
 case first=>
  cases X
  ·go_wp2_with fail
   go_meet
   exact⟨rfl,trivial⟩
  have hX:=fun w ht=>qxx ⟨⟨M,nm,el,kd,RD,es⟩,k⟩ b w ht;unfold qap qsn qgc at hX;unfold qaf bs at hX;simp only at hX;have HB:=hd hX;have hp:=hd (Hl.out rfl);clear hX Hl Hm;generalize Pl.qa7 M es b=KE at HB hp;go_upto_region 7 with(go_at_call 94;refine(HB.out _ H1.out.tabs).mono ?_;rintro e w3 ⟨rfl,he⟩;have H3:=hd (H1.out.kept he);clear he;obtain⟨r0,r1,r2,r3,r4,r5,r6,r7,r8,r9⟩:=qb7 H3.out.sp;obtain⟨f0,f1,f2,f3,f4,f5,f6,f7,f8,f9⟩:=qgg H3.out.sp)
  have H4:=hd (H3.out.marks hr.out (!es) KE);unfold setM at H4;generalize World.setCell _ _ _=w4 at H4 |-;clear q0 q1 q2 q3 q4 q5 q6 q7 q8 q9 g0 g1 g2 g3 g4 g5 g6 g7 g8 g9 r0 r1 r2 r3 r4 r5 r6 r7 r8 r9 f0 f1 f2 f3 f4 f5 f6 f7 f8 f9 H3;obtain⟨q0,q1,q2,q3,q4,q5,q6,q7,q8,q9⟩:=qb7 H4.out.sp;obtain⟨r0,r1,r2,r3,r4,r5,r6,r7,r8,r9⟩:=qb7 H4.out.res;obtain⟨f0,f1,f2,f3,f4,f5,f6,f7,f8,f9⟩:=qgg H4.out.res;unfold bs at q1 q2;go_wp2_with fail
  rw[<-HQ.out];exact HF.out _ ⟨⟨M,nm,el,kd,RD,!es⟩,KE⟩ _ H4.out.res H4.out.low hp.out rfl rfl
 case rest=>
 obtain⟨rfl,Ht⟩:=hcut;obtain rfl:es=false:=by
  have h:=hB.out.trans Ht.out;have hc:=Hz.out;cases ES
  ·exact hc rfl
  ·cases es
   ·rfl
   ·cases h
 have hC:=hd (fun r t=>Hm.out r t Ht.out);have ha:=hd hf.out.2.1;clear Hl Hm Ht hB Hz HX Ho Hr c0 Hk;have hS:=fun(m:Nat) w ht=>q0g m b w ht;have HS:=hd hS;clear hS;have hu:Hid (∀(m T:Nat) (wz:World),m<=33->Sx2 w wz ⟨⟨m,nm,el,kd,RD,false⟩,k⟩->V=Pl.Sx.led ⟨⟨m,nm,el,kd,RD,false⟩,k⟩ (Pl.or3 T (Pl.qes.getD m 0) m) b->∃O:Nat,wz.cell? ⟨2,m,none⟩=some (.int .u8 O)/\∀w,PTabs w->Calls Tryz.prog 96 #[qap ⟨⟨m,nm,el,kd,RD,false⟩,k⟩,.int .u8 (Pl.or3 T O m:Nat),.int .u8 b.toNat] w fun e w'=>e=.returned (qap V)/\Below w.heap.size w w'):=by
  intro m T wz hm h e;refine⟨_,qsl h.tabs.ot m (by show _<34;omega),fun w ht=>?_⟩;rw[e];exact q9e ⟨⟨m,nm,el,kd,RD,false⟩,k⟩ _ b w ht hf.out.1 hm rfl hf.out.2.2.2.2.1 hf.out.2.2.2.2.2
 unfold qap qaf bs at hu;go_wp2_with fail
 go_step3
 go_upto_region 9 with(go_at_call 95;refine(HS.out M _ H1.out.tabs).mono ?_;rintro e w' ⟨rfl,rfl⟩)
 have c1:=qsl H1.out.tabs.rd M (by show _<34;have:=ha.out;omega);have Hk:(M:Int)<34:=by have:=ha.out;omega
 have Hp:=Pl.q0v M ha.out;obtain⟨R,Hu⟩:∃R,R=Pl.qed.getD M 0:=⟨_,rfl⟩;obtain⟨T,hv⟩:∃T,T=Pl.qc3 M b:=⟨_,rfl⟩;rw[<-Hu]at c1 Hp;rw[<-hv];have Hj:=(show Hid (R=Pl.qed.getD M 0/\T=Pl.qc3 M b/\Pl.qed.getD R 0=0/\R<=33)from⟨Hu,hv,Hp.1,Hp.2⟩);clear Hu hv Hp;go_cut [49]from 6 to 66 (fun s wx=>s=.bool (T==0 && R != 0)/\wx=wc)
 case first=>
  cases hT:T==0
  ·have hG:((T:Int)==0)=false:=(beqN T 0).trans hT
   go_wp2_with fail
   go_meet
   exact⟨by rw[hT];rfl,rfl⟩
  ·have hG:((T:Int)==0)=true:=(beqN T 0).trans hT
   cases hR:R==0
   all_goals
    have HG:((R:Int)==0)=_:=(beqN R 0).trans hR;go_wp2_with fail
    go_meet
    exact⟨by unfold bne;rw[HG,hT,hR];rfl,rfl⟩
 case rest=>
 obtain⟨rfl,rfl⟩:=hcut;generalize hY:(T==0 && R != 0)=Y;have HC:=hd hY;clear hY;go_upto_if 49 with fail
 go_cut []from 6 to 66 (fun wx=>wx=wc/\Hid (Pl.qbw M b=M/\Pl.qde M b=Pl.or3 T (Pl.qes.getD M 0) M))
 case first=>
  cases Y
  ·have hY:=HC.out
   have Ha:=Hj.out;have Hn:=(show Hid (Pl.qbw M b=M/\Pl.qde M b=Pl.or3 T (Pl.qes.getD M 0) M)from by
    show _/\_;by_cases h0:Pl.qc3 M b=0
    ·have Hq:R=0:=by rw[Ha.2.1,h0]at hY;simpa using hY
     have:=Pl.at_b M b h0 (by rw[<-Ha.1];exact Hq);rw[Ha.2.1,h0];exact this
    ·rw[Ha.2.1];exact Pl.at_a M b h0)
   clear hY Ha;go_wp2_with fail
   go_meet
   exact⟨rfl,Hn.out⟩
  have hY:=HC.out;have Ha:=Hj.out;have hD:T=0:=by simp at hY;exact hY.1
  have Hq:R≠0:=by simp at hY;exact hY.2
  have hc:=Pl.at_c M R b (by rw[<-Ha.2.1];exact hD) Ha.1.symm Hq;have Hv:=hd (hC.out _ _ hc.1 hc.2);clear hY Ha hc hD Hq;go_upto_region 10 with fail
  go_wp2_with fail
  go_step3
  rw[<-HQ.out];refine⟨rfl,?_⟩;clear HQ;have H9:Hid (Sx2 w (wc.setCell ⟨w.heap.size,0,none⟩ (.int .u8 R)) ⟨⟨R,nm,el,kd,RD,false⟩,k⟩):=H1.out.put hr.out 0 _ (by rfl);generalize World.setCell wc _ _=w9 at H9 |-;clear c1 q0 q1 q2 q3 q4 q5 q6 q7 q8 q9 g0 g1 g2 g3 g4 g5 g6 g7 g8 g9 H1;obtain⟨O,c2,hL⟩:=hu.out R (Pl.qc3 R b) w9 Hj.out.2.2.2 H9.out Hv.out;have HL:=hd hL;have HO:=hd (fun g w t hg=>q3p (Pl.qc3 R b) O R g w t hg);have c1:=qsl H9.out.tabs.rd R (by show _<34;have:=Hj.out.2.2.2;omega);rw[Hj.out.2.2.1]at c1;have hI:(R:Int)<34:=by have:=Hj.out.2.2.2;omega
  have r0:=qaa H9.out.sp 0 _ rfl;clear hL;go_upto_region 9 with(go_at_call 95;refine(HS.out R _ H9.out.tabs).mono ?_;rintro e w' ⟨rfl,rfl⟩)
  generalize Pl.qc3 R b=T1 at HL HO |-;go_cut [49]from 6 to 66 (fun s wx=>s=.bool false/\wx=w9)
  case first=>
   by_cases hw:T1=0
   ·have Hw:((T1:Int)==0)=true:=by rw[hw];rfl
    clear hw;go_wp2_with fail
    go_meet
    exact⟨rfl,rfl⟩
   ·have Hw:((T1:Int)==0)=false:=beq_eq_false_iff_ne.2 (by omega)
    clear hw;go_wp2_with fail
    go_meet
    exact⟨rfl,rfl⟩
  case rest=>
  obtain⟨rfl,rfl⟩:=hcut;clear r0 c1;obtain⟨q0,q1,q2,q3,q4,q5,q6,q7,q8,q9⟩:=qb7 H9.out.sp;have HA:=hd (fun o=>qb7 (H9.out.alloc o).sp);have a0:=fun o=>(HA.out o).1;have a1:=fun o=>(HA.out o).2.1;have a2:=fun o=>(HA.out o).2.2.1;have a3:=fun o=>(HA.out o).2.2.2.1;have a4:=fun o=>(HA.out o).2.2.2.2.1;have a5:=fun o=>(HA.out o).2.2.2.2.2.1;have a6:=fun o=>(HA.out o).2.2.2.2.2.2.1;have a7:=fun o=>(HA.out o).2.2.2.2.2.2.2.1;have a8:=fun o=>(HA.out o).2.2.2.2.2.2.2.2.1;have a9:=fun o=>(HA.out o).2.2.2.2.2.2.2.2.2;unfold bs at q1 q2 a1 a2;go_upto_region 11 with fail
  go_region_with (first
   |(go_at_call 97;refine(HO.out _ _ _ (by simp)).mono ?_;rintro e w' ⟨rfl,rfl⟩)
   |(go_at_call 96;refine(HL.out _ (H9.out.alloc _).drew.tabs).mono ?_;rintro e w4 ⟨rfl,He⟩;have Hb:=(show Hid _ from(H9.out.alloc _).drew.kept He);clear He q0 q1 q2 q3 q4 q5 q6 q7 q8 q9 a0 a1 a2 a3 a4 a5 a6 a7 a8 a9;obtain⟨r0,r1,r2,r3,r4,r5,r6,r7,r8,r9⟩:=qb7 Hb.out.res;obtain⟨f0,f1,f2,f3,f4,f5,f6,f7,f8,f9⟩:=qgg Hb.out.res))
  all_goals
   go_wp2_with fail
   try rw[Exit.noGoto_ret]
   exact HF.out _ V _ Hb.out.res Hb.out.low rfl rfl rfl
 case rest=>
 obtain⟨rfl,Hn⟩:=hcut;have Hv:=hd (hC.out _ _ Hn.out.1 Hn.out.2);clear c1 q0 q1 q2 q3 q4 q5 q6 q7 q8 q9 g0 g1 g2 g3 g4 g5 g6 g7 g8 g9 Hn;have H9:=H1;obtain⟨O,c2,hL⟩:=hu.out M T wc ha.out H9.out Hv.out;have HL:=hd hL;have HO:=hd (fun g w t hg=>q3p T O M g w t hg);clear hL H1;have hq:=HQ.out;clear HQ;subst hq;obtain⟨q0,q1,q2,q3,q4,q5,q6,q7,q8,q9⟩:=qb7 H9.out.sp;have HA:=hd (fun o=>qb7 (H9.out.alloc o).sp);have a0:=fun o=>(HA.out o).1;have a1:=fun o=>(HA.out o).2.1;have a2:=fun o=>(HA.out o).2.2.1;have a3:=fun o=>(HA.out o).2.2.2.1;have a4:=fun o=>(HA.out o).2.2.2.2.1;have a5:=fun o=>(HA.out o).2.2.2.2.2.1;have a6:=fun o=>(HA.out o).2.2.2.2.2.2.1;have a7:=fun o=>(HA.out o).2.2.2.2.2.2.2.1;have a8:=fun o=>(HA.out o).2.2.2.2.2.2.2.2.1;have a9:=fun o=>(HA.out o).2.2.2.2.2.2.2.2.2;unfold bs at q1 q2 a1 a2;go_upto_region 11 with fail
 go_region_with (first
  |(go_at_call 97;refine(HO.out _ _ _ (by simp)).mono ?_;rintro e w' ⟨rfl,rfl⟩)
  |(go_at_call 96;refine(HL.out _ (H9.out.alloc _).drew.tabs).mono ?_;rintro e w4 ⟨rfl,He⟩;have Hb:=(show Hid _ from(H9.out.alloc _).drew.kept He);clear He q0 q1 q2 q3 q4 q5 q6 q7 q8 q9 a0 a1 a2 a3 a4 a5 a6 a7 a8 a9;obtain⟨r0,r1,r2,r3,r4,r5,r6,r7,r8,r9⟩:=qb7 Hb.out.res;obtain⟨f0,f1,f2,f3,f4,f5,f6,f7,f8,f9⟩:=qgg Hb.out.res))
 all_goals
  go_wp2_with fail
  exact HF.out _ V _ Hb.out.res Hb.out.low rfl rfl rfl
end Go.Proofs.YtfkhljmiehdgmaaGreatDoor
