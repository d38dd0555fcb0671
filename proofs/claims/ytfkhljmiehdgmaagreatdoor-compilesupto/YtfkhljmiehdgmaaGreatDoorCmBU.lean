/-
  Steps of the proof.
-/
import Derived.Test.YtfkhljmiehdgmaaGreatDoorCmBR
set_option maxRecDepth 100000
set_option maxHeartbeats 40000000
namespace Go.Proofs.YtfkhljmiehdgmaaGreatDoor
open Go.RowKit
theorem q2l(K:Sk)(hK:SkOk K)(k:Nat)(HE:∀R,EndC K R 429926418001)(HT:qzz K k):qzz K (k+1):=by
 intro w gw ve vS v E R r j off len x p F h8 HB hj Hj hf Hb H8 hC Hl hD Hu hB hk hr;obtain⟨s,hs⟩:∃s,K.S[j]?=some s:=⟨_,List.getElem?_eq_getElem (by rw[hK.len];omega)⟩;have hP:Pl.qab K.S j=s.parts:=by unfold Pl.qab;rw[hs]
 obtain⟨ao,cap,rfl,hlc,HU⟩:=HB;obtain⟨Q,hE⟩:∃Q:Ending->World->Prop,Q=fun e w'=>TrO K w gw E R r j off len x F e w':=⟨_,rfl⟩;rw[<-hE];have H0:Hid (Tm K w ((w.alloc (.cells (qag p) 94)).alloc (.cells #[.int .i64 0,.string ⟨#[]⟩,.string ⟨#[]⟩,.string ⟨#[]⟩,.string ⟨#[]⟩,.int .i64 0] 94)) gw ve vS E R F p):=by
  have hb:=((Below.refl w.heap.size w).alloc (Nat.le_refl _) (.cells (qag p) 94)).alloc (by simp) (.cells #[.int .i64 0,.string ⟨#[]⟩,.string ⟨#[]⟩,.string ⟨#[]⟩,.string ⟨#[]⟩,.int .i64 0] 94);exact⟨(heap_alloc_old _ _ (by simp)).trans (heap_alloc_new _ _),qal _ _ _ (by simp),h8.kept hb,Cw.of_below hb hB⟩
 have h9:Hid (Tp K R R E E r r j off len off x x p):=⟨Hb,H8,hC,Hl,List.prefix_refl _,hD,by omega,Nat.le_refl _,Nat.le_refl _,by omega,Nat.le_refl _,by omega,fun _=>⟨fun _ _ h=>h,fun _ h h'=>absurd h h'⟩⟩;unfold qau;unfold qag at H0 |-;go_enter Tryz.func33,Tryz.ntmps33
 go_wp2_with fail
 generalize World.alloc _ _=w1 at H0 |-;have Hg:=hd hK;have HS:=hd hs;have Ha:=hd hB;have HX:=(show Hid ((0<len->∃g cap0,K.pv j=.slice (some ⟨g,0,none⟩) s.parts.length cap0/\ao=some ⟨g,off*6,none⟩)/\off+len<=s.parts.length/\(∀q,(Pl.qab K.S j)[off+len]?=some q->q.kind=5)/\∀(i:Nat) (q:Pl.Pt),off<=i->i<off+len->(Pl.qab K.S j)[i]?=some q->(q.kind=3\/q.kind=4)->q.mate<off+len)from⟨by rw[hP]at HU;exact HU,by rw[hP]at Hj;exact Hj,hf⟩);have ho:=hd (And.intro hk (And.intro hr Hu));have hF:=hd hP;have HJ:=hd hj;have hL2:s.parts.length<=2000:=(hK.ok.parts j s hs).1;have H9:len<=2000:=by rw[hP]at Hj;omega
 clear h8 Hb H8 hC Hl hD Hu hB hk hr hP hs hK HU Hj hf hj;go_loopw [8] (fun v8 wr=>∃(i:Nat) (p':Pl.Sp) (x':Pl.Sx) (ve' vS':Value) (E':List Pl.Et) (R':List Pl.Vt) (r':Nat),v8=.int .i64 i/\R'.length<=256/\Hid (Tm K w wr gw ve' vS' E' R' F p')/\Hid (Tp K R R' E E' r r' j off len (off+i) x x' p')) (fun v8 _=>len - (intOf v8).toNat)
 case atStart=>exact⟨0,p,x,ve,vS,E,R,r,rfl,ho.out.2.2,H0,h9⟩
 case round=>
  clear H0 h9;obtain⟨i,p',x',ve',vS',E',R',r',rfl,Hu,HM,HP⟩:=hrel;have hile:i<=len:=by have:=HP.out.hi;omega
  obtain⟨q0,q1,q2,q3,q4,q5⟩:=qar HM.out.spot;have HSZ:=hd HM.out.lt;by_cases hlt:i<len
  rotate_left
  ·have hV:¬(i:Int)<(len:Int):=by omega
   obtain⟨r0,r1,r2,r3,r4,r5⟩:=qar HM.out.res;obtain⟨f0,f1,f2,f3,f4,f5⟩:=qd0 HM.out.res;have hil:i=len:=by omega
   have HD:=(show Hid _ from(show Tp K R R' E E' r r' j off len (off+len) x x' p' from hil▸HP.out).done HX.out.2.2.1);go_wp2_with fail
   try rw[hE]
   refine qk9 (ok:=true) Ha.out HM.out HD.out ?_ ?_ ?_
   all_goals rfl
  obtain⟨g7,cap7,h7,rfl⟩:=HX.out.1 (by omega);obtain⟨pt,Hv⟩:∃pt,s.parts[off+i]?=some pt:=⟨_,List.getElem?_eq_getElem (by have:=HX.out.2.1;omega)⟩;obtain⟨rm,hQ⟩:∃rm,(K.RL j)[off+i]?=some rm:=⟨_,List.getElem?_eq_getElem (by rw[(HM.out.wk.at_.tp.row j s HS.out).2.len];have:=HX.out.2.1;omega)⟩;have HC:Hid (∀(W':World) (ve1:Value) (E1:List Pl.Et),K.at_ W' ve1 E1->W'.cell? ⟨g7,off*6+i*6,none⟩=some (.int .i64 (Pl.qbg pt.kind))/\W'.cell? ⟨g7,off*6+i*6+2,none⟩=some (.string ⟨pt.text.toArray⟩)/\W'.cell? ⟨g7,off*6+i*6+5,none⟩=some (.int .i64 ((if pt.kind=3\/pt.kind=4 then pt.mate - (off+i)else 0:Nat)))):=by
   intro W' ve1 E1 hA;have HV:=(hA.tp.row j s HS.out).2.each (off+i) rm pt hQ Hv;have HF:=(hA.tp.row j s HS.out).1;rw[h7,<- (hA.tp.row j s HS.out).2.len]at HF;have hc:=fun c v (hv:(qdb rm)[c]?=some v)=>(HF.cellAt ((off+i)*6+c) (by have:=qc6 _ _ rm hQ c v hv;have:=(List.getElem?_eq_some_iff.1 this).1;rw[qkm]at this;exact this)).trans (qc6 _ _ rm hQ c v hv);rw[<-Nat.add_mul];exact⟨(hc 0 _ rfl).trans (by rw[HV.kd]),(hc 2 _ rfl).trans (by rw[HV.text]),(hc 5 _ rfl).trans (by rw[HV.en])⟩
  have c0:=(HC.out wr _ _ HM.out.wk.at_).1;have Hm:=(show Hid ((Pl.qab K.S j)[off+i]?=some pt) by show _=_;rw[hF.out];exact Hv);have HQ2:=(show Hid _ from(Hg.out.ok.parts j s HS.out).2 pt (List.mem_of_getElem? Hv));have Hw:=Pl.qk5 (Hg.out.ok.wf j s HS.out) pt (List.mem_of_getElem? Hv);have Ho:=hd Hv;have H7:=hd h7;clear hQ Hv h7;have hV:(i:Int)<(len:Int):=by omega
  go_upto_block 1 with fail
  go_cut [8,9,10,11,12,13]from 14 to 151 (fun v8 v9 v10 v11 v12 v13 wx=>∃(j':Nat) (p'':Pl.Sp) (x'':Pl.Sx) (ve'' vS'':Value) (E'':List Pl.Et) (R'':List Pl.Vt) (r'':Nat),i<=j'/\v8=.int .i64 j'/\R''.length<=256/\Hid (Tm K w wx gw ve'' vS'' E'' R'' F p'')/\Hid (Tp K R R'' E E'' r r'' j off len (off+(j'+1)) x x'' p''))
  case first=>
   have hrb:r'<=1900000000000000000:=by
    have:=HP.out.le;have:=HP.out.hi;have:=HP.out.lenE;have:=HP.out.pre.length_le;have:=HP.out.inv.few;have:=ho.out.2.1;have h0:=HP.out.inv.few;simp only[List.length_nil]at h0;omega
   have HW:=hd hrb;clear hrb;have HBW:=(show Hid (K.B<=wr.heap.size)from Nat.le_trans Ha.out (by have:=HSZ.out;omega));have hp:=(show Hid (off+i<off+len) by show _<_;omega);go_upto_block 2 with fail
   go_cut [8,9,10,11,12,13]from 14 to 151 (fun v8 v9 v10 v11 v12 v13 wx=>∃(j':Nat) (p'':Pl.Sp) (x'':Pl.Sx) (ve'' vS'':Value) (E'':List Pl.Et) (R'':List Pl.Vt) (r'':Nat),i<=j'/\v8=.int .i64 j'/\Hid (Tm K w wx gw ve'' vS'' E'' R'' F p'')/\Hid (Tp K R R'' E E'' r r'' j off len (off+(j'+1)) x x'' p''))
   case first=>
    by_cases k1:pt.kind=1
    ·rw[show Pl.qbg pt.kind=0 by rw[k1];rfl]
     have hT:=fun W'=>qol p' r' ⟨pt.text.toArray⟩ W' HP.out.sp (by have:=HW.out;have:=HQ2.out.1;rw[qbz];omega);unfold qau qag at hT;have HT:=hd hT;have HN:=hd (HP.out.text Hm.out hp.out k1 HQ2.out.1);have c2:=(HC.out wr _ _ HM.out.wk.at_).2.1;clear hT k1 Hw;go_upto_region 6 with fail
     go_region_with (go_at_call 54;refine(HT.out _).mono ?_;rintro e w5 ⟨rfl,hb⟩;have he:=hd (HM.out.kept ⟨hb.os,hb.tape,hb.output,hb.size,hb.block⟩ Ha.out);obtain⟨u0,u1,u2,u3,u4,u5⟩:=qar he.out.spot;obtain⟨f0,f1,f2,f3,f4,f5⟩:=qd0 he.out.spot;clear hb;dsimp only)
     all_goals
      go_wp2_with fail
      go_meet
      exact⟨i,_,_,_,_,_,_,_,Nat.le_refl _,rfl,he.out.set Ha.out (Pl.qda p' pt.text),HN.out⟩
    by_cases k2:pt.kind=2
    ·rw[show Pl.qbg pt.kind=1 by rw[k2];rfl]
     have hT:=fun W'=>qpc p' W' (by have:=HP.out.sp.tag;omega) (by have:=HP.out.sp.attr;omega) (by have:=HP.out.sp.inside;omega) (by have:=HP.out.sp.run;have:=HW.out;omega);unfold qau qag at hT;have HT:=hd hT;have HN:=hd (HP.out.hole Hm.out hp.out k2);clear hT k1 k2 Hw;generalize p'.view.hole=vh at HT;generalize Pl.Sp.behindHole p'=ph at HT HN;go_wp2_with (go_at_call 55;refine(HT.out _).mono ?_;rintro e w5 ⟨rfl,hb⟩;have he:=hd (HM.out.kept ⟨hb.os,hb.tape,hb.output,hb.size,hb.block⟩ Ha.out);obtain⟨u0,u1,u2,u3,u4,u5⟩:=qar he.out.spot;obtain⟨f0,f1,f2,f3,f4,f5⟩:=qd0 he.out.spot;clear hb;dsimp only)
     go_meet
     exact⟨i,_,_,_,_,_,_,_,Nat.le_refl _,rfl,he.out.set Ha.out ph,HN.out⟩
    by_cases k5:pt.kind=5
    ·rw[show Pl.qbg pt.kind=3 by rw[k5];rfl]
     have HN:=hd (HP.out.skip hp.out fun R2 _=>Pl.q73 Hm.out k5);clear k1 k2 k5 Hw;go_wp2_with fail
     go_meet
     exact⟨i,_,_,_,_,_,_,_,Nat.le_refl _,rfl,HM,HN⟩
    by_cases k34:pt.kind=3\/pt.kind=4
    ·rw[show Pl.qbg pt.kind=2 by rcases k34 with h | h<;>rw[h]<;>rfl]
     have hm:=qhj (Hg.out.ok.wf j s HS.out) (off+i) pt Ho.out k34;have hcl:=q5i (Hg.out.ok.wf j s HS.out) (off+i) pt Ho.out k34;have hin:off+i<pt.mate/\pt.mate<off+len:=⟨by omega,HX.out.2.2.2 _ _ (by omega) hp.out Hm.out k34⟩;have hx:=hd hin;have c5:=fun W' ve1 E1 (hA:K.at_ W' ve1 E1)=>(HC.out W' ve1 E1 hA).2.2;rw[if_pos k34]at c5;obtain⟨d,Hi⟩:∃d,d=pt.mate - (off+i):=⟨_,rfl⟩;rw[<-Hi]at c5;have hdl:i+d<len:=by omega
     have hd1:1<=d:=by omega
     have HC5:=hd c5;have c5':=HC5.out wr _ _ HM.out.wk.at_;have Hx:=hd (fun(W':World) (hW:Tm K w W' gw ve' vS' E' R' F p')=>HT W' gw ve' vS' (.slice (some ⟨g7,off*6+(i+1)*6,none⟩) (d - 1) (cap - (i+1))) E' R' r' j (off+i+1) (d - 1) x' p' F hW.wk ⟨_,_,rfl,by omega,fun _=>⟨g7,cap7,by rw[hF.out];exact H7.out,by rw[Nat.add_assoc off i 1,Nat.add_mul off]⟩⟩ HJ.out (by rw[hF.out];omega) ⟨fun q hq=>hcl q (by rw[Nat.sub_zero,<-hF.out,<-hq];congr 1;omega),fun i' q h1 h2 h3 h4=>(by have:=q78 (Hg.out.ok.wf j s HS.out) (off+i) pt Ho.out k34 i' q (by omega) (by omega) (by rw[<-hF.out];exact h3) h4;omega)⟩ HP.out.inv HP.out.cm HP.out.par HP.out.sp HP.out.all Hu (Nat.le_trans Ha.out (by have:=hW.lt;omega)) (by have:=ho.out.1;have:=HP.out.pre.length_le;omega) (by have:=ho.out.2.1;have:=HP.out.le;have:=HP.out.lenE;have:=HP.out.pre.length_le;have h0:=HP.out.inv.few;simp only[List.length_nil]at h0;omega));unfold qau qag at Hx;have HDD:=(show Hid (d=pt.mate - (off+i))from Hi);clear hm hcl hin k1 k2 k5 Hw c5 Hi;have hw1:IntKind.i64.wrap ((i:Int)+1)=(i:Int)+1:=by rw[IntKind.wrap_i64];omega
     have hX:IntKind.i64.wrap ((i:Int)+(d:Int))=(i:Int)+(d:Int):=by rw[IntKind.wrap_i64];omega
     have hb1:(i:Int)+1<=(i:Int)+(d:Int):=by omega
     have hb2:(i:Int)+(d:Int)<=(cap:Int):=by omega
     have hb3:(1:Int)<=(d:Int):=by omega
     have hb4:(0:Int)<=(i:Int)+1:=by omega
     have hb5:(0:Int)<=(i:Int)+(d:Int):=by omega
     have hn1:((i:Int)+1).toNat=i+1:=by omega
     have hn2:((i:Int)+(d:Int)).toNat=i+d:=by omega
     have hne:¬cap=i+1:=by omega
     have hns:i+d - (i+1)=d - 1:=by omega
     go_upto_region 10 with fail
     go_region_with (go_at_call 33;refine Calls.mono (Hx.out _ HM.out.drew) ?_;rintro e w5 ⟨p5,ok5,ve5,vS5,E5,R5,r5,rfl,hG,HG,hI⟩;dsimp only)
     all_goals
      have he:=hd (HM.out.drew.trod HG hG);have HN:=(show Hid (Tp K R R5 E E5 r r5 j off len (off+(pt.mate - off+1)) x x' p') from by
       rw[show off+(pt.mate - off+1)=pt.mate+1 by have:=hx.out;omega];exact HP.out.sec Hm.out k34 hx.out.1 hx.out.2 (by rw[show pt.mate - (off+i+1)=d - 1 by rw[HDD.out];omega];exact hI))
      clear hG HG hI c5' hw1 hb1 hb2 hb3 hb4 hb5 hn1 hn2 hne hns c0;have c5:=HC5.out w5 _ _ he.out.wk.at_;have hmd:(i:Int)+(d:Int)=((pt.mate - off:Nat):Int):=by have:=hx.out;have:=HDD.out;omega
      have hmd2:pt.mate - off<=2000:=by have:=hx.out;omega
      have HMD:=(show Hid (i<=pt.mate - off) by show _<=_;have:=hx.out;omega);clear k34;go_wp2_with fail
      go_meet
      exact⟨pt.mate - off,_,_,_,_,_,_,_,HMD.out,by first|rfl|(congr 1;unfold wrap64;omega),he,HN⟩
    have k6:pt.kind=6:=by omega
    rw[show Pl.qbg pt.kind=4 by rw[k6];rfl];have c2:=(HC.out wr _ _ HM.out.wk.at_).2.1;have g0:=qaa HM.out.wk.blk 0 _ rfl;have hY:=hd (qsd ⟨pt.text.toArray⟩ HM.out.drew.wk.at_.tp (by have:=Hg.out.six;omega));cases Hp:Pl.qb6 K.nm pt.text
    ·have HN:=hd (HP.out.skip hp.out fun R2 h=>Pl.q94 Hm.out k6 Hp h)
     have HQ:=(show Hid (Pl.qb6 (K.N.map fun y=>y.data.toList) (⟨pt.text.toArray⟩:ByteArray).data.toList=none)from Hp);have HPn:Hid (Calls Tryz.prog 56 #[.pointer (some ⟨K.g,0,none⟩),.string ⟨pt.text.toArray⟩] wr.drew fun e w'=>e=.returned (.int .i64 (-1))/\w'=wr.drew):=by
      refine Calls.mono hY.out ?_;rintro e w' ⟨⟨rr,rfl,HY⟩,hw⟩;rcases HY with⟨rfl,_⟩|⟨k,_,h⟩
      ·exact⟨rfl,hw⟩
      ·rw[HQ.out]at h;cases h
     clear k1 k2 k34 k5 k6 Hw Hp;go_upto_region 13 with fail
     go_region_with (go_at_call 56;refine Calls.mono HPn.out ?_;rintro e w5 ⟨rfl,rfl⟩;dsimp only)
     all_goals
      go_wp2_with fail
      go_meet
      exact⟨i,_,_,_,_,_,_,_,Nat.le_refl _,rfl,Hu,HM.out.drew,HN.out⟩
    next m=>
    have HQ:=(show Hid (Pl.qb6 (K.N.map fun y=>y.data.toList) (⟨pt.text.toArray⟩:ByteArray).data.toList=some m)from Hp);have hmN:m<K.N.length:=by have:=qsw Hp;unfold Sk.nm at this;rwa [List.length_map]at this
    have hn:=hd hmN;have hR:=(show Hid (pt.kind=6/\Pl.qb6 K.nm pt.text=some m)from⟨k6,Hp⟩);have HPm:Hid (Calls Tryz.prog 56 #[.pointer (some ⟨K.g,0,none⟩),.string ⟨pt.text.toArray⟩] wr.drew fun e w'=>e=.returned (.int .i64 m)/\w'=wr.drew):=by
     refine Calls.mono hY.out ?_;rintro e w' ⟨⟨rr,rfl,HY⟩,hw⟩;rcases HY with⟨rfl,h⟩|⟨k,rfl,h⟩
     ·rw[HQ.out]at h;cases h
     ·rw[HQ.out]at h
      injection h with h;exact⟨by rw[h],hw⟩
    clear k1 k2 k34 k5 k6 Hw Hp;have hS:=fun W'=>qit p' W' (by have:=HP.out.sp.tag;omega) (by have:=HP.out.sp.attr;omega) (by have:=HP.out.sp.inside;omega) (by have:=HP.out.sp.run;have:=HW.out;omega);rw[Pl.qc8 _ _ HP.out.cm.fit.fit.ok HP.out.par]at hS;unfold qau qag qep qcv at hS;have HSE:=hd hS;clear hS;have hm0:¬(m:Int)<0:=by omega
    go_upto_region 13 with fail
    go_cut [9] (fun s9 wx=>s9=.int .i64 m/\wx=wr.drew)
    case first=>
     go_region_with (go_at_call 56;refine Calls.mono HPm.out ?_;rintro e w5 ⟨rfl,rfl⟩;dsimp only)
     all_goals
      go_wp2_with fail
      go_meet
      exact⟨rfl,rfl⟩
    case rest=>
    obtain⟨rfl,hwc⟩:=hcut;have HR:=hd HM.out.drew;rw[<-hwc]at HR;clear hwc c2 g0 q0 q1 q2 q3 q4 q5 c0 hY HPm;obtain⟨q0,q1,q2,q3,q4,q5⟩:=qar HR.out.spot;go_upto_region 15 with fail
    go_upto_region 16 with(go_at_call 41;refine(HSE.out _).mono ?_;rintro e w5 ⟨rfl,hb⟩;have he:=hd (HR.out.kept ⟨hb.os,hb.tape,hb.output,hb.size,hb.block⟩ Ha.out);clear hb;dsimp only)
    have HI:=hd (he.out.kept (w':=w5.alloc (.cells #[.int .i64 m,.int .i64 x'.view.mode,.int .i64 x'.view.elem,.int .i64 x'.view.attr,.int .i64 x'.view.ends,.int .i64 x'.view.esc,.int .i64 x'.view.pct,.int .i64 x'.view.link,.string ⟨x'.view.name.toArray⟩,.bool x'.view.ref] 143)) (ba _) Ha.out);have hJ:=heap_alloc_new w5 (.cells #[.int .i64 m,.int .i64 x'.view.mode,.int .i64 x'.view.elem,.int .i64 x'.view.attr,.int .i64 x'.view.ends,.int .i64 x'.view.esc,.int .i64 x'.view.pct,.int .i64 x'.view.link,.string ⟨x'.view.name.toArray⟩,.bool x'.view.ref] 143);generalize World.alloc w5 _=w6 at HI hJ |-;generalize w5.heap.size=VB at hJ |-;have hy:=hd hJ;obtain⟨v0,v1,v2,v3,v4,v5,v6,v7,v8,v9⟩:=qb7 hJ;have s1:=qaa HI.out.wk.blk 1 _ rfl;clear hJ he q0 q1 q2 q3 q4 q5 HR;have hZ:=fun(W':World) (h:W'.ownsRow K.B 143 10 vS' R'.length (qch R'))=>qkc K.B vS' R' m x' W' (by omega) h (fun u hu=>(HP.out.all u hu).1) HP.out.cm;unfold qfc at hZ;have HVI:=hd hZ;clear hZ;go_cut [11] (fun s11 wx=>∃b:Bool,s11=.bool b/\Hid ((b=true↔(m,x')∈R')/\Tm K w wx gw ve' vS' E' R' F p'/\wx.heap[VB]?=some (.cells #[.int .i64 m,.int .i64 x'.view.mode,.int .i64 x'.view.elem,.int .i64 x'.view.attr,.int .i64 x'.view.ends,.int .i64 x'.view.esc,.int .i64 x'.view.pct,.int .i64 x'.view.link,.string ⟨x'.view.name.toArray⟩,.bool x'.view.ref] 143 (0,0))))
    case first=>
     go_region_with (go_at_call 57;refine Calls.mono (HVI.out _ HI.out.drew.wk.seen) ?_;rintro e w7 ⟨⟨b,rfl,hb⟩,hbl⟩;have HBI:=hd hb;have HBL:=hd hbl;clear hb hbl;dsimp only)
     all_goals
      go_wp2_with fail
      go_meet
      exact⟨b,rfl,HBI.out,HI.out.drew.kept HBL.out Ha.out,(HBL.out.block _ (lta hy.out)).trans hy.out⟩
    case rest=>
    obtain⟨b,rfl,Hy⟩:=hcut;clear HI hy v0 v1 v2 v3 v4 v5 v6 v7 v8 v9 s1 HVI;go_upto_if 93 with fail
    go_cut [] (fun wx=>∃(ve'' vS'':Value) (E'':List Pl.Et) (R'':List Pl.Vt) (r'':Nat),Hid (Tm K w wx gw ve'' vS'' E'' R'' F p')/\Hid (Tp K R R'' E E'' r r'' j off len (off+i) x x' p'/\(m,x')∈R''))
    case first=>
     cases b
     rotate_left
     ·go_wp2_with fail
      go_meet
      exact⟨_,_,_,_,_,Hy.out.2.1,HP.out,Hy.out.1.1 trivial⟩
     have Hk:=hd Hy.out.2.1;have hy:=hd Hy.out.2.2;clear Hy;obtain⟨aoS,capS,HK⟩:=qas Hk.out.wk.seen;subst HK;have hGl:=(show Hid (gw<wc.heap.size)from(lta Hk.out.wk.blk));have s1:=qaa Hk.out.wk.blk 1 _ rfl;have s1':=fun o=>(qfj wc o ⟨gw,1,none⟩ hGl.out).trans (qaa Hk.out.wk.blk 1 _ rfl);obtain⟨v0,v1,v2,v3,v4,v5,v6,v7,v8,v9⟩:=qb7 hy.out;obtain⟨i0,hi0,hz0,hz1,hz2⟩:=info_parts qzh;go_upto_region 18 with fail
     go_cut [] (fun wx=>∃vS'',Hid (Tm K w wx gw ve' vS'' E' (R'++[(m,x')]) F p'))
     case first=>
      go_region_law (refine qbr rfl (.tmp 98) (.tmp 100) 90 rfl K.B 143 i0 (.agg #[.int .i64 0,.int .i64 0,.int .i64 0,.int .i64 0,.int .i64 0,.int .i64 0,.int .i64 0,.int .i64 0,.string ⟨#[]⟩,.bool false]) 10 88 Tryz.underlying90 hi0 hz0 hz1 hz2 rfl (by decide) (.slice aoS R'.length capS) R'.length _ (by simp[Act.eval]) (World.ownsRow.alloc Hk.out.wk.seen _) ⟨_,0,none⟩ 1 1 [.int .i64 m,.int .i64 x'.view.mode,.int .i64 x'.view.elem,.int .i64 x'.view.attr,.int .i64 x'.view.ends,.int .i64 x'.view.esc,.int .i64 x'.view.pct,.int .i64 x'.view.link,.string ⟨x'.view.name.toArray⟩,.bool x'.view.ref] (by simp[Act.eval]) rfl (qc5 _ _ _) (by intro u hu;simp at hu;rcases hu with rfl|rfl|rfl|rfl|rfl|rfl|rfl|rfl|rfl|rfl<;>rfl) (by unfold maxLen;omega) (by omega) (by simp;have:=Hk.out.lt;have:=Ha.out;omega) ?_;intro v' w6 hL hgr H2;obtain⟨g',cap',rfl,_,_⟩:=qaj hL (by omega);obtain⟨q4,r4⟩:=Hk.out.wk.ahead (ba _).drew hgr)
      all_goals
       go_wp2_with fail
       go_meet
       exact⟨_,Hk.out.more Ha.out (ba _).drew (m,x') hL hgr H2⟩
     case rest=>
     obtain⟨vS8,ha⟩:=hcut;clear Hk hy s1 s1' v0 v1 v2 v3 v4 v5 v6 v7 v8 v9 hGl;obtain⟨aoS8,capS8,Hq⟩:=qas ha.out.wk.seen;rw[List.length_append]at Hq;simp only[List.length_cons,List.length_nil]at Hq;subst Hq;have s1:=qaa ha.out.wk.blk 1 _ rfl;by_cases h7:R'.length+1<=256
     ·as_aux_lemma=>
      have H3:((R'.length+1:Nat):Int)<=256:=by omega
      have hm1:m+1<=K.N.length:=hn.out;obtain⟨s2,hz⟩:∃s2,K.S[m+1]?=some s2:=⟨_,List.getElem?_eq_getElem (by rw[Hg.out.len];omega)⟩;have Hr:Pl.qab K.S (m+1)=s2.parts:=by unfold Pl.qab;rw[hz]
      have hX:=Hg.out.ok.wf (m+1) s2 hz;have hl2:=(Hg.out.ok.parts (m+1) s2 hz).1;have Hs:=(ha.out.wk.at_.tp.row (m+1) s2 hz).1;rw[(ha.out.wk.at_.tp.row (m+1) s2 hz).2.len]at Hs;obtain⟨ao2,cap2,hv2,HB⟩:=qnr Hs;rw[<-Hr]at HB;have Hx:=hd (fun(W':World) (hW:Tm K w W' gw ve' (.slice aoS8 (R'.length+1) capS8) E' (R'++[(m,x')]) F p')=>HT W' gw ve' (.slice aoS8 (R'.length+1) capS8) (.slice ao2 (Pl.qab K.S (m+1)).length cap2) E' (R'++[(m,x')]) r' (m+1) 0 _ x' p' F hW.wk HB hm1 (by rw[Nat.zero_add];exact Nat.le_refl _) ⟨fun q hq=>(by rw[Nat.zero_add,List.getElem?_eq_none (Nat.le_refl _)]at hq;cases hq),fun i' q _ _ h3 h4=>(by rw[Hr]at h3 |-;have:=qhj hX i' q h3 h4;omega)⟩ (qvf HP.out.inv (List.prefix_append _ _)) HP.out.cm HP.out.par HP.out.sp (fun u hu=>(List.mem_append.1 hu).elim (HP.out.all u) fun z=>by rw[List.mem_singleton.1 z];exact⟨HP.out.cm,hn.out⟩) (by rw[List.length_append];exact h7) (Nat.le_trans Ha.out (by have:=hW.lt;omega)) (by rw[List.length_append,Hr];simp only[List.length_cons,List.length_nil];have:=ho.out.1;have:=HP.out.pre.length_le;omega) (by rw[List.length_append,Hr];simp only[List.length_cons,List.length_nil];have:=ho.out.2.1;have:=HP.out.le;have:=HP.out.hi;have:=HP.out.lenE;have:=HP.out.pre.length_le;have h0:=HP.out.inv.few;simp only[List.length_nil]at h0;omega));have HL:=(show Hid (∀(R5:List Pl.Vt) (E5:List Pl.Et) (r5:Nat),TrP K (R'++[(m,x')]) R5 E' E5 r' r5 (m+1) 0 (Pl.qab K.S (m+1)).length x'->_)from fun R5 E5 r5 ht=>HP.out.visit ht (by rw[Hr];exact hl2));unfold qau qag at Hx;obtain⟨bP,capP,H4,_,_⟩:=qaj ha.out.wk.at_.tp.parts (by have:=hn.out;omega);have Hf:=ha.out.wk.at_.tp.parts;rw[H4]at Hf;obtain⟨nm,hnm⟩:∃y,K.N[m]?=some y:=⟨_,List.getElem?_eq_getElem hn.out⟩;have hU:=(qht K.pv K.N 1 m nm hnm).2;rw[Nat.add_comm 1 m]at hU;have cP:=(Hf.cellAt (m*2+1) (by rw[<-qgv K.pv K.N 1];exact(List.getElem?_eq_some_iff.1 hU).1)).trans hU;have c1:wc.cell? ⟨K.g,1,none⟩=some (.slice (some ⟨bP,0,none⟩) K.N.length capP):=(qaa ha.out.wk.at_.tp.blk 1 _ rfl).trans (by rw[H4]);rw[hv2]at cP;rw[Hr]at Hx HL;have s0:=qaa ha.out.wk.blk 0 _ rfl;have hnN:(m:Int)<(K.N.length:Int):=by have:=hn.out;omega
      obtain⟨q0,q1,q2,q3,q4,q5⟩:=qar ha.out.spot;clear Hf hU H4 hnm HB Hs hv2 hl2 hX Hr hz;go_upto_region 20 with fail
      go_region_with (go_at_call 33;refine Calls.mono (Hx.out _ ha.out.drew) ?_;rintro e w5 ⟨p5,ok5,ve5,vS5,E5,R5,r5,rfl,hG,HG,hI⟩;dsimp only)
      all_goals
       have Hn:=hd (ha.out.drew.trod HG hG);have HN9:=hd (HL.out _ _ _ hI);clear hG HG hI;go_wp2_with fail
       go_meet
       exact⟨_,_,_,_,_,Hn,HN9⟩
     ·have H3:¬((R'.length+1:Nat):Int)<=256:=by omega
      have H0:=HP.out.visit0 Hu h7 hn.out;have H1:=hd H0;clear H0;go_wp2_with fail
      go_meet
      exact⟨_,_,_,_,_,ha,H1⟩
    case rest=>
    obtain⟨ve'',vS'',E'',R'',r'',ha,Hc⟩:=hcut;clear Hy;obtain⟨aoS,capS,HK⟩:=qas ha.out.wk.seen;subst HK;have s1:=qaa ha.out.wk.blk 1 _ rfl;have s0:=qaa ha.out.wk.blk 0 _ rfl;by_cases h7:R''.length<=256
    rotate_left
    ·have H3:(R''.length:Int) > 256:=by omega
     have HN7:=hd h7;clear h7;obtain⟨q0,q1,q2,q3,q4,q5⟩:=qar ha.out.spot;obtain⟨r0,r1,r2,r3,r4,r5⟩:=qar ha.out.res;obtain⟨f0,f1,f2,f3,f4,f5⟩:=qd0 ha.out.res;go_wp2_with fail
     try rw[hE]
     refine qk9 (ok:=false) Ha.out ha.out (Hc.out.1.wide HN7.out) ?_ ?_ ?_
     all_goals rfl
    have H3:¬(R''.length:Int) > 256:=by omega
    have hrk:r''+4000000*(429926418001 - E''.length)<=1900000000000000000:=by
     have:=ho.out.2.1;have:=Hc.out.1.le;have:=Hc.out.1.hi;have:=Hc.out.1.lenE;have:=Hc.out.1.pre.length_le;have:=Hc.out.1.few;have h0:=Hc.out.1.inv.few;simp only[List.length_nil]at h0;omega
    have h5:=fun(W':World) (hA:K.at_ W' ve'' E'') (hB:K.B<=W'.heap.size)=>HE R'' W' ve'' (.slice none 0 0) E'' [] m x' p' r'' hA (World.ownsRow_nil _ _ _ _) Hc.out.1.inv Hc.out.1.cm Hc.out.1.par Hc.out.1.sp hn.out (Pl.qzf (by omega) Hc.out.2 (by show m<6;have:=hn.out;have:=Hg.out.six;omega) Hc.out.1.cm.fit.fit.ok.st.name) List.not_mem_nil (fun u hu=>absurd hu List.not_mem_nil) hB (by omega) (by simp only[List.length_nil];omega);unfold qau qag at h5;have H5:=hd h5;clear h5 hrk;go_upto_region 23 with fail
    generalize wc=w9 at ha s1 s0 |-;have hM:=(lta ha.out.spot);have hN:=(lta ha.out.wk.blk);obtain⟨q0,q1,q2,q3,q4,q5⟩:=qar ha.out.spot;have Ht:=hd (fun o=>qar ((heap_alloc_old w9 o hM).trans ha.out.spot));have q0':=fun o=>(Ht.out o).1;have q1':=fun o=>(Ht.out o).2.1;have q2':=fun o=>(Ht.out o).2.2.1;have q3':=fun o=>(Ht.out o).2.2.2.1;have q4':=fun o=>(Ht.out o).2.2.2.2.1;have q5':=fun o=>(Ht.out o).2.2.2.2.2;have s0':=fun o=>qaa ((heap_alloc_old w9 o hN).trans ha.out.wk.blk) 0 _ rfl;have HBS:=(show Hid (K.B<=w9.heap.size)from Nat.le_trans Ha.out (by have:=ha.out.lt;omega));have HSL:=(show Hid (w.heap.size+1<w9.heap.size)from ha.out.lt);clear hM hN;go_cut [12,13] (fun s12 s13 wx=>∃(ok:Bool) (TB:Nat),s12=.pointer (some ⟨TB,0,none⟩)/\s13=.bool ok/\Hid (∃p5 ve5 E5 r5,Tm K w wx gw ve5 (.slice aoS R''.length capS) E5 R'' F p'/\wx.heap[TB]?=some (.cells (qag p5) 94 (0,0))/\Pl.EInv K.bd R'' r5 E5 []/\Pl.SpOk r5 p5/\E''.length<=E5.length/\r''<=r5/\r5<=r''+4000000*(E5.length - E''.length)+0/\(ok=true->∃y,Pl.Done K.bd m x' y/\Pl.ParX y p5/\Pl.Cm y)/\(ok=false->∀y,¬Pl.Done K.bd m x' y)))
    case first=>
     as_aux_lemma=>
     have H6:=(show Hid _ from((Below.refl w9.heap.size w9).alloc (Nat.le_refl _) (.cells #[.int .i64 0,.string ⟨#[]⟩,.string ⟨#[]⟩,.string ⟨#[]⟩,.string ⟨#[]⟩,.int .i64 0] 94)).drew);go_wp2_with fail
     go_region_with (go_at_call 58;first
      |(refine Calls.mono (H5.out (w9.alloc (.cells #[.int .i64 0,.string ⟨#[]⟩,.string ⟨#[]⟩,.string ⟨#[]⟩,.string ⟨#[]⟩,.int .i64 0] 94)).drew (ha.out.kept H6.out Ha.out).wk.at_ (Nat.le_trans HBS.out H6.out.size)) ?_;rintro e w8 ⟨p5,ok,ve5,E5,r5,rfl,Hi⟩;unfold qau qag;have HZ:=(show Hid _ from(Hi.ck.keep _ _ _ _ (heap_alloc_new w9 (.cells #[.int .i64 0,.string ⟨#[]⟩,.string ⟨#[]⟩,.string ⟨#[]⟩,.string ⟨#[]⟩,.int .i64 0] 94)) (by decide) (by decide)).trans (heap_alloc_new w9 (.cells #[.int .i64 0,.string ⟨#[]⟩,.string ⟨#[]⟩,.string ⟨#[]⟩,.string ⟨#[]⟩,.int .i64 0] 94)));obtain⟨u0,u1,u2,u3,u4,u5⟩:=qar HZ.out;obtain⟨f0,f1,f2,f3,f4,f5⟩:=qd0 HZ.out;have HD:=hd Hi;clear Hi;dsimp only)
      | (refine Calls.mono (H5.out w9.drew ha.out.drew.wk.at_ HBS.out) ?_;rintro e w8 ⟨p5,ok,ve5,E5,r5,rfl,Hi⟩;unfold qau qag;have HD:=hd Hi;clear Hi;dsimp only))
     all_goals
      go_wp2_with fail
      go_meet
      first
      |exact⟨ok,_,rfl,rfl,p5,ve5,E5,r5,(((ha.out.kept H6.out Ha.out).ended HD.out.ck HD.out.at_).setFar Ha.out HZ.out HSL.out _ _ _ _ _ _),qg2 HZ.out _ _ _ _ _ _,HD.out.inv,HD.out.sp,HD.out.len,HD.out.up,HD.out.le,HD.out.yes,HD.out.no⟩
      |exact⟨ok,_,rfl,rfl,p5,ve5,E5,r5,((ha.out.drew.ended HD.out.ck HD.out.at_).kept (ba _) Ha.out),heap_alloc_new _ _,HD.out.inv,HD.out.sp,HD.out.len,HD.out.up,HD.out.le,HD.out.yes,HD.out.no⟩
    case rest=>
    obtain⟨ok,TB,rfl,rfl,HC9⟩:=hcut;obtain⟨p5,ve5,E5,r5,hm9,htb,Hb,Hl,He,Hz,HA,hg,hO⟩:=HC9.out;have Hn:=hd hm9;have HD:=(show Hid (Pl.EInv K.bd R'' r5 E5 []/\Pl.SpOk r5 p5/\E''.length<=E5.length/\r''<=r5/\r5<=r''+4000000*(E5.length - E''.length)+0/\(ok=true->∃y,Pl.Done K.bd m x' y/\Pl.ParX y p5/\Pl.Cm y)/\(ok=false->∀y,¬Pl.Done K.bd m x' y))from⟨Hb,Hl,He,Hz,HA,hg,hO⟩);obtain⟨u0,u1,u2,u3,u4,u5⟩:=qar htb;clear q0 q1 q2 q3 q4 q5 q0' q1' q2' q3' q4' q5' s0 s0' s1 Ht ha H5 HC9 hm9 htb Hb Hl He Hz HA hg hO;obtain⟨q0,q1,q2,q3,q4,q5⟩:=qar Hn.out.spot;cases ok
    ·obtain⟨r0,r1,r2,r3,r4,r5'⟩:=qar Hn.out.res
     obtain⟨f0,f1,f2,f3,f4,f5⟩:=qd0 Hn.out.res;go_wp2_with fail
     try rw[hE]
     obtain⟨Hb,Hl,He,Hz,HA,hg,hO⟩:=HD.out;refine qk9 (ok:=false) Ha.out Hn.out (Hc.out.1.nodone Hm.out hp.out hR.out.1 hR.out.2 Hc.out.2 (hO trivial) Hb He Hz HA) ?_ ?_ ?_
     all_goals rfl
    obtain⟨f0,f1,f2,f3,f4,f5⟩:=qd0 Hn.out.spot;go_wp2_with fail
    go_meet
    obtain⟨Hb,Hl,He,Hz,HA,hg,hO⟩:=HD.out;obtain⟨y,hy1,hy2,hy3⟩:=hg trivial;exact⟨i,_,_,_,_,_,_,_,Nat.le_refl _,rfl,Hn.out.set Ha.out p5,Hc.out.1.call Hm.out hp.out hR.out.1 hR.out.2 Hc.out.2 hy1 hy2 hy3 Hb Hl He Hz HA⟩
   case rest=>
   obtain⟨j',p'',x'',ve'',vS'',E'',R'',r'',hij,rfl,hl,HO⟩:=hcut;obtain⟨aoS,capS,HK⟩:=qas hl.out.wk.seen;subst HK;have s1:=qaa hl.out.wk.blk 1 _ rfl;by_cases h6:R''.length<=256
   ·have h6':¬(R''.length:Int) > 256:=by omega
    go_wp2_with fail
    go_meet
    exact⟨j',p'',x'',ve'',_,E'',R'',r'',hij,rfl,h6,hl,HO⟩
   ·have h6':(R''.length:Int) > 256:=by omega
    have HN6:=hd h6;clear h6 q0 q1 q2 q3 q4 q5;obtain⟨q0,q1,q2,q3,q4,q5⟩:=qar hl.out.spot;obtain⟨r0,r1,r2,r3,r4,r5⟩:=qar hl.out.res;obtain⟨f0,f1,f2,f3,f4,f5⟩:=qd0 hl.out.res;go_wp2_with fail
    try rw[hE]
    refine qk9 (ok:=false) Ha.out hl.out (HO.out.wide HN6.out) ?_ ?_ ?_
    all_goals rfl
  case rest=>
  obtain⟨j',p'',x'',ve'',vS'',E'',R'',r'',hij,rfl,hR2,hl,HO⟩:=hcut;have hj2:=HO.out.hi;go_wp2_with fail
  refine⟨⟨j'+1,p'',x'',ve'',vS'',E'',R'',r'',by go_num,hR2,hl,HO⟩,?_⟩;simp[intOf];omega
end Go.Proofs.YtfkhljmiehdgmaaGreatDoor
