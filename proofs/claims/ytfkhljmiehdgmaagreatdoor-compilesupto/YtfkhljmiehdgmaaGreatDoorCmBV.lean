/-
  Steps of the proof.
-/
import Derived.Test.YtfkhljmiehdgmaaGreatDoorCmBS
set_option maxRecDepth 100000
set_option maxHeartbeats 40000000
namespace Go.Proofs.YtfkhljmiehdgmaaGreatDoor
open Go.RowKit
theorem q17(K:Sk)(hK:SkOk K)(k:Nat)(HE:∀R,EndC K R 429926418001)(HT:qzm K k):qzm K (k+1):=by
 intro w gw ve vS v E R r j off len x p F H6 HA hj Hi hf Hb h8 HB hl hC Ht hB hk hr;obtain⟨s,hs⟩:∃s,K.S[j]?=some s:=⟨_,List.getElem?_eq_getElem (by rw[hK.len];omega)⟩;have hP:Pl.qab K.S j=s.parts:=by unfold Pl.qab;rw[hs]
 obtain⟨ao,cap,rfl,hlc,hU⟩:=HA;obtain⟨Q,hD⟩:∃Q:Ending→World→Prop,Q=fun e w'=>TrO K w gw E R r j off len x F e w':=⟨_,rfl⟩;rw[←hD];have H0:Hid (Tm K w ((w.alloc (.cells (qag p) 94)).alloc (.cells #[.int .i64 0,.string ⟨#[]⟩,.string ⟨#[]⟩,.string ⟨#[]⟩,.string ⟨#[]⟩,.int .i64 0] 94)) gw ve vS E R F p):=by
  have hb:=((Below.refl w.heap.size w).alloc (Nat.le_refl _) (.cells (qag p) 94)).alloc (by simp) (.cells #[.int .i64 0,.string ⟨#[]⟩,.string ⟨#[]⟩,.string ⟨#[]⟩,.string ⟨#[]⟩,.int .i64 0] 94);exact⟨(heap_alloc_old _ _ (by simp)).trans (heap_alloc_new _ _),qal _ _ _ (by simp),H6.kept hb,Cw.of_below hb hB⟩
 have H8:Hid (Tp K R R E E r r j off len off x x p):=⟨Hb,h8,HB,hl,List.prefix_refl _,hC,by omega,Nat.le_refl _,Nat.le_refl _,by omega,Nat.le_refl _,by omega,fun _=>⟨fun _ _ h=>h,fun _ h h'=>absurd h h'⟩⟩;unfold qat;unfold qag at H0 ⊢;go_enter Tryz.func33,Tryz.ntmps33
 go_wp2_with fail
 generalize World.alloc _ _=w1 at H0 ⊢;have Hg:=hd hK;have HS:=hd hs;have Ha:=hd hB;have HX:=(show Hid ((0<len→∃g cap0,K.pv j=.slice (some ⟨g,0,none⟩) s.parts.length cap0∧ao=some ⟨g,off*6,none⟩)∧off+len≤s.parts.length∧(∀q,(Pl.qab K.S j)[off+len]?=some q→q.kind=5)∧∀(i:Nat) (q:Pl.Pt),off≤i→i<off+len→(Pl.qab K.S j)[i]?=some q→(q.kind=3∨q.kind=4)→q.mate<off+len) from⟨by rw[hP]at hU;exact hU,by rw[hP]at Hi;exact Hi,hf⟩);have Hn:=hd (And.intro hk (And.intro hr Ht));have hE:=hd hP;have HJ:=hd hj;have hL2:s.parts.length≤2000:=(hK.ok.parts j s hs).1;have h9:len≤2000:=by rw[hP]at Hi;omega
 clear H6 Hb h8 HB hl hC Ht hB hk hr hP hs hK hU Hi hf hj;go_loopw [8] (fun v8 wr=>∃(i:Nat) (p':Pl.Sp) (x':Pl.Sx) (ve' vS':Value) (E':List Pl.Et) (R':List Pl.Vt) (r':Nat),v8=.int .i64 i∧R'.length≤256∧Hid (Tm K w wr gw ve' vS' E' R' F p')∧Hid (Tp K R R' E E' r r' j off len (off+i) x x' p')) (fun v8 _=>len - (intOf v8).toNat)
 case atStart=>exact⟨0,p,x,ve,vS,E,R,r,rfl,Hn.out.2.2,H0,H8⟩
 case round=>
  clear H0 H8;obtain⟨i,p',x',ve',vS',E',R',r',rfl,Ht,HM,HP⟩:=hrel;have hile:i≤len:=by have:=HP.out.hi;omega
  obtain⟨q0,q1,q2,q3,q4,q5⟩:=qau HM.out.spot;have HSZ:=hd HM.out.lt;by_cases hlt:i<len
  rotate_left
  ·have HU:¬(i:Int)<(len:Int):=by omega
   obtain⟨r0,r1,r2,r3,r4,r5⟩:=qau HM.out.res;obtain⟨f0,f1,f2,f3,f4,f5⟩:=qdx HM.out.res;have hil:i=len:=by omega
   have HD:=(show Hid _ from(show Tp K R R' E E' r r' j off len (off+len) x x' p' from hil▸HP.out).done HX.out.2.2.1);go_wp2_with fail
   try rw[hD]
   refine qk5 (ok:=true) Ha.out HM.out HD.out ?_ ?_ ?_
   all_goals rfl
  obtain⟨g7,cap7,h7,rfl⟩:=HX.out.1 (by omega);obtain⟨pt,Hu⟩:∃pt,s.parts[off+i]?=some pt:=⟨_,List.getElem?_eq_getElem (by have:=HX.out.2.1;omega)⟩;obtain⟨rm,HO⟩:∃rm,(K.RL j)[off+i]?=some rm:=⟨_,List.getElem?_eq_getElem (by rw[(HM.out.wk.at_.tp.row j s HS.out).2.len];have:=HX.out.2.1;omega)⟩;have HC:Hid (∀(W':World) (ve1:Value) (E1:List Pl.Et),K.at_ W' ve1 E1→W'.cell? ⟨g7,off*6+i*6,none⟩=some (.int .i64 (Pl.qbg pt.kind))∧W'.cell? ⟨g7,off*6+i*6+2,none⟩=some (.string ⟨pt.text.toArray⟩)∧W'.cell? ⟨g7,off*6+i*6+5,none⟩=some (.int .i64 ((if pt.kind=3∨pt.kind=4 then pt.mate - (off+i) else 0:Nat)))):=by
   intro W' ve1 E1 hA;have hV:=(hA.tp.row j s HS.out).2.each (off+i) rm pt HO Hu;have hF:=(hA.tp.row j s HS.out).1;rw[h7,← (hA.tp.row j s HS.out).2.len]at hF;have hc:=fun c v (hv:(qc8 rm)[c]?=some v)=>(hF.cellAt ((off+i)*6+c) (by have:=qc4 _ _ rm HO c v hv;have:=(List.getElem?_eq_some_iff.1 this).1;rw[qki]at this;exact this)).trans (qc4 _ _ rm HO c v hv);rw[←Nat.add_mul];exact⟨(hc 0 _ rfl).trans (by rw[hV.kd]),(hc 2 _ rfl).trans (by rw[hV.text]),(hc 5 _ rfl).trans (by rw[hV.en])⟩
  have c0:=(HC.out wr _ _ HM.out.wk.at_).1;have Hl:=(show Hid ((Pl.qab K.S j)[off+i]?=some pt) by show _=_;rw[hE.out];exact Hu);have H9:=(show Hid _ from(Hg.out.ok.parts j s HS.out).2 pt (List.mem_of_getElem? Hu));have Hv:=Pl.qk1 (Hg.out.ok.wf j s HS.out) pt (List.mem_of_getElem? Hu);have ho:=hd Hu;have H7:=hd h7;clear HO Hu h7;have HU:(i:Int)<(len:Int):=by omega
  go_upto_block 1 with fail
  go_cut [8,9,10,11,12,13] from 14 to 151 (fun v8 v9 v10 v11 v12 v13 wx=>∃(j':Nat) (p'':Pl.Sp) (x'':Pl.Sx) (ve'' vS'':Value) (E'':List Pl.Et) (R'':List Pl.Vt) (r'':Nat),i≤j'∧v8=.int .i64 j'∧R''.length≤256∧Hid (Tm K w wx gw ve'' vS'' E'' R'' F p'')∧Hid (Tp K R R'' E E'' r r'' j off len (off+(j'+1)) x x'' p''))
  case first=>
   have hrb:r'≤1900000000000000000:=by
    have:=HP.out.le;have:=HP.out.hi;have:=HP.out.lenE;have:=HP.out.pre.length_le;have:=HP.out.inv.few;have:=Hn.out.2.1;have h0:=HP.out.inv.few;simp only[List.length_nil]at h0;omega
   have HV:=hd hrb;clear hrb;have HBW:=(show Hid (K.B≤wr.heap.size) from Nat.le_trans Ha.out (by have:=HSZ.out;omega));have Ho:=(show Hid (off+i<off+len) by show _<_;omega);go_upto_block 2 with fail
   go_cut [8,9,10,11,12,13] from 14 to 151 (fun v8 v9 v10 v11 v12 v13 wx=>∃(j':Nat) (p'':Pl.Sp) (x'':Pl.Sx) (ve'' vS'':Value) (E'':List Pl.Et) (R'':List Pl.Vt) (r'':Nat),i≤j'∧v8=.int .i64 j'∧Hid (Tm K w wx gw ve'' vS'' E'' R'' F p'')∧Hid (Tp K R R'' E E'' r r'' j off len (off+(j'+1)) x x'' p''))
   case first=>
    by_cases k1:pt.kind=1
    ·rw[show Pl.qbg pt.kind=0 by rw[k1];rfl]
     have hT:=fun W'=>qoe p' r' ⟨pt.text.toArray⟩ W' HP.out.sp (by have:=HV.out;have:=H9.out.1;rw[qbz];omega);unfold qat qag at hT;have HT:=hd hT;have HN:=hd (HP.out.text Hl.out Ho.out k1 H9.out.1);have c2:=(HC.out wr _ _ HM.out.wk.at_).2.1;clear hT k1 Hv;go_upto_region 6 with fail
     go_region_with (go_at_call 54;refine(HT.out _).mono ?_;rintro e w5 ⟨rfl,hb⟩;have he:=hd (HM.out.kept ⟨hb.os,hb.tape,hb.output,hb.size,hb.block⟩ Ha.out);obtain⟨u0,u1,u2,u3,u4,u5⟩:=qau he.out.spot;obtain⟨f0,f1,f2,f3,f4,f5⟩:=qdx he.out.spot;clear hb;dsimp only)
     all_goals
      go_wp2_with fail
      go_meet
      exact⟨i,_,_,_,_,_,_,_,Nat.le_refl _,rfl,he.out.set Ha.out (Pl.qc7 p' pt.text),HN.out⟩
    by_cases k2:pt.kind=2
    ·rw[show Pl.qbg pt.kind=1 by rw[k2];rfl]
     have hT:=fun W'=>qo5 p' W' (by have:=HP.out.sp.tag;omega) (by have:=HP.out.sp.attr;omega) (by have:=HP.out.sp.inside;omega) (by have:=HP.out.sp.run;have:=HV.out;omega);unfold qat qag at hT;have HT:=hd hT;have HN:=hd (HP.out.hole Hl.out Ho.out k2);clear hT k1 k2 Hv;generalize p'.view.hole=vh at HT;generalize Pl.Sp.behindHole p'=ph at HT HN;go_wp2_with (go_at_call 55;refine(HT.out _).mono ?_;rintro e w5 ⟨rfl,hb⟩;have he:=hd (HM.out.kept ⟨hb.os,hb.tape,hb.output,hb.size,hb.block⟩ Ha.out);obtain⟨u0,u1,u2,u3,u4,u5⟩:=qau he.out.spot;obtain⟨f0,f1,f2,f3,f4,f5⟩:=qdx he.out.spot;clear hb;dsimp only)
     go_meet
     exact⟨i,_,_,_,_,_,_,_,Nat.le_refl _,rfl,he.out.set Ha.out ph,HN.out⟩
    by_cases k5:pt.kind=5
    ·rw[show Pl.qbg pt.kind=3 by rw[k5];rfl]
     have HN:=hd (HP.out.skip Ho.out fun R2 _=>Pl.q7n Hl.out k5);clear k1 k2 k5 Hv;go_wp2_with fail
     go_meet
     exact⟨i,_,_,_,_,_,_,_,Nat.le_refl _,rfl,HM,HN⟩
    by_cases k34:pt.kind=3∨pt.kind=4
    ·rw[show Pl.qbg pt.kind=2 by rcases k34 with h | h<;>rw[h]<;>rfl]
     have hm:=qhh (Hg.out.ok.wf j s HS.out) (off+i) pt ho.out k34;have hcl:=q43 (Hg.out.ok.wf j s HS.out) (off+i) pt ho.out k34;have hin:off+i<pt.mate∧pt.mate<off+len:=⟨by omega,HX.out.2.2.2 _ _ (by omega) Ho.out Hl.out k34⟩;have Hw:=hd hin;have c5:=fun W' ve1 E1 (hA:K.at_ W' ve1 E1)=>(HC.out W' ve1 E1 hA).2.2;rw[if_pos k34]at c5;obtain⟨d,hd⟩:∃d,d=pt.mate - (off+i):=⟨_,rfl⟩;rw[←hd]at c5;have hdl:i+d<len:=by omega
     have hd1:1≤d:=by omega
     have HC5:=hd c5;have c5':=HC5.out wr _ _ HM.out.wk.at_;have hx:=hd (fun(W':World) (hW:Tm K w W' gw ve' vS' E' R' F p')=>HT W' gw ve' vS' (.slice (some ⟨g7,off*6+(i+1)*6,none⟩) (d - 1) (cap - (i+1))) E' R' r' j (off+i+1) (d - 1) x' p' F hW.wk ⟨_,_,rfl,by omega,fun _=>⟨g7,cap7,by rw[hE.out];exact H7.out,by rw[Nat.add_assoc off i 1,Nat.add_mul off]⟩⟩ HJ.out (by rw[hE.out];omega) ⟨fun q hq=>hcl q (by rw[Nat.sub_zero,←hE.out,←hq];congr 1;omega),fun i' q h1 h2 h3 h4=>(by have:=q7s (Hg.out.ok.wf j s HS.out) (off+i) pt ho.out k34 i' q (by omega) (by omega) (by rw[←hE.out];exact h3) h4;omega)⟩ HP.out.inv HP.out.cm HP.out.par HP.out.sp HP.out.all Ht (Nat.le_trans Ha.out (by have:=hW.lt;omega)) (by have:=Hn.out.1;have:=HP.out.pre.length_le;omega) (by have:=Hn.out.2.1;have:=HP.out.le;have:=HP.out.lenE;have:=HP.out.pre.length_le;have h0:=HP.out.inv.few;simp only[List.length_nil]at h0;omega));unfold qat qag at hx;have HDD:=(show Hid (d=pt.mate - (off+i)) from hd);clear hm hcl hin k1 k2 k5 Hv c5 hd;have hw1:IntKind.i64.wrap ((i:Int)+1)=(i:Int)+1:=by rw[IntKind.wrap_i64];omega
     have HW:IntKind.i64.wrap ((i:Int)+(d:Int))=(i:Int)+(d:Int):=by rw[IntKind.wrap_i64];omega
     have hb1:(i:Int)+1≤(i:Int)+(d:Int):=by omega
     have hb2:(i:Int)+(d:Int)≤(cap:Int):=by omega
     have hb3:(1:Int)≤(d:Int):=by omega
     have hb4:(0:Int)≤(i:Int)+1:=by omega
     have hb5:(0:Int)≤(i:Int)+(d:Int):=by omega
     have hn1:((i:Int)+1).toNat=i+1:=by omega
     have hn2:((i:Int)+(d:Int)).toNat=i+d:=by omega
     have hne:¬cap=i+1:=by omega
     have hns:i+d - (i+1)=d - 1:=by omega
     go_upto_region 10 with fail
     go_region_with (go_at_call 33;refine Calls.mono (hx.out _ HM.out.drew) ?_;rintro e w5 ⟨p5,ok5,ve5,vS5,E5,R5,r5,rfl,HF,hG,HG⟩;dsimp only)
     all_goals
      have he:=hd (HM.out.drew.trod hG HF);have HN:=(show Hid (Tp K R R5 E E5 r r5 j off len (off+(pt.mate - off+1)) x x' p') from by
       rw[show off+(pt.mate - off+1)=pt.mate+1 by have:=Hw.out;omega];exact HP.out.sec Hl.out k34 Hw.out.1 Hw.out.2 (by rw[show pt.mate - (off+i+1)=d - 1 by rw[HDD.out];omega];exact HG))
      clear HF hG HG c5' hw1 hb1 hb2 hb3 hb4 hb5 hn1 hn2 hne hns c0;have c5:=HC5.out w5 _ _ he.out.wk.at_;have hmd:(i:Int)+(d:Int)=((pt.mate - off:Nat):Int):=by have:=Hw.out;have:=HDD.out;omega
      have hmd2:pt.mate - off≤2000:=by have:=Hw.out;omega
      have HMD:=(show Hid (i≤pt.mate - off) by show _≤_;have:=Hw.out;omega);clear k34;go_wp2_with fail
      go_meet
      exact⟨pt.mate - off,_,_,_,_,_,_,_,HMD.out,by first | rfl | (congr 1;unfold wrap64;omega),he,HN⟩
    have k6:pt.kind=6:=by omega
    rw[show Pl.qbg pt.kind=4 by rw[k6];rfl];have c2:=(HC.out wr _ _ HM.out.wk.at_).2.1;have g0:=qaa HM.out.wk.blk 0 _ rfl;have hX:=hd (qwz ⟨pt.text.toArray⟩ HM.out.drew.wk.at_.tp (by have:=Hg.out.six;omega));cases hp:Pl.qca K.nm pt.text
    ·have HN:=hd (HP.out.skip Ho.out fun R2 h=>Pl.q9l Hl.out k6 hp h)
     have hQ:=(show Hid (Pl.qca (K.N.map fun y=>y.data.toList) (⟨pt.text.toArray⟩:ByteArray).data.toList=none) from hp);have HPn:Hid (Calls Tryz.prog 56 #[.pointer (some ⟨K.g,0,none⟩),.string ⟨pt.text.toArray⟩] wr.drew fun e w'=>e=.returned (.int .i64 (-1))∧w'=wr.drew):=by
      refine Calls.mono hX.out ?_;rintro e w' ⟨⟨rr,rfl,hY⟩,hw⟩;rcases hY with ⟨rfl,_⟩ | ⟨k,_,h⟩
      ·exact⟨rfl,hw⟩
      ·rw[hQ.out]at h;cases h
     clear k1 k2 k34 k5 k6 Hv hp;go_upto_region 13 with fail
     go_region_with (go_at_call 56;refine Calls.mono HPn.out ?_;rintro e w5 ⟨rfl,rfl⟩;dsimp only)
     all_goals
      go_wp2_with fail
      go_meet
      exact⟨i,_,_,_,_,_,_,_,Nat.le_refl _,rfl,Ht,HM.out.drew,HN.out⟩
    next m=>
    have hQ:=(show Hid (Pl.qca (K.N.map fun y=>y.data.toList) (⟨pt.text.toArray⟩:ByteArray).data.toList=some m) from hp);have hmN:m<K.N.length:=by have:=qsm hp;unfold Sk.nm at this;rwa [List.length_map]at this
    have Hm:=hd hmN;have HQ:=(show Hid (pt.kind=6∧Pl.qca K.nm pt.text=some m) from⟨k6,hp⟩);have HPm:Hid (Calls Tryz.prog 56 #[.pointer (some ⟨K.g,0,none⟩),.string ⟨pt.text.toArray⟩] wr.drew fun e w'=>e=.returned (.int .i64 m)∧w'=wr.drew):=by
     refine Calls.mono hX.out ?_;rintro e w' ⟨⟨rr,rfl,hY⟩,hw⟩;rcases hY with ⟨rfl,h⟩ | ⟨k,rfl,h⟩
     ·rw[hQ.out]at h;cases h
     ·rw[hQ.out]at h
      injection h with h;exact⟨by rw[h],hw⟩
    clear k1 k2 k34 k5 k6 Hv hp;have hS:=fun W'=>qiq p' W' (by have:=HP.out.sp.tag;omega) (by have:=HP.out.sp.attr;omega) (by have:=HP.out.sp.inside;omega) (by have:=HP.out.sp.run;have:=HV.out;omega);rw[Pl.qc6 _ _ HP.out.cm.fit.fit.ok HP.out.par]at hS;unfold qat qag qel qcu at hS;have HSE:=hd hS;clear hS;have hm0:¬(m:Int)<0:=by omega
    go_upto_region 13 with fail
    go_cut [9] (fun s9 wx=>s9=.int .i64 m∧wx=wr.drew)
    case first=>
     go_region_with (go_at_call 56;refine Calls.mono HPm.out ?_;rintro e w5 ⟨rfl,rfl⟩;dsimp only)
     all_goals
      go_wp2_with fail
      go_meet
      exact⟨rfl,rfl⟩
    case rest=>
    obtain⟨rfl,hwc⟩:=hcut;have hR:=hd HM.out.drew;rw[←hwc]at hR;clear hwc c2 g0 q0 q1 q2 q3 q4 q5 c0 hX HPm;obtain⟨q0,q1,q2,q3,q4,q5⟩:=qau hR.out.spot;go_upto_region 15 with fail
    go_upto_region 16 with (go_at_call 41;refine(HSE.out _).mono ?_;rintro e w5 ⟨rfl,hb⟩;have he:=hd (hR.out.kept ⟨hb.os,hb.tape,hb.output,hb.size,hb.block⟩ Ha.out);clear hb;dsimp only)
    have hI:=hd (he.out.kept (w':=w5.alloc (.cells #[.int .i64 m,.int .i64 x'.view.mode,.int .i64 x'.view.elem,.int .i64 x'.view.attr,.int .i64 x'.view.ends,.int .i64 x'.view.esc,.int .i64 x'.view.pct,.int .i64 x'.view.link,.string ⟨x'.view.name.toArray⟩,.bool x'.view.ref] 143)) (ba _) Ha.out);have HI:=heap_alloc_new w5 (.cells #[.int .i64 m,.int .i64 x'.view.mode,.int .i64 x'.view.elem,.int .i64 x'.view.attr,.int .i64 x'.view.ends,.int .i64 x'.view.esc,.int .i64 x'.view.pct,.int .i64 x'.view.link,.string ⟨x'.view.name.toArray⟩,.bool x'.view.ref] 143);generalize World.alloc w5 _=w6 at hI HI ⊢;generalize w5.heap.size=VB at HI ⊢;have Hx:=hd HI;obtain⟨v0,v1,v2,v3,v4,v5,v6,v7,v8,v9⟩:=qb6 HI;have s1:=qaa hI.out.wk.blk 1 _ rfl;clear HI he q0 q1 q2 q3 q4 q5 hR;have HY:=fun(W':World) (h:W'.ownsRow K.B 143 10 vS' R'.length (qch R'))=>qj9 K.B vS' R' m x' W' (by omega) h (fun u hu=>(HP.out.all u hu).1) HP.out.cm;unfold qfa at HY;have HVI:=hd HY;clear HY;go_cut [11] (fun s11 wx=>∃b:Bool,s11=.bool b∧Hid ((b=true↔(m,x')∈R')∧Tm K w wx gw ve' vS' E' R' F p'∧wx.heap[VB]?=some (.cells #[.int .i64 m,.int .i64 x'.view.mode,.int .i64 x'.view.elem,.int .i64 x'.view.attr,.int .i64 x'.view.ends,.int .i64 x'.view.esc,.int .i64 x'.view.pct,.int .i64 x'.view.link,.string ⟨x'.view.name.toArray⟩,.bool x'.view.ref] 143 (0,0))))
    case first=>
     go_region_with (go_at_call 57;refine Calls.mono (HVI.out _ hI.out.drew.wk.seen) ?_;rintro e w7 ⟨⟨b,rfl,hb⟩,hbl⟩;have HBI:=hd hb;have HBL:=hd hbl;clear hb hbl;dsimp only)
     all_goals
      go_wp2_with fail
      go_meet
      exact⟨b,rfl,HBI.out,hI.out.drew.kept HBL.out Ha.out,(HBL.out.block _ (lta Hx.out)).trans Hx.out⟩
    case rest=>
    obtain⟨b,rfl,hy⟩:=hcut;clear hI Hx v0 v1 v2 v3 v4 v5 v6 v7 v8 v9 s1 HVI;go_upto_if 93 with fail
    go_cut [] (fun wx=>∃(ve'' vS'':Value) (E'':List Pl.Et) (R'':List Pl.Vt) (r'':Nat),Hid (Tm K w wx gw ve'' vS'' E'' R'' F p')∧Hid (Tp K R R'' E E'' r r'' j off len (off+i) x x' p'∧(m,x')∈R''))
    case first=>
     cases b
     rotate_left
     ·go_wp2_with fail
      go_meet
      exact⟨_,_,_,_,_,hy.out.2.1,HP.out,hy.out.1.1 trivial⟩
     have Hj:=hd hy.out.2.1;have Hx:=hd hy.out.2.2;clear hy;obtain⟨aoS,capS,hJ⟩:=qar Hj.out.wk.seen;subst hJ;have hGl:=(show Hid (gw<wc.heap.size) from(lta Hj.out.wk.blk));have s1:=qaa Hj.out.wk.blk 1 _ rfl;have s1':=fun o=>(qfh wc o ⟨gw,1,none⟩ hGl.out).trans (qaa Hj.out.wk.blk 1 _ rfl);obtain⟨v0,v1,v2,v3,v4,v5,v6,v7,v8,v9⟩:=qb6 Hx.out;obtain⟨i0,hi0,hz0,hz1,hz2⟩:=info_parts qy4;go_upto_region 18 with fail
     go_cut [] (fun wx=>∃vS'',Hid (Tm K w wx gw ve' vS'' E' (R'++[(m,x')]) F p'))
     case first=>
      go_region_law (refine qbr rfl (.tmp 98) (.tmp 100) 90 rfl K.B 143 i0 (.agg #[.int .i64 0,.int .i64 0,.int .i64 0,.int .i64 0,.int .i64 0,.int .i64 0,.int .i64 0,.int .i64 0,.string ⟨#[]⟩,.bool false]) 10 88 Tryz.underlying90 hi0 hz0 hz1 hz2 rfl (by decide) (.slice aoS R'.length capS) R'.length _ (by simp[Act.eval]) (World.ownsRow.alloc Hj.out.wk.seen _) ⟨_,0,none⟩ 1 1 [.int .i64 m,.int .i64 x'.view.mode,.int .i64 x'.view.elem,.int .i64 x'.view.attr,.int .i64 x'.view.ends,.int .i64 x'.view.esc,.int .i64 x'.view.pct,.int .i64 x'.view.link,.string ⟨x'.view.name.toArray⟩,.bool x'.view.ref] (by simp[Act.eval]) rfl (qc3 _ _ _) (by intro u hu;simp at hu;rcases hu with rfl | rfl | rfl | rfl | rfl | rfl | rfl | rfl | rfl | rfl<;>rfl) (by unfold maxLen;omega) (by omega) (by simp;have:=Hj.out.lt;have:=Ha.out;omega) ?_;intro v' w6 HK hgr hZ;obtain⟨g',cap',rfl,_,_⟩:=qaj HK (by omega);obtain⟨q4,r4⟩:=Hj.out.wk.ahead (ba _).drew hgr)
      all_goals
       go_wp2_with fail
       go_meet
       exact⟨_,Hj.out.more Ha.out (ba _).drew (m,x') HK hgr hZ⟩
     case rest=>
     obtain⟨vS8,ha⟩:=hcut;clear Hj Hx s1 s1' v0 v1 v2 v3 v4 v5 v6 v7 v8 v9 hGl;obtain⟨aoS8,capS8,Hp⟩:=qar ha.out.wk.seen;rw[List.length_append]at Hp;simp only[List.length_cons,List.length_nil]at Hp;subst Hp;have s1:=qaa ha.out.wk.blk 1 _ rfl;by_cases h7:R'.length+1≤256
     ·as_aux_lemma=>
      have H2:((R'.length+1:Nat):Int)≤256:=by omega
      have hm1:m+1≤K.N.length:=Hm.out;obtain⟨s2,Hy⟩:∃s2,K.S[m+1]?=some s2:=⟨_,List.getElem?_eq_getElem (by rw[Hg.out.len];omega)⟩;have Hq:Pl.qab K.S (m+1)=s2.parts:=by unfold Pl.qab;rw[Hy]
      have HW:=Hg.out.ok.wf (m+1) s2 Hy;have hl2:=(Hg.out.ok.parts (m+1) s2 Hy).1;have Hr:=(ha.out.wk.at_.tp.row (m+1) s2 Hy).1;rw[(ha.out.wk.at_.tp.row (m+1) s2 Hy).2.len]at Hr;obtain⟨ao2,cap2,hv2,HA⟩:=qnk Hr;rw[←Hq]at HA;have hx:=hd (fun(W':World) (hW:Tm K w W' gw ve' (.slice aoS8 (R'.length+1) capS8) E' (R'++[(m,x')]) F p')=>HT W' gw ve' (.slice aoS8 (R'.length+1) capS8) (.slice ao2 (Pl.qab K.S (m+1)).length cap2) E' (R'++[(m,x')]) r' (m+1) 0 _ x' p' F hW.wk HA hm1 (by rw[Nat.zero_add];exact Nat.le_refl _) ⟨fun q hq=>(by rw[Nat.zero_add,List.getElem?_eq_none (Nat.le_refl _)]at hq;cases hq),fun i' q _ _ h3 h4=>(by rw[Hq]at h3 ⊢;have:=qhh HW i' q h3 h4;omega)⟩ (qu1 HP.out.inv (List.prefix_append _ _)) HP.out.cm HP.out.par HP.out.sp (fun u hu=>(List.mem_append.1 hu).elim (HP.out.all u) fun z=>by rw[List.mem_singleton.1 z];exact⟨HP.out.cm,Hm.out⟩) (by rw[List.length_append];exact h7) (Nat.le_trans Ha.out (by have:=hW.lt;omega)) (by rw[List.length_append,Hq];simp only[List.length_cons,List.length_nil];have:=Hn.out.1;have:=HP.out.pre.length_le;omega) (by rw[List.length_append,Hq];simp only[List.length_cons,List.length_nil];have:=Hn.out.2.1;have:=HP.out.le;have:=HP.out.hi;have:=HP.out.lenE;have:=HP.out.pre.length_le;have h0:=HP.out.inv.few;simp only[List.length_nil]at h0;omega));have hL:=(show Hid (∀(R5:List Pl.Vt) (E5:List Pl.Et) (r5:Nat),TrP K (R'++[(m,x')]) R5 E' E5 r' r5 (m+1) 0 (Pl.qab K.S (m+1)).length x'→_) from fun R5 E5 r5 ht=>HP.out.visit ht (by rw[Hq];exact hl2));unfold qat qag at hx;obtain⟨bP,capP,H3,_,_⟩:=qaj ha.out.wk.at_.tp.parts (by have:=Hm.out;omega);have Hf:=ha.out.wk.at_.tp.parts;rw[H3]at Hf;obtain⟨nm,hnm⟩:∃y,K.N[m]?=some y:=⟨_,List.getElem?_eq_getElem Hm.out⟩;have HR:=(qhr K.pv K.N 1 m nm hnm).2;rw[Nat.add_comm 1 m]at HR;have cP:=(Hf.cellAt (m*2+1) (by rw[←qgs K.pv K.N 1];exact(List.getElem?_eq_some_iff.1 HR).1)).trans HR;have c1:wc.cell? ⟨K.g,1,none⟩=some (.slice (some ⟨bP,0,none⟩) K.N.length capP):=(qaa ha.out.wk.at_.tp.blk 1 _ rfl).trans (by rw[H3]);rw[hv2]at cP;rw[Hq]at hx hL;have s0:=qaa ha.out.wk.blk 0 _ rfl;have hnN:(m:Int)<(K.N.length:Int):=by have:=Hm.out;omega
      obtain⟨q0,q1,q2,q3,q4,q5⟩:=qau ha.out.spot;clear Hf HR H3 hnm HA Hr hv2 hl2 HW Hq Hy;go_upto_region 20 with fail
      go_region_with (go_at_call 33;refine Calls.mono (hx.out _ ha.out.drew) ?_;rintro e w5 ⟨p5,ok5,ve5,vS5,E5,R5,r5,rfl,HF,hG,HG⟩;dsimp only)
      all_goals
       have hn:=hd (ha.out.drew.trod hG HF);have HN9:=hd (hL.out _ _ _ HG);clear HF hG HG;go_wp2_with fail
       go_meet
       exact⟨_,_,_,_,_,hn,HN9⟩
     ·have H2:¬((R'.length+1:Nat):Int)≤256:=by omega
      have H0:=HP.out.visit0 Ht h7 Hm.out;have H1:=hd H0;clear H0;go_wp2_with fail
      go_meet
      exact⟨_,_,_,_,_,ha,H1⟩
    case rest=>
    obtain⟨ve'',vS'',E'',R'',r'',ha,Hc⟩:=hcut;clear hy;obtain⟨aoS,capS,hJ⟩:=qar ha.out.wk.seen;subst hJ;have s1:=qaa ha.out.wk.blk 1 _ rfl;have s0:=qaa ha.out.wk.blk 0 _ rfl;by_cases h7:R''.length≤256
    rotate_left
    ·have H2:(R''.length:Int) > 256:=by omega
     have HN7:=hd h7;clear h7;obtain⟨q0,q1,q2,q3,q4,q5⟩:=qau ha.out.spot;obtain⟨r0,r1,r2,r3,r4,r5⟩:=qau ha.out.res;obtain⟨f0,f1,f2,f3,f4,f5⟩:=qdx ha.out.res;go_wp2_with fail
     try rw[hD]
     refine qk5 (ok:=false) Ha.out ha.out (Hc.out.1.wide HN7.out) ?_ ?_ ?_
     all_goals rfl
    have H2:¬(R''.length:Int) > 256:=by omega
    have hrk:r''+4000000*(429926418001 - E''.length)≤1900000000000000000:=by
     have:=Hn.out.2.1;have:=Hc.out.1.le;have:=Hc.out.1.hi;have:=Hc.out.1.lenE;have:=Hc.out.1.pre.length_le;have:=Hc.out.1.few;have h0:=Hc.out.1.inv.few;simp only[List.length_nil]at h0;omega
    have H4:=fun(W':World) (hA:K.at_ W' ve'' E'') (hB:K.B≤W'.heap.size)=>HE R'' W' ve'' (.slice none 0 0) E'' [] m x' p' r'' hA (World.ownsRow_nil _ _ _ _) Hc.out.1.inv Hc.out.1.cm Hc.out.1.par Hc.out.1.sp Hm.out (Pl.qy2 (by omega) Hc.out.2 (by show m<6;have:=Hm.out;have:=Hg.out.six;omega) Hc.out.1.cm.fit.fit.ok.st.name) List.not_mem_nil (fun u hu=>absurd hu List.not_mem_nil) hB (by omega) (by simp only[List.length_nil];omega);unfold qat qag at H4;have h5:=hd H4;clear H4 hrk;go_upto_region 23 with fail
    generalize wc=w9 at ha s1 s0 ⊢;have HL:=(lta ha.out.spot);have hM:=(lta ha.out.wk.blk);obtain⟨q0,q1,q2,q3,q4,q5⟩:=qau ha.out.spot;have Hs:=hd (fun o=>qau ((heap_alloc_old w9 o HL).trans ha.out.spot));have q0':=fun o=>(Hs.out o).1;have q1':=fun o=>(Hs.out o).2.1;have q2':=fun o=>(Hs.out o).2.2.1;have q3':=fun o=>(Hs.out o).2.2.2.1;have q4':=fun o=>(Hs.out o).2.2.2.2.1;have q5':=fun o=>(Hs.out o).2.2.2.2.2;have s0':=fun o=>qaa ((heap_alloc_old w9 o hM).trans ha.out.wk.blk) 0 _ rfl;have HBS:=(show Hid (K.B≤w9.heap.size) from Nat.le_trans Ha.out (by have:=ha.out.lt;omega));have HSL:=(show Hid (w.heap.size+1<w9.heap.size) from ha.out.lt);clear HL hM;go_cut [12,13] (fun s12 s13 wx=>∃(ok:Bool) (TB:Nat),s12=.pointer (some ⟨TB,0,none⟩)∧s13=.bool ok∧Hid (∃p5 ve5 E5 r5,Tm K w wx gw ve5 (.slice aoS R''.length capS) E5 R'' F p'∧wx.heap[TB]?=some (.cells (qag p5) 94 (0,0))∧Pl.EInv K.bd R'' r5 E5 []∧Pl.SpOk r5 p5∧E''.length≤E5.length∧r''≤r5∧r5≤r''+4000000*(E5.length - E''.length)+0∧(ok=true→∃y,Pl.Done K.bd m x' y∧Pl.ParX y p5∧Pl.Cm y)∧(ok=false→∀y,¬Pl.Done K.bd m x' y)))
    case first=>
     as_aux_lemma=>
     have H5:=(show Hid _ from((Below.refl w9.heap.size w9).alloc (Nat.le_refl _) (.cells #[.int .i64 0,.string ⟨#[]⟩,.string ⟨#[]⟩,.string ⟨#[]⟩,.string ⟨#[]⟩,.int .i64 0] 94)).drew);go_wp2_with fail
     go_region_with (go_at_call 58;first
      | (refine Calls.mono (h5.out (w9.alloc (.cells #[.int .i64 0,.string ⟨#[]⟩,.string ⟨#[]⟩,.string ⟨#[]⟩,.string ⟨#[]⟩,.int .i64 0] 94)).drew (ha.out.kept H5.out Ha.out).wk.at_ (Nat.le_trans HBS.out H5.out.size)) ?_;rintro e w8 ⟨p5,ok,ve5,E5,r5,rfl,hd⟩;unfold qat qag;have HZ:=(show Hid _ from(hd.ck.keep _ _ _ _ (heap_alloc_new w9 (.cells #[.int .i64 0,.string ⟨#[]⟩,.string ⟨#[]⟩,.string ⟨#[]⟩,.string ⟨#[]⟩,.int .i64 0] 94)) (by decide) (by decide)).trans (heap_alloc_new w9 (.cells #[.int .i64 0,.string ⟨#[]⟩,.string ⟨#[]⟩,.string ⟨#[]⟩,.string ⟨#[]⟩,.int .i64 0] 94)));obtain⟨u0,u1,u2,u3,u4,u5⟩:=qau HZ.out;obtain⟨f0,f1,f2,f3,f4,f5⟩:=qdx HZ.out;have HD:=hd hd;clear hd;dsimp only)
      | (refine Calls.mono (h5.out w9.drew ha.out.drew.wk.at_ HBS.out) ?_;rintro e w8 ⟨p5,ok,ve5,E5,r5,rfl,hd⟩;unfold qat qag;have HD:=hd hd;clear hd;dsimp only))
     all_goals
      go_wp2_with fail
      go_meet
      first
      | exact⟨ok,_,rfl,rfl,p5,ve5,E5,r5,(((ha.out.kept H5.out Ha.out).ended HD.out.ck HD.out.at_).setFar Ha.out HZ.out HSL.out _ _ _ _ _ _),qg0 HZ.out _ _ _ _ _ _,HD.out.inv,HD.out.sp,HD.out.len,HD.out.up,HD.out.le,HD.out.yes,HD.out.no⟩
      | exact⟨ok,_,rfl,rfl,p5,ve5,E5,r5,((ha.out.drew.ended HD.out.ck HD.out.at_).kept (ba _) Ha.out),heap_alloc_new _ _,HD.out.inv,HD.out.sp,HD.out.len,HD.out.up,HD.out.le,HD.out.yes,HD.out.no⟩
    case rest=>
    obtain⟨ok,TB,rfl,rfl,HC9⟩:=hcut;obtain⟨p5,ve5,E5,r5,hm9,htb,Hb,hl,He,hz,Hz,hg,hN⟩:=HC9.out;have hn:=hd hm9;have HD:=(show Hid (Pl.EInv K.bd R'' r5 E5 []∧Pl.SpOk r5 p5∧E''.length≤E5.length∧r''≤r5∧r5≤r''+4000000*(E5.length - E''.length)+0∧(ok=true→∃y,Pl.Done K.bd m x' y∧Pl.ParX y p5∧Pl.Cm y)∧(ok=false→∀y,¬Pl.Done K.bd m x' y)) from⟨Hb,hl,He,hz,Hz,hg,hN⟩);obtain⟨u0,u1,u2,u3,u4,u5⟩:=qau htb;clear q0 q1 q2 q3 q4 q5 q0' q1' q2' q3' q4' q5' s0 s0' s1 Hs ha h5 HC9 hm9 htb Hb hl He hz Hz hg hN;obtain⟨q0,q1,q2,q3,q4,q5⟩:=qau hn.out.spot;cases ok
    ·obtain⟨r0,r1,r2,r3,r4,r5'⟩:=qau hn.out.res
     obtain⟨f0,f1,f2,f3,f4,f5⟩:=qdx hn.out.res;go_wp2_with fail
     try rw[hD]
     obtain⟨Hb,hl,He,hz,Hz,hg,hN⟩:=HD.out;refine qk5 (ok:=false) Ha.out hn.out (Hc.out.1.nodone Hl.out Ho.out HQ.out.1 HQ.out.2 Hc.out.2 (hN trivial) Hb He hz Hz) ?_ ?_ ?_
     all_goals rfl
    obtain⟨f0,f1,f2,f3,f4,f5⟩:=qdx hn.out.spot;go_wp2_with fail
    go_meet
    obtain⟨Hb,hl,He,hz,Hz,hg,hN⟩:=HD.out;obtain⟨y,hy1,hy2,hy3⟩:=hg trivial;exact⟨i,_,_,_,_,_,_,_,Nat.le_refl _,rfl,hn.out.set Ha.out p5,Hc.out.1.call Hl.out Ho.out HQ.out.1 HQ.out.2 Hc.out.2 hy1 hy2 hy3 Hb hl He hz Hz⟩
   case rest=>
   obtain⟨j',p'',x'',ve'',vS'',E'',R'',r'',hij,rfl,Hk,hO⟩:=hcut;obtain⟨aoS,capS,hJ⟩:=qar Hk.out.wk.seen;subst hJ;have s1:=qaa Hk.out.wk.blk 1 _ rfl;by_cases h6:R''.length≤256
   ·have h6':¬(R''.length:Int) > 256:=by omega
    go_wp2_with fail
    go_meet
    exact⟨j',p'',x'',ve'',_,E'',R'',r'',hij,rfl,h6,Hk,hO⟩
   ·have h6':(R''.length:Int) > 256:=by omega
    have HN6:=hd h6;clear h6 q0 q1 q2 q3 q4 q5;obtain⟨q0,q1,q2,q3,q4,q5⟩:=qau Hk.out.spot;obtain⟨r0,r1,r2,r3,r4,r5⟩:=qau Hk.out.res;obtain⟨f0,f1,f2,f3,f4,f5⟩:=qdx Hk.out.res;go_wp2_with fail
    try rw[hD]
    refine qk5 (ok:=false) Ha.out Hk.out (hO.out.wide HN6.out) ?_ ?_ ?_
    all_goals rfl
  case rest=>
  obtain⟨j',p'',x'',ve'',vS'',E'',R'',r'',hij,rfl,hR2,Hk,hO⟩:=hcut;have hj2:=hO.out.hi;go_wp2_with fail
  refine⟨⟨j'+1,p'',x'',ve'',vS'',E'',R'',r'',by go_num,hR2,Hk,hO⟩,?_⟩;simp[intOf];omega
end Go.Proofs.YtfkhljmiehdgmaaGreatDoor
