/-
  Steps of the proof.
-/
import Derived.Test.YtfkhljmiehdgmaaGreatDoorCmBS
set_option maxRecDepth 100000
set_option maxHeartbeats 40000000
namespace Go.Proofs.YtfkhljmiehdgmaaGreatDoor
open Go.RowKit
theorem q76(K:Sk)(hK:SkOk K)(hN:Pl.nmOf K.S=K.nm)(RR:List Pl.Vt)(hD:RR.length<=256)(hE:∀u∈RR,Pl.Cm u.2/\u.1<K.N.length)(hF:∀u∈RR,K.cl RR (u.1+1) 0 u.2)(k:Nat)(HE:EndC K RR 429926418001)(HT:WthC K RR k):WthC K RR (k+1):=by
 intro w gw ve vS v wh E R r j off len x p HF hQ hG hj Hg HG Ho hI hp HI Hp hq hJ hB hk hr;obtain⟨s,hs⟩:∃s,K.S[j]?=some s:=⟨_,List.getElem?_eq_getElem (by rw[hK.len];omega)⟩;have hP:Pl.qab K.S j=s.parts:=by unfold Pl.qab;rw[hs]
 obtain⟨ao,cap,rfl,HQ,Hx⟩:=hQ;obtain⟨Q,hn⟩:∃Q:Ending->World->Prop,Q=fun e w'=>WthO K RR w gw E R r j off len x e w':=⟨_,rfl⟩;rw[<-hn];have H0:Hid (Tm K w ((w.alloc (.cells (qag p) 94)).alloc (.cells #[.int .i64 0,.string ⟨#[]⟩,.string ⟨#[]⟩,.string ⟨#[]⟩,.string ⟨#[]⟩,.int .i64 0] 94)) gw ve vS E R Pl.Ft.none p):=by
  have hb:=((Below.refl w.heap.size w).alloc (Nat.le_refl _) (.cells (qag p) 94)).alloc (by simp) (.cells #[.int .i64 0,.string ⟨#[]⟩,.string ⟨#[]⟩,.string ⟨#[]⟩,.string ⟨#[]⟩,.int .i64 0] 94);exact⟨(heap_alloc_old _ _ (by simp)).trans (heap_alloc_new _ _),qal _ _ _ (by simp),HF.kept hb,Cw.of_below hb hB⟩
 have HK:Hid (Tq K RR R R E E r r j off len off x x p):=⟨Ho,hI,hp,HI,List.prefix_refl _,Hp,hq,Nat.le_refl _,Nat.le_refl _,by omega,Nat.le_refl _,by omega,hJ,HG,fun _ _ _ h=>h⟩;unfold qau;unfold qag at H0 |-;go_enter Tryz.func40,Tryz.ntmps40
 go_wp2_with fail
 generalize World.alloc _ _=w1 at H0 |-;have Hu:=hd hK;have HE:=hd HE;have hL:=hd hN;have HL:=hd (And.intro hD (And.intro hE hF));have HS:=hd hs;have Hb:=hd hB;have HX:=(show Hid ((0<len->∃g cap0,K.pv j=.slice (some ⟨g,0,none⟩) s.parts.length cap0/\ao=some ⟨g,off*6,none⟩)/\off+len<=s.parts.length)from⟨by rw[hP]at Hx;exact Hx,by rw[hP]at Hg;exact Hg⟩);have hy:=hd (And.intro hk hr);have Hy:=hd hP;have HJ:=hd hj;have hz:=hd hG;have hV:s.parts.length<=2000:=(hK.ok.parts j s hs).1;have Hq:len<=2000:=by rw[hP]at Hg;omega
 clear HF Ho hI hp HI hB hk hr hP hs hK Hx Hg hj hN hD hE hF HG Hp hq hJ hG;go_loopw [10] (fun v10 wr=>∃(i:Nat) (p':Pl.Sp) (x':Pl.Sx) (ve' vS':Value) (E':List Pl.Et) (R':List Pl.Vt) (r':Nat),v10=.int .i64 i/\Hid (Tm K w wr gw ve' vS' E' R' Pl.Ft.none p')/\Hid (Tq K RR R R' E E' r r' j off len (off+i) x x' p')) (fun v10 _=>len - (intOf v10).toNat)
 case atStart=>exact⟨0,p,x,ve,vS,E,R,r,rfl,H0,HK⟩
 case round=>
  clear H0 HK;obtain⟨i,p',x',ve',vS',E',R',r',rfl,HM,HP⟩:=hrel;have hR:i<=len:=by have:=HP.out.hi;omega
  obtain⟨q0,q1,q2,q3,q4,q5⟩:=qar HM.out.spot;have HV:=hd HM.out.lt;by_cases hM:i<len
  rotate_left
  ·have Hz:¬(i:Int)<(len:Int):=by omega
   obtain⟨r0,r1,r2,r3,r4,r5⟩:=qar HM.out.res;obtain⟨f0,f1,f2,f3,f4,f5⟩:=qd0 HM.out.res;have HR:i=len:=by omega
   have HD:=(show Hid _ from(show Tq K RR R R' E E' r r' j off len (off+len) x x' p' from HR▸HP.out).fin);go_wp2_with fail
   try rw[hn]
   refine qka Hb.out HM.out HD.out ?_ ?_ ?_
   all_goals rfl
  obtain⟨g7,cap7,h7,rfl⟩:=HX.out.1 (by omega);obtain⟨pt,Hr⟩:∃pt,s.parts[off+i]?=some pt:=⟨_,List.getElem?_eq_getElem (by have:=HX.out.2;omega)⟩;obtain⟨rm,Hv⟩:∃rm,(K.RL j)[off+i]?=some rm:=⟨_,List.getElem?_eq_getElem (by rw[(HM.out.wk.at_.tp.row j s HS.out).2.len];have:=HX.out.2;omega)⟩;have Hn:=(HM.out.wk.at_.tp.row j s HS.out).2.each (off+i) rm pt Hv Hr;have Hl:=(HM.out.wk.at_.tp.row j s HS.out).1;rw[h7,<- (HM.out.wk.at_.tp.row j s HS.out).2.len]at Hl;have hc:=fun c v (hv:(qdb rm)[c]?=some v)=>(Hl.cellAt ((off+i)*6+c) (by have:=qc6 _ _ rm Hv c v hv;have:=(List.getElem?_eq_some_iff.1 this).1;rw[qkm]at this;exact this)).trans (qc6 _ _ rm Hv c v hv);rw[Nat.add_mul]at hc;have c0:wr.cell? ⟨g7,off*6+i*6,none⟩=some (.int .i64 (Pl.qbg pt.kind)):=(hc 0 _ rfl).trans (by rw[Hn.kd]);have c1:wr.cell? ⟨g7,off*6+i*6+1,none⟩=some (.int .i64 pt.pos):=(hc 1 _ rfl).trans (by rw[Hn.pos]);have c2:wr.cell? ⟨g7,off*6+i*6+2,none⟩=some (.string ⟨pt.text.toArray⟩):=(hc 2 _ rfl).trans (by rw[Hn.text]);obtain⟨pvo,pvn,pvc,HN⟩:=Hn.pv;have c3:wr.cell? ⟨g7,off*6+i*6+3,none⟩=some (.slice pvo pvn pvc):=(hc 3 _ rfl).trans (congrArg some HN);have c4:wr.cell? ⟨g7,off*6+i*6+4,none⟩=some (.bool rm.tn):=hc 4 _ rfl;obtain⟨d,hA⟩:∃d:Nat,d=if pt.kind=3\/pt.kind=4 then pt.mate - (off+i)else 0:=⟨_,rfl⟩;have c5:wr.cell? ⟨g7,off*6+i*6+5,none⟩=some (.int .i64 d):=(hc 5 _ rfl).trans (by rw[Hn.en,hA]);have Hk:=(show Hid ((Pl.qab K.S j)[off+i]?=some pt) by show _=_;rw[Hy.out];exact Hr);have Hw:=(show Hid _ from(Hu.out.ok.parts j s HS.out).2 pt (List.mem_of_getElem? Hr));have hm:=Pl.qk5 (Hu.out.ok.wf j s HS.out) pt (List.mem_of_getElem? Hr);have H7:=hd h7;have HC:=(show Hid (ThrX K RR k w wh E R r j off len cap g7)from⟨HL.out,HT,hz.out,HJ.out,by rw[Hy.out];exact HX.out.2,Hq,HQ,⟨cap7,by rw[Hy.out];exact H7.out⟩,Hb.out,hy.out.1,hy.out.2⟩);have Hz:(i:Int)<(len:Int):=by omega
  have HD:=hd hA;clear Hv Hr h7 Hn Hl hc HN hA;generalize rm.tn=tn at c4;have hx:=(show Hid (r'<=1900000000000000000) from by
   have:=HP.out.le;have:=HP.out.hi;have:=HP.out.lenE;have:=HP.out.pre.length_le;have:=HP.out.inv.few;have:=hy.out.2;have:=Pl.qfh _ _ HP.out.nod HP.out.sub;have:=HL.out.1;have h0:=HP.out.inv.few;simp only[List.length_nil]at h0;show _<=_;omega)
  have ho:=(show Hid (off+i<off+len) by show _<_;omega);go_upto_block 1 with fail
  go_cut [10,11,12,13,14,15,16,17,18,19,20,21,22,23,24,25]from 26 to 189 (fun v10 v11 v12 v13 v14 v15 v16 v17 v18 v19 v20 v21 v22 v23 v24 v25 wx=>∃(j':Nat) (p'':Pl.Sp) (x'':Pl.Sx) (ve'' vS'':Value) (E'':List Pl.Et) (R'':List Pl.Vt) (r'':Nat),i<=j'/\v10=.int .i64 j'/\Hid (Tm K w wx gw ve'' vS'' E'' R'' Pl.Ft.none p'')/\Hid (Tq K RR R R'' E E'' r r'' j off len (off+(j'+1)) x x'' p''))
  case first=>
   go_upto_region 5 with fail
   have He:=hd (HM.out.kept (w':=wr.alloc (.cells #[.int .i64 (Pl.qbg pt.kind),.int .i64 pt.pos,.string ⟨pt.text.toArray⟩,.slice pvo pvn pvc,.bool tn,.int .i64 d] 136)) (ba _) Hb.out);have Hs:=heap_alloc_new wr (.cells #[.int .i64 (Pl.qbg pt.kind),.int .i64 pt.pos,.string ⟨pt.text.toArray⟩,.slice pvo pvn pvc,.bool tn,.int .i64 d] 136);generalize World.alloc wr _=w2 at He Hs |-;generalize wr.heap.size=PB at Hs |-;clear q0 q1 q2 q3 q4 q5 c0 c1 c2 c3 c4 c5;have hl:=hd Hs;obtain⟨c0,c1,c2,c3,c4,c5⟩:=qar Hs;obtain⟨q0,q1,q2,q3,q4,q5⟩:=qar He.out.spot;clear Hs;by_cases k1:pt.kind=1
   ·rw[show Pl.qbg pt.kind=0 by rw[k1];rfl]at c0 |-
    have hT:=fun W'=>qol p' r' ⟨pt.text.toArray⟩ W' HP.out.sp (by have:=hx.out;have:=Hw.out.1;rw[qbz];omega);have hg:=Pl.wrong_scheme pt.text x' p' 0 HP.out.cm HP.out.par;rw[show(⟨pt.text.toArray⟩:ByteArray).data.toList=pt.text from rfl]at hT;unfold qau qag at hT;cases Hm:Pl.qbj x' pt.text with
    |none=>
      rw[Hm]at hg;simp only at hg;rw[hg]at hT;have HT:=hd hT;have hf:=hd (HP.out.text Hk.out ho.out k1 Hw.out.1 Hm);clear hT k1 hm hg Hm;go_upto_region 11 with(go_at_call 54;refine(HT.out _).mono ?_;rintro e w5 ⟨rfl,hb⟩;have Hf:=hd (He.out.kept ⟨hb.os,hb.tape,hb.output,hb.size,hb.block⟩ Hb.out);clear hb;dsimp only)
      have Ha:=hd (Hf.out.kept ((Below.refl w5.heap.size w5).alloc (Nat.le_refl _) (.cells (qag (Pl.qda p' pt.text)) 94)) Hb.out);have Hi:=heap_alloc_new w5 (.cells (qag (Pl.qda p' pt.text)) 94);unfold qag at Ha Hi;generalize World.alloc w5 _=w6 at Ha Hi |-;obtain⟨u0,u1,u2,u3,u4,u5⟩:=qar Hi;clear Hi Hf c0 c1 c2 c3 c4 c5 q0 q1 q2 q3 q4 q5;obtain⟨q0,q1,q2,q3,q4,q5⟩:=qar Ha.out.spot;obtain⟨f0,f1,f2,f3,f4,f5⟩:=qd0 Ha.out.spot;go_wp2_with fail
      go_meet
      exact⟨i,_,_,_,_,_,_,_,Nat.le_refl _,rfl,Ha.out.set Hb.out (Pl.qda p' pt.text),hf.out⟩
    |some t=>
      rw[Hm]at hg;simp only[Nat.zero_add]at hg;rw[hg]at hT;have HT:=hd hT;have hf:=hd (HP.out.wrong (Pl.Th.scheme ho.out Hk.out k1 Hm));have hW:t<=2000:=by
       have:=Pl.qoo Hm;have:=Hw.out.1;omega
      have HW:IntKind.i64.wrap ((pt.pos:Int)+(t:Int))=((pt.pos+t:Nat):Int):=by rw[IntKind.wrap_i64];have:=Hw.out;omega
      have hX:(t:Int)≥0:=by omega
      rw[<-hz.out]at hf;clear hT k1 hm hg Hm;go_upto_region 9 with(go_at_call 54;refine(HT.out _).mono ?_;rintro e w5 ⟨rfl,hb⟩;have Hf:=hd (He.out.kept ⟨hb.os,hb.tape,hb.output,hb.size,hb.block⟩ Hb.out);have Hc:=(show Hid _ from(hb.block _ (lta hl.out)).trans hl.out);clear hb;dsimp only)
      have Ha:=hd (Hf.out.kept ((Below.refl w5.heap.size w5).alloc (Nat.le_refl _) (.cells (qag (Pl.qda p' pt.text)) 94)) Hb.out);have he:=(show Hid _ from(heap_alloc_old w5 (.cells (qag (Pl.qda p' pt.text)) 94) (lta Hc.out)).trans Hc.out);unfold qag at Ha he;generalize World.alloc w5 _=w6 at Ha he |-;clear Hf Hc c0 c1 c2 c3 c4 c5 q0 q1 q2 q3 q4 q5;obtain⟨c0,c1,c2,c3,c4,c5⟩:=qar he.out;have HA:=fun(W':World) (h:WkAt K W' gw ve' vS' E' R' Pl.Ft.none)=>qrr K W' gw ve' vS' E' R' Pl.Ft.none 14 wh (pt.pos+t) h;simp only[Int.natCast_add]at HA;have HB:=hd HA;clear HA;go_upto_region 10 with(go_at_call 42;refine Calls.mono (HB.out _ Ha.out.wk) ?_;rintro e w7 ⟨rfl,ht,Ht⟩;have Hj:=hd (Ha.out.went Ht ht);clear ht Ht;dsimp only)
      obtain⟨q0,q1,q2,q3,q4,q5⟩:=qar Hj.out.spot;obtain⟨r0,r1,r2,r3,r4,r5⟩:=qar Hj.out.res;obtain⟨f0,f1,f2,f3,f4,f5⟩:=qd0 Hj.out.res;go_wp2_with fail
      try rw[hn]
      refine qka Hb.out Hj.out hf.out ?_ ?_ ?_
      all_goals rfl
   by_cases k2:pt.kind=2
   ·rw[show Pl.qbg pt.kind=1 by rw[k2];rfl]at c0 |-
    have hT:=fun W'=>qpc p' W' (by have:=HP.out.sp.tag;omega) (by have:=HP.out.sp.attr;omega) (by have:=HP.out.sp.inside;omega) (by have:=HP.out.sp.run;have:=hx.out;omega);rw[Pl.q4b x' p' HP.out.cm.fit.fit.ok HP.out.par]at hT;unfold qau qag at hT;rcases q6w x' with h0|h0
    ·have hf:=hd (HP.out.hole Hk.out ho.out k2 h0)
     rw[h0]at hT;have HT:=hd hT;generalize x'.hole.1=v1 at HT;clear hT k1 k2 hm h0;generalize Pl.Sp.behindHole p'=ph at HT hf;go_upto_region 17 with(go_at_call 55;refine(HT.out _).mono ?_;rintro e w5 ⟨rfl,hb⟩;have Hf:=hd (He.out.kept ⟨hb.os,hb.tape,hb.output,hb.size,hb.block⟩ Hb.out);clear hb;dsimp only)
     have Ha:=hd (Hf.out.kept ((Below.refl w5.heap.size w5).alloc (Nat.le_refl _) (.cells (qag ph) 94)) Hb.out);have Hi:=heap_alloc_new w5 (.cells (qag ph) 94);unfold qag at Ha Hi;generalize World.alloc w5 _=w6 at Ha Hi |-;obtain⟨u0,u1,u2,u3,u4,u5⟩:=qar Hi;clear Hi Hf c0 c1 c2 c3 c4 c5 q0 q1 q2 q3 q4 q5;obtain⟨q0,q1,q2,q3,q4,q5⟩:=qar Ha.out.spot;obtain⟨f0,f1,f2,f3,f4,f5⟩:=qd0 Ha.out.spot;go_wp2_with fail
     go_meet
     exact⟨i,_,_,_,_,_,_,_,Nat.le_refl _,rfl,Ha.out.set Hb.out ph,hf.out⟩
    ·have hf:=hd (HP.out.wrong (Pl.Th.bad ho.out Hk.out k2 (by omega)))
     rw[<-hz.out]at hf;have HT:=hd hT;clear hT;generalize x'.hole.1=v1 at HT;generalize x'.hole.2=kd at HT hf h0;clear k1 k2 hm;generalize Pl.Sp.behindHole p'=ph at HT;go_upto_region 15 with(go_at_call 55;refine(HT.out _).mono ?_;rintro e w5 ⟨rfl,hb⟩;have Hf:=hd (He.out.kept ⟨hb.os,hb.tape,hb.output,hb.size,hb.block⟩ Hb.out);have Hc:=(show Hid _ from(hb.block _ (lta hl.out)).trans hl.out);clear hb;dsimp only)
     have Ha:=hd (Hf.out.kept ((Below.refl w5.heap.size w5).alloc (Nat.le_refl _) (.cells (qag ph) 94)) Hb.out);have he:=(show Hid _ from(heap_alloc_old w5 (.cells (qag ph) 94) (lta Hc.out)).trans Hc.out);unfold qag at Ha he;generalize World.alloc w5 _=w6 at Ha he |-;clear Hf Hc c0 c1 c2 c3 c4 c5 q0 q1 q2 q3 q4 q5;obtain⟨c0,c1,c2,c3,c4,c5⟩:=qar he.out;have HB:=hd (fun(W':World) (h:WkAt K W' gw ve' vS' E' R' Pl.Ft.none)=>qrr K W' gw ve' vS' E' R' Pl.Ft.none kd wh pt.pos h);go_upto_region 16 with(go_at_call 42;refine Calls.mono (HB.out _ Ha.out.wk) ?_;rintro e w7 ⟨rfl,ht,Ht⟩;have Hj:=hd (Ha.out.went Ht ht);clear ht Ht;dsimp only)
     obtain⟨q0,q1,q2,q3,q4,q5⟩:=qar Hj.out.spot;obtain⟨r0,r1,r2,r3,r4,r5⟩:=qar Hj.out.res;obtain⟨f0,f1,f2,f3,f4,f5⟩:=qd0 Hj.out.res;go_wp2_with fail
     try rw[hn]
     refine qka Hb.out Hj.out hf.out ?_ ?_ ?_
     all_goals rfl
   by_cases k34:pt.kind=3\/pt.kind=4
   ·rw[show Pl.qbg pt.kind=2 by rcases k34 with h | h<;>rw[h]<;>rfl]at c0 hl |-
    have hC:=hd (q8o K RR k w gw wh E R r j off len cap g7 x i p p' x' ve' vS' E' R' r' pt PB w2 HC.out ⟨He.out,HP.out,Hk.out,hM,⟨pvo,pvn,pvc,tn,d,HD.out,hl.out⟩,hx.out⟩ k34);clear k1 k2 k34 hm;go_upto_if 76 with fail
    refine wp_cond_true rfl ?_;refine Code.wp_mono ?_ (hC.out _ rfl);intro e a X h;cases e with
    |ret=>
      have HH:=(show Hid _ from(h:bodyPost Tryz.prog Tryz.f40 (fun e w'=>WthO K RR w gw E R r j off len x e w') .ret a X));clear h;go_wp2_with fail
      try rw[hn]
      exact HH.out
    |normal=>
      obtain⟨j',p'',x'',ve'',vS'',E'',R'',r'',v10,h1,rfl,h3,h4,ha⟩:=h;have H3:=hd h3;have H4:=hd h4;clear h3 h4;generalize (fun n=>a.tmps.getD n undef)=u at ha;generalize a.tmps.getD 11 undef=v11 at ha;subst ha;unfold frT;dsimp only;go_wp2_with fail
      go_meet
      exact⟨j',_,_,_,_,_,_,_,h1,rfl,H3,H4⟩
    |_=>exact(h:False).elim
   have k6:pt.kind=6:=by have:=Pl.q8m HP.out.wf Hk.out ho.out;omega
   rw[show Pl.qbg pt.kind=4 by rw[k6];rfl]at c0 hl |-;have g0:=qaa He.out.wk.blk 0 _ rfl;have hO:=hd (qsd ⟨pt.text.toArray⟩ He.out.drew.wk.at_.tp (by have:=Hu.out.six;omega));cases hu:Pl.qb6 K.nm pt.text
   ·have hf:=hd (HP.out.absent hL.out Hk.out ho.out k6 hu)
    have hS:=(show Hid (Pl.qb6 (K.N.map fun y=>y.data.toList) (⟨pt.text.toArray⟩:ByteArray).data.toList=none)from hu);have hU:Hid (Calls Tryz.prog 56 #[.pointer (some ⟨K.g,0,none⟩),.string ⟨pt.text.toArray⟩] w2.drew fun e w'=>e=.returned (.int .i64 (-1))/\w'=w2.drew):=by
     refine Calls.mono hO.out ?_;rintro e w' ⟨⟨rr,rfl,HU⟩,hw⟩;rcases HU with⟨rfl,_⟩|⟨k,_,h⟩
     ·exact⟨rfl,hw⟩
     ·rw[hS.out]at h;cases h
    clear k1 k2 k34 k6 hm hu;go_upto_region 29 with fail
    go_region_with (go_at_call 56;refine Calls.mono hU.out ?_;rintro e w5 ⟨rfl,rfl⟩;dsimp only)
    all_goals
     go_wp2_with fail
     go_meet
     exact⟨i,_,_,_,_,_,_,_,Nat.le_refl _,rfl,He.out.drew,hf.out⟩
   next m=>
   have hC:=hd (q55 K RR k w gw wh E R r j off len cap g7 x i p p' x' ve' vS' E' R' r' pt PB w2 HC.out ⟨He.out,HP.out,Hk.out,hM,⟨pvo,pvn,pvc,tn,d,HD.out,hl.out⟩,hx.out⟩ HE.out Hu.out hL.out m ⟨k6,hu⟩);clear k1 k2 k34 k6 hm hu hO;go_upto_if 120 with fail
   refine wp_cond_true rfl ?_;refine Code.wp_mono ?_ (hC.out _ rfl);intro e a X h;cases e with
   |ret=>
     have HH:=(show Hid _ from(h:bodyPost Tryz.prog Tryz.f40 (fun e w'=>WthO K RR w gw E R r j off len x e w') .ret a X));clear h;go_wp2_with fail
     try rw[hn]
     exact HH.out
   |normal=>
     obtain⟨j',p'',x'',ve'',vS'',E'',R'',r'',v10,h1,rfl,h3,h4,ha⟩:=h;have H3:=hd h3;have H4:=hd h4;clear h3 h4;generalize (fun n=>a.tmps.getD n undef)=u at ha;generalize a.tmps.getD 11 undef=v11 at ha;subst ha;unfold frT;dsimp only;go_wp2_with fail
     go_meet
     exact⟨j',_,_,_,_,_,_,_,h1,rfl,H3,H4⟩
   |_=>exact(h:False).elim
  case rest=>
  obtain⟨j',p'',x'',ve'',vS'',E'',R'',r'',hY,rfl,He,HO⟩:=hcut;have HY:=HO.out.hi;go_wp2_with fail
  refine⟨⟨j'+1,p'',x'',ve'',vS'',E'',R'',r'',by go_num,He,HO⟩,?_⟩;simp[intOf];omega
end Go.Proofs.YtfkhljmiehdgmaaGreatDoor
