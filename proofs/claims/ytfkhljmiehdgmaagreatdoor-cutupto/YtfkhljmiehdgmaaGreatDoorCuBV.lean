/-
  Steps of the proof.
-/
import Derived.Test.YtfkhljmiehdgmaaGreatDoorCuBT
set_option maxRecDepth 100000
set_option maxHeartbeats 40000000
namespace Go.Proofs.YtfkhljmiehdgmaaGreatDoor
open Go.RowKit Go.Proofs.Tryz Pl
theorem q7a(K:Sk)(hK:SkOk K)(k:Nat)(HE:∀R,EndC K R 429926418001)(HT:q3y K k):q3y K (k+1):=by
 intro w gw ve vS v E R r j off len x p F HW Ht hj ha V J hX Hu Hc Hv Hm hB hk hr;obtain⟨s,hs⟩:∃s,K.S[j]?=some s:=⟨_,yc (by rw[hK.len];omega)⟩;have hP:qah K.S j=s.parts:=by unfold qah;rw[hs]
 obtain⟨ao,cap,rfl,hlc,hL⟩:=Ht;obtain⟨Q,Hw⟩:∃Q:Ending->World->Prop,Q=fun e w'=>TrO K w gw E R r j off len x F e w':=⟨_,rfl⟩;rw[<-Hw];have H0:Hid (Tm K w ((w.alloc (.cells (qan p) 94)).alloc (.cells #[zI 0,zS,zS,zS,zS,zI 0] 94)) gw ve vS E R F p):=by
  have hb:=((xL w.heap.size w).alloc (yg _) (.cells (qan p) 94)).alloc (by simp) (.cells #[zI 0,zS,zS,zS,zS,zI 0] 94);exact⟨(xI _ _ (by simp)).trans (xF _ _),qap _ _ _ (by simp),HW.kept hb,Cw.of_below hb hB⟩
 have hY:Hid (Tp K R R E E r r j off len off x x p):=⟨J,hX,Hu,Hc,yA _,Hv,by omega,yg _,yg _,by omega,yg _,by omega,fun _=>⟨fun _ _ h=>h,fun _ h h'=>absurd h h'⟩⟩;unfold qaz;unfold qan at H0 |-;go_enter func33,ntmps33
 go_wp2
 generalize World.alloc _ _=w1 at H0 |-;have Z:=zH hK;have HS:=zH hs;have I:=zH hB;have HX:=(show Hid ((0<len->∃g cap0,K.pv j=zF g s.parts.length cap0/\ao=some (zO g (off*6)))/\off+len<=s.parts.length/\(∀q,(qah K.S j)[off+len]?=some q->q.kind=5)/\∀(i:Nat) (q:Pt),off<=i->i<off+len->(qah K.S j)[i]?=some q->(q.kind=3\/q.kind=4)->q.mate<off+len)from⟨by rw[hP]at hL;exact hL,by rw[hP]at ha;exact ha,V⟩);have Hf:=zH (And.intro hk (And.intro hr Hm));have hx:=zH hP;have HJ:=zH hj;have hL2:s.parts.length<=2000:=(hK.ok.parts j s hs).1;have HY:len<=2000:=by rw[hP]at ha;omega
 clear HW J hX Hu Hc Hv Hm hB hk hr hP hs hK hL ha V hj;go_loopw [8] (fun v8 wr=>∃(i:Nat) (p':Sp) (x':Sx) (ve' vS':Value) (E':List Et) (R':List Vt) (r':Nat),v8=zI i/\R'.length<=256/\Hid (Tm K w wr gw ve' vS' E' R' F p')/\Hid (Tp K R R' E E' r r' j off len (off+i) x x' p')) (fun v8 _=>len - (intOf v8).toNat)
 case atStart=>exact⟨0,p,x,ve,vS,E,R,r,rfl,Hf.out.2.2,H0,hY⟩
 case round=>
  clear H0 hY;obtain⟨i,p',x',ve',vS',E',R',r',rfl,Hm,HM,HP⟩:=hrel;have hile:i<=len:=by have:=HP.out.hi;omega
  obtain⟨q0,q1,q2,q3,q4,q5⟩:=qbu HM.out.spot;have HSZ:=zH HM.out.lt;by_cases hlt:i<len
  rotate_left
  ·have HL:¬(i:Int)<(len:Int):=by omega
   obtain⟨r0,r1,r2,r3,r4,r5⟩:=qbu HM.out.res;have f0:=qgx HM.out.res;have hil:i=len:=by omega
   have HD:=(show Hid _ from(show Tp K R R' E E' r r' j off len (off+len) x x' p' from hil▸HP.out).done HX.out.2.2.1);go_wp2
   try rw[Hw]
   refine qmf (ok:=true) I.out HM.out HD.out ?_ ?_ ?_
   all_goals rfl
  obtain⟨g7,cap7,h7,rfl⟩:=HX.out.1 (by omega);obtain⟨pt,hn⟩:∃pt,s.parts[off+i]?=some pt:=⟨_,yc (by have:=HX.out.2.1;omega)⟩;obtain⟨rm,HG⟩:∃rm,(K.RL j)[off+i]?=some rm:=⟨_,yc (by rw[(HM.out.wk.at_.tp.row j s HS.out).2.len];have:=HX.out.2.1;omega)⟩;have HC:Hid (∀(W':World) (ve1:Value) (E1:List Et),K.at_ W' ve1 E1->W'.cell? (zO g7 (off*6+i*6))=some (zI (Pl.qb3 pt.kind))/\W'.cell? (zO g7 (off*6+i*6+2))=some (.string ⟨pt.text.toArray⟩)/\W'.cell? (zO g7 (off*6+i*6+5))=some (zI ((if pt.kind=3\/pt.kind=4 then pt.mate - (off+i)else 0:Nat)))):=by
   intro W' ve1 E1 hA;have hM:=(hA.tp.row j s HS.out).2.each (off+i) rm pt HG hn;have Hx:=(hA.tp.row j s HS.out).1;rw[h7,<- (hA.tp.row j s HS.out).2.len]at Hx;have hc:=fun c v (hv:(qdi rm)[c]?=some v)=>(Hx.cellAt ((off+i)*6+c) (by have:=qd5 _ _ rm HG c v hv;have:=(yb.1 this).1;rw[qqf]at this;exact this)).trans (qd5 _ _ rm HG c v hv);rw[<-Nat.add_mul];exact⟨(hc 0 _ rfl).trans (by rw[hM.kd]),(hc 2 _ rfl).trans (by rw[hM.text]),(hc 5 _ rfl).trans (by rw[hM.en])⟩
  have c0:=(HC.out wr _ _ HM.out.wk.at_).1;have he:=(show Hid ((qah K.S j)[off+i]?=some pt) by show _=_;rw[hx.out];exact hn);have hZ:=(show Hid _ from(Z.out.ok.parts j s HS.out).2 pt (yl hn));have Hn:=qo5 (Z.out.ok.wf j s HS.out) pt (yl hn);have hg:=zH hn;have H7:=zH h7;clear HG hn h7;have HL:(i:Int)<(len:Int):=by omega
  go_upto_block 1 with fail
  go_cut [8,9,10,11,12,13]from 14 to 151 (fun v8 v9 v10 v11 v12 v13 wx=>∃(j':Nat) (p'':Sp) (x'':Sx) (ve'' vS'':Value) (E'':List Et) (R'':List Vt) (r'':Nat),i<=j'/\v8=zI j'/\R''.length<=256/\Hid (Tm K w wx gw ve'' vS'' E'' R'' F p'')/\Hid (Tp K R R'' E E'' r r'' j off len (off+(j'+1)) x x'' p''))
  case first=>
   have H2:r'<=1900000000000000000:=by
    have:=HP.out.le;have:=HP.out.hi;have:=HP.out.lenE;have:=HP.out.pre.length_le;have:=HP.out.inv.few;have:=Hf.out.2.1;have h0:=HP.out.inv.few;simp only[yQ]at h0;omega
   have hN:=zH H2;clear H2;have HBW:=(show Hid (K.B<=wr.heap.size)from yh I.out (by have:=HSZ.out;omega));have Hg:=(show Hid (off+i<off+len) by show _<_;omega);go_upto_block 2 with fail
   go_cut [8,9,10,11,12,13]from 14 to 151 (fun v8 v9 v10 v11 v12 v13 wx=>∃(j':Nat) (p'':Sp) (x'':Sx) (ve'' vS'':Value) (E'':List Et) (R'':List Vt) (r'':Nat),i<=j'/\v8=zI j'/\Hid (Tm K w wx gw ve'' vS'' E'' R'' F p'')/\Hid (Tp K R R'' E E'' r r'' j off len (off+(j'+1)) x x'' p''))
   case first=>
    by_cases k1:pt.kind=1
    ·rw[show Pl.qb3 pt.kind=0 by rw[k1];rfl]
     have hT:=fun W'=>qwq p' r' ⟨pt.text.toArray⟩ W' HP.out.sp (by have:=hN.out;have:=hZ.out.1;rw[qb1];omega);unfold qaz qan at hT;have HT:=zH hT;have HN:=zH (HP.out.text he.out Hg.out k1 hZ.out.1);have c2:=(HC.out wr _ _ HM.out.wk.at_).2.1;clear hT k1 Hn;go_upto_region 6 with fail
     go_region_with (go_at_call 54;refine(HT.out _).mono ?_;rintro e w5 ⟨rfl,hb⟩;have T:=zH (HM.out.kept ⟨hb.os,hb.tape,hb.output,hb.size,hb.block⟩ I.out);have u0:=qbu T.out.spot;have f0:=qgx T.out.spot;clear hb;dsimp only)
     all_goals
      go_wp2
      go_meet
      exact⟨i,_,_,_,_,_,_,_,yg _,rfl,T.out.set I.out (qei p' pt.text),HN.out⟩
    by_cases k2:pt.kind=2
    ·rw[show Pl.qb3 pt.kind=1 by rw[k2];rfl]
     have hT:=fun W'=>qx0 p' W' (by have:=HP.out.sp.tag;omega) (by have:=HP.out.sp.attr;omega) (by have:=HP.out.sp.inside;omega) (by have:=HP.out.sp.run;have:=hN.out;omega);unfold qaz qan at hT;have HT:=zH hT;have HN:=zH (HP.out.hole he.out Hg.out k2);clear hT k1 k2 Hn;generalize p'.view.hole=vh at HT;generalize Sp.behindHole p'=ph at HT HN;go_wp2_with (go_at_call 55;refine(HT.out _).mono ?_;rintro e w5 ⟨rfl,hb⟩;have T:=zH (HM.out.kept ⟨hb.os,hb.tape,hb.output,hb.size,hb.block⟩ I.out);have u0:=qbu T.out.spot;have f0:=qgx T.out.spot;clear hb;dsimp only)
     go_meet
     exact⟨i,_,_,_,_,_,_,_,yg _,rfl,T.out.set I.out ph,HN.out⟩
    by_cases k5:pt.kind=5
    ·rw[show Pl.qb3 pt.kind=3 by rw[k5];rfl]
     have HN:=zH (HP.out.skip Hg.out fun R2 _=>zeg he.out k5);clear k1 k2 k5 Hn;go_wp2
     go_meet
     exact⟨i,_,_,_,_,_,_,_,yg _,rfl,HM,HN⟩
    by_cases k34:pt.kind=3\/pt.kind=4
    ·rw[show Pl.qb3 pt.kind=2 by rcases k34 with h | h<;>rw[h]<;>rfl]
     have hm:=qh1 (Z.out.ok.wf j s HS.out) (off+i) pt hg.out k34;have H3:=za2 (Z.out.ok.wf j s HS.out) (off+i) pt hg.out k34;have H4:off+i<pt.mate/\pt.mate<off+len:=⟨by omega,HX.out.2.2.2 _ _ (by omega) Hg.out he.out k34⟩;have ho:=zH H4;have c5:=fun W' ve1 E1 (hA:K.at_ W' ve1 E1)=>(HC.out W' ve1 E1 hA).2.2;rw[if_pos k34]at c5;obtain⟨d,hd⟩:∃d,d=pt.mate - (off+i):=⟨_,rfl⟩;rw[<-hd]at c5;have hdl:i+d<len:=by omega
     have hd1:1<=d:=by omega
     have h5:=zH c5;have c5':=h5.out wr _ _ HM.out.wk.at_;have Ho:=zH (fun(W':World) (hW:Tm K w W' gw ve' vS' E' R' F p')=>HT W' gw ve' vS' (.slice (some (zO g7 (off*6+(i+1)*6))) (d - 1) (cap - (i+1))) E' R' r' j (off+i+1) (d - 1) x' p' F hW.wk ⟨_,_,rfl,by omega,fun _=>⟨g7,cap7,by rw[hx.out];exact H7.out,by rw[Nat.add_assoc off i 1,Nat.add_mul off]⟩⟩ HJ.out (by rw[hx.out];omega) ⟨fun q hq=>H3 q (by rw[Nat.sub_zero,<-hx.out,<-hq];congr 1;omega),fun i' q h1 h2 h3 h4=>(by have:=zel (Z.out.ok.wf j s HS.out) (off+i) pt hg.out k34 i' q (by omega) (by omega) (by rw[<-hx.out];exact h3) h4;omega)⟩ HP.out.inv HP.out.cm HP.out.par HP.out.sp HP.out.all Hm (yh I.out (by have:=hW.lt;omega)) (by have:=Hf.out.1;have:=HP.out.pre.length_le;omega) (by have:=Hf.out.2.1;have:=HP.out.le;have:=HP.out.lenE;have:=HP.out.pre.length_le;have h0:=HP.out.inv.few;simp only[yQ]at h0;omega));unfold qaz qan at Ho;have H5:=(show Hid (d=pt.mate - (off+i))from hd);clear hm H3 H4 k1 k2 k5 Hn c5 hd;have hw1:IntKind.i64.wrap ((i:Int)+1)=(i:Int)+1:=by rw[IntKind.wrap_i64];omega
     have hO:IntKind.i64.wrap ((i:Int)+(d:Int))=(i:Int)+(d:Int):=by rw[IntKind.wrap_i64];omega
     have hb1:(i:Int)+1<=(i:Int)+(d:Int):=by omega
     have hb2:(i:Int)+(d:Int)<=(cap:Int):=by omega
     have hb3:(1:Int)<=(d:Int):=by omega
     have hb4:(0:Int)<=(i:Int)+1:=by omega
     have hb5:(0:Int)<=(i:Int)+(d:Int):=by omega
     have hn1:((i:Int)+1).toNat=i+1:=by omega
     have hn2:((i:Int)+(d:Int)).toNat=i+d:=by omega
     have hne:¬cap=i+1:=by omega
     have hns:i+d - (i+1)=d - 1:=by omega
     go_upto_region 10 with fail
     go_region_with (go_at_call 33;refine xQ (Ho.out _ HM.out.drew) ?_;rintro e w5 ⟨p5,ok5,ve5,vS5,E5,R5,r5,rfl,hy,Hy,hz⟩;dsimp only)
     all_goals
      have T:=zH (HM.out.drew.trod Hy hy);have HN:=(show Hid (Tp K R R5 E E5 r r5 j off len (off+(pt.mate - off+1)) x x' p') from by
       rw[show off+(pt.mate - off+1)=pt.mate+1 by have:=ho.out;omega];exact HP.out.sec he.out k34 ho.out.1 ho.out.2 (by rw[show pt.mate - (off+i+1)=d - 1 by rw[H5.out];omega];exact hz))
      clear hy Hy hz c5' hw1 hb1 hb2 hb3 hb4 hb5 hn1 hn2 hne hns c0;have c5:=h5.out w5 _ _ T.out.wk.at_;have hmd:(i:Int)+(d:Int)=((pt.mate - off:Nat):Int):=by have:=ho.out;have:=H5.out;omega
      have hmd2:pt.mate - off<=2000:=by have:=ho.out;omega
      have HMD:=(show Hid (i<=pt.mate - off) by show _<=_;have:=ho.out;omega);clear k34;go_wp2
      go_meet
      exact⟨pt.mate - off,_,_,_,_,_,_,_,HMD.out,by first|rfl|(congr 1;unfold wrap64;omega),T,HN⟩
    have k6:pt.kind=6:=by omega
    rw[show Pl.qb3 pt.kind=4 by rw[k6];rfl];have c2:=(HC.out wr _ _ HM.out.wk.at_).2.1;have g0:=qaa HM.out.wk.blk 0 _ rfl;have HO:=zH (q8h ⟨pt.text.toArray⟩ HM.out.drew.wk.at_.tp (by have:=Z.out.six;omega));cases Hi:qfr K.nm pt.text
    ·have HN:=zH (HP.out.skip Hg.out fun R2 h=>zgi he.out k6 Hi h)
     have hI:=(show Hid (qfr (K.N.map fun y=>y.data.toList) (⟨pt.text.toArray⟩:zT).data.toList=none)from Hi);have HPn:Hid (zC 56 #[zP K.g,.string ⟨pt.text.toArray⟩] wr.drew fun e w'=>e=.returned (zI (-1))/\wr.drew=w'):=by
      refine xQ HO.out ?_;rintro e w' ⟨⟨rr,rfl,hQ⟩,hw⟩;rcases hQ with⟨rfl,_⟩|⟨k,_,h⟩
      ·exact⟨rfl,hw.symm⟩
      ·rw[hI.out]at h;cases h
     clear k1 k2 k34 k5 k6 Hn Hi;go_upto_region 13 with fail
     go_region_with (go_at_call 56;refine cm HPn.out ?_;dsimp only)
     all_goals
      go_wp2
      go_meet
      exact⟨i,_,_,_,_,_,_,_,yg _,rfl,Hm,HM.out.drew,HN.out⟩
    next m=>
    have hI:=(show Hid (qfr (K.N.map fun y=>y.data.toList) (⟨pt.text.toArray⟩:zT).data.toList=some m)from Hi);have hmN:m<K.N.length:=by have:=q3e Hi;unfold Sk.nm at this;rwa [yR]at this
    have He:=zH hmN;have HI:=(show Hid (pt.kind=6/\qfr K.nm pt.text=some m)from⟨k6,Hi⟩);have H6:Hid (zC 56 #[zP K.g,.string ⟨pt.text.toArray⟩] wr.drew fun e w'=>e=.returned (zI m)/\wr.drew=w'):=by
     refine xQ HO.out ?_;rintro e w' ⟨⟨rr,rfl,hQ⟩,hw⟩;rcases hQ with⟨rfl,h⟩|⟨k,rfl,h⟩
     ·rw[hI.out]at h;cases h
     ·rw[hI.out]at h
      injection h with h;exact⟨by rw[h],hw.symm⟩
    clear k1 k2 k34 k5 k6 Hn Hi;have hS:=fun W'=>qrw p' W' (by have:=HP.out.sp.tag;omega) (by have:=HP.out.sp.attr;omega) (by have:=HP.out.sp.inside;omega) (by have:=HP.out.sp.run;have:=hN.out;omega);rw[qmb _ _ HP.out.cm.fit.fit.ok HP.out.par]at hS;unfold qaz qan qwb qfa at hS;have HSE:=zH hS;clear hS;have hm0:¬(m:Int)<0:=by omega
    go_upto_region 13 with fail
    go_cut [9] (fun s9 wx=>s9=zI m/\wx=wr.drew)
    case first=>
     go_region_with (go_at_call 56;refine cm H6.out ?_;dsimp only)
     all_goals
      go_wp2
      go_meet
      exact⟨rfl,rfl⟩
    case rest=>
    obtain⟨rfl,h8⟩:=hcut;have hJ:=zH HM.out.drew;rw[<-h8]at hJ;clear h8 c2 g0 q0 q1 q2 q3 q4 q5 c0 HO H6;obtain⟨q0,q1,q2,q3,q4,q5⟩:=qbu hJ.out.spot;go_upto_region 15 with fail
    go_upto_region 16 with(go_at_call 41;refine(HSE.out _).mono ?_;rintro e w5 ⟨rfl,hb⟩;have T:=zH (hJ.out.kept ⟨hb.os,hb.tape,hb.output,hb.size,hb.block⟩ I.out);clear hb;dsimp only)
    have Hz:=zH (T.out.kept (w':=w5.alloc (.cells #[zI m,zI x'.view.mode,zI x'.view.elem,zI x'.view.attr,zI x'.view.ends,zI x'.view.esc,zI x'.view.pct,zI x'.view.link,.string ⟨x'.view.name.toArray⟩,.bool x'.view.ref] 143)) (zB _) I.out);have HA:=xF w5 (.cells #[zI m,zI x'.view.mode,zI x'.view.elem,zI x'.view.attr,zI x'.view.ends,zI x'.view.esc,zI x'.view.pct,zI x'.view.link,.string ⟨x'.view.name.toArray⟩,.bool x'.view.ref] 143);generalize World.alloc w5 _=w6 at Hz HA |-;generalize w5.heap.size=VB at HA |-;have hp:=zH HA;obtain⟨v0,v1,v2,v3,v4,v5,v6,v7,v8,v9⟩:=qcq HA;have s1:=qaa Hz.out.wk.blk 1 _ rfl;clear HA T q0 q1 q2 q3 q4 q5 hJ;have HQ:=fun(W':World) (h:W'.ownsRow K.B 143 10 vS' R'.length (qcv R'))=>qpp K.B vS' R' m x' W' (by omega) h (fun u hu=>(HP.out.all u hu).1) HP.out.cm;unfold qfv at HQ;have H8:=zH HQ;clear HQ;go_cut [11] (fun s11 wx=>∃b:Bool,s11=.bool b/\Hid ((b=true↔(m,x')∈R')/\Tm K w wx gw ve' vS' E' R' F p'/\wx.heap[VB]?=zK #[zI m,zI x'.view.mode,zI x'.view.elem,zI x'.view.attr,zI x'.view.ends,zI x'.view.esc,zI x'.view.pct,zI x'.view.link,.string ⟨x'.view.name.toArray⟩,.bool x'.view.ref] 143))
    case first=>
     go_region_with (go_at_call 57;refine xQ (H8.out _ Hz.out.drew.wk.seen) ?_;rintro e w7 ⟨⟨b,rfl,hb⟩,h9⟩;have HBI:=zH hb;have H9:=zH h9;clear hb h9;dsimp only)
     all_goals
      go_wp2
      go_meet
      exact⟨b,rfl,HBI.out,Hz.out.drew.kept H9.out I.out,(H9.out.block _ (zL hp.out)).trans hp.out⟩
    case rest=>
    obtain⟨b,rfl,Hp⟩:=hcut;clear Hz hp v0 v1 v2 v3 v4 v5 v6 v7 v8 v9 s1 H8;go_upto_if 93 with fail
    go_cut [] (fun wx=>∃(ve'' vS'':Value) (E'':List Et) (R'':List Vt) (r'':Nat),Hid (Tm K w wx gw ve'' vS'' E'' R'' F p')/\Hid (Tp K R R'' E E'' r r'' j off len (off+i) x x' p'/\(m,x')∈R''))
    case first=>
     cases b
     rotate_left
     ·go_wp2
      go_meet
      exact⟨_,_,_,_,_,Hp.out.2.1,HP.out,Hp.out.1.1 trivial⟩
     have Ha:=zH Hp.out.2.1;have hp:=zH Hp.out.2.2;clear Hp;obtain⟨aoS,capS,HB⟩:=qaq Ha.out.wk.seen;subst HB;have hGl:=(show Hid (gw<wc.heap.size)from(zL Ha.out.wk.blk));have s1:=qaa Ha.out.wk.blk 1 _ rfl;have s1':=fun o=>(qgz wc o (zO gw 1) hGl.out).trans (qaa Ha.out.wk.blk 1 _ rfl);obtain⟨v0,v1,v2,v3,v4,v5,v6,v7,v8,v9⟩:=qcq hp.out;obtain⟨i0,hi0,hz0,hz1,hz2⟩:=info_parts zco;go_upto_region 18 with fail
     go_cut [] (fun wx=>∃vS'',Hid (Tm K w wx gw ve' vS'' E' (R'++[(m,x')]) F p'))
     case first=>
      go_region_law (refine qa6 rfl (.tmp 98) (.tmp 100) 90 rfl K.B 143 i0 (.agg #[zI 0,zI 0,zI 0,zI 0,zI 0,zI 0,zI 0,zI 0,zS,.bool false]) 10 88 underlying90 hi0 hz0 hz1 hz2 rfl (by decide) (.slice aoS R'.length capS) R'.length _ (by simp[Act.eval]) (World.ownsRow.alloc Ha.out.wk.seen _) (zO _ 0) 1 1 [zI m,zI x'.view.mode,zI x'.view.elem,zI x'.view.attr,zI x'.view.ends,zI x'.view.esc,zI x'.view.pct,zI x'.view.link,.string ⟨x'.view.name.toArray⟩,.bool x'.view.ref] (by simp[Act.eval]) rfl (qcn _ _ _) (by intro u hu;simp at hu;rcases hu with rfl|rfl|rfl|rfl|rfl|rfl|rfl|rfl|rfl|rfl<;>rfl) (by unfold maxLen;omega) (by omega) (by simp;have:=Ha.out.lt;have:=I.out;omega) ?_;intro v' w6 hC hgr hR;obtain⟨g',cap',rfl,_,_⟩:=qai hC (by omega);obtain⟨q4,r4⟩:=Ha.out.wk.ahead (zB _).drew hgr)
      all_goals
       go_wp2
       go_meet
       exact⟨_,Ha.out.more I.out (zB _).drew (m,x') hC hgr hR⟩
     case rest=>
     obtain⟨vS8,D⟩:=hcut;clear Ha hp s1 s1' v0 v1 v2 v3 v4 v5 v6 v7 v8 v9 hGl;obtain⟨aoS8,capS8,Hj⟩:=qaq D.out.wk.seen;rw[yJ]at Hj;simp only[yK,yQ]at Hj;subst Hj;have s1:=qaa D.out.wk.blk 1 _ rfl;by_cases h7:R'.length+1<=256
     ·as_aux_lemma=>
      have HR:((R'.length+1:Nat):Int)<=256:=by omega
      have hm1:m+1<=K.N.length:=He.out;obtain⟨s2,Hq⟩:∃s2,K.S[m+1]?=some s2:=⟨_,yc (by rw[Z.out.len];omega)⟩;have Hk:qah K.S (m+1)=s2.parts:=by unfold qah;rw[Hq]
      have hO:=Z.out.ok.wf (m+1) s2 Hq;have hl2:=(Z.out.ok.parts (m+1) s2 Hq).1;have hl:=(D.out.wk.at_.tp.row (m+1) s2 Hq).1;rw[(D.out.wk.at_.tp.row (m+1) s2 Hq).2.len]at hl;obtain⟨ao2,cap2,hv2,Ht⟩:=q2q hl;rw[<-Hk]at Ht;have Ho:=zH (fun(W':World) (hW:Tm K w W' gw ve' (.slice aoS8 (R'.length+1) capS8) E' (R'++[(m,x')]) F p')=>HT W' gw ve' (.slice aoS8 (R'.length+1) capS8) (.slice ao2 (qah K.S (m+1)).length cap2) E' (R'++[(m,x')]) r' (m+1) 0 _ x' p' F hW.wk Ht hm1 (by rw[xf];exact yg _) ⟨fun q hq=>(by rw[xf,yd (yg _)]at hq;cases hq),fun i' q _ _ h3 h4=>(by rw[Hk]at h3 |-;have:=qh1 hO i' q h3 h4;omega)⟩ (qyl HP.out.inv (List.prefix_append _ _)) HP.out.cm HP.out.par HP.out.sp (fun u hu=>(yn.1 hu).elim (HP.out.all u) fun z=>by rw[yv.1 z];exact⟨HP.out.cm,He.out⟩) (by rw[yJ];exact h7) (yh I.out (by have:=hW.lt;omega)) (by rw[yJ,Hk];simp only[yK,yQ];have:=Hf.out.1;have:=HP.out.pre.length_le;omega) (by rw[yJ,Hk];simp only[yK,yQ];have:=Hf.out.2.1;have:=HP.out.le;have:=HP.out.hi;have:=HP.out.lenE;have:=HP.out.pre.length_le;have h0:=HP.out.inv.few;simp only[yQ]at h0;omega));have hD:=(show Hid (∀(R5:List Vt) (E5:List Et) (r5:Nat),TrP K (R'++[(m,x')]) R5 E' E5 r' r5 (m+1) 0 (qah K.S (m+1)).length x'->_)from fun R5 E5 r5 ht=>HP.out.visit ht (by rw[Hk];exact hl2));unfold qaz qan at Ho;obtain⟨bP,capP,hU,_,_⟩:=qai D.out.wk.at_.tp.parts (by have:=He.out;omega);have X:=D.out.wk.at_.tp.parts;rw[hU]at X;obtain⟨nm,hnm⟩:∃y,K.N[m]?=some y:=⟨_,yc He.out⟩;have HK:=(qki K.pv K.N 1 m nm hnm).2;rw[Nat.add_comm 1 m]at HK;have cP:=(X.cellAt (m*2+1) (by rw[<-qir K.pv K.N 1];exact(yb.1 HK).1)).trans HK;have c1:wc.cell? (zO K.g 1)=some (zF bP K.N.length capP):=(qaa D.out.wk.at_.tp.blk 1 _ rfl).trans (by rw[hU]);rw[hv2]at cP;rw[Hk]at Ho hD;have s0:=qaa D.out.wk.blk 0 _ rfl;have hnN:(m:Int)<(K.N.length:Int):=by have:=He.out;omega
      obtain⟨q0,q1,q2,q3,q4,q5⟩:=qbu D.out.spot;clear X HK hU hnm Ht hl hv2 hl2 hO Hk Hq;go_upto_region 20 with fail
      go_region_with (go_at_call 33;refine xQ (Ho.out _ D.out.drew) ?_;rintro e w5 ⟨p5,ok5,ve5,vS5,E5,R5,r5,rfl,hy,Hy,hz⟩;dsimp only)
      all_goals
       have hf:=zH (D.out.drew.trod Hy hy);have HN9:=zH (hD.out _ _ _ hz);clear hy Hy hz;go_wp2
       go_meet
       exact⟨_,_,_,_,_,hf,HN9⟩
     ·have HR:¬((R'.length+1:Nat):Int)<=256:=by omega
      have H0:=HP.out.visit0 Hm h7 He.out;have H1:=zH H0;clear H0;go_wp2
      go_meet
      exact⟨_,_,_,_,_,D,H1⟩
    case rest=>
    obtain⟨ve'',vS'',E'',R'',r'',D,O⟩:=hcut;clear Hp;obtain⟨aoS,capS,HB⟩:=qaq D.out.wk.seen;subst HB;have s1:=qaa D.out.wk.blk 1 _ rfl;have s0:=qaa D.out.wk.blk 0 _ rfl;by_cases h7:R''.length<=256
    rotate_left
    ·have HR:(R''.length:Int) > 256:=by omega
     have HN7:=zH h7;clear h7;obtain⟨q0,q1,q2,q3,q4,q5⟩:=qbu D.out.spot;obtain⟨r0,r1,r2,r3,r4,r5⟩:=qbu D.out.res;have f0:=qgx D.out.res;go_wp2
     try rw[Hw]
     refine qmf (ok:=false) I.out D.out (O.out.1.wide HN7.out) ?_ ?_ ?_
     all_goals rfl
    have HR:¬(R''.length:Int) > 256:=by omega
    have hrk:r''+4000000*(429926418001 - E''.length)<=1900000000000000000:=by
     have:=Hf.out.2.1;have:=O.out.1.le;have:=O.out.1.hi;have:=O.out.1.lenE;have:=O.out.1.pre.length_le;have:=O.out.1.few;have h0:=O.out.1.inv.few;simp only[yQ]at h0;omega
    have HU:=fun(W':World) (hA:K.at_ W' ve'' E'') (hB:K.B<=W'.heap.size)=>HE R'' W' ve'' (zN) E'' [] m x' p' r'' hA (World.ownsRow_nil _ _ _ _) O.out.1.inv O.out.1.cm O.out.1.par O.out.1.sp He.out (zcm (by omega) O.out.2 (by show m<6;have:=He.out;have:=Z.out.six;omega) O.out.1.cm.fit.fit.ok.st.name) List.not_mem_nil (fun u hu=>absurd hu List.not_mem_nil) hB (by omega) (by simp only[yQ];omega);unfold qaz qan at HU;have hV:=zH HU;clear HU hrk;go_upto_region 23 with fail
    generalize wc=w9 at D s1 s0 |-;have hE:=(zL D.out.spot);have hF:=(zL D.out.wk.blk);obtain⟨q0,q1,q2,q3,q4,q5⟩:=qbu D.out.spot;have Hl:=zH (fun o=>qbu ((xI w9 o hE).trans D.out.spot));have q0':=fun o=>(Hl.out o).1;have q1':=fun o=>(Hl.out o).2.1;have q2':=fun o=>(Hl.out o).2.2.1;have q3':=fun o=>(Hl.out o).2.2.2.1;have q4':=fun o=>(Hl.out o).2.2.2.2.1;have q5':=fun o=>(Hl.out o).2.2.2.2.2;have s0':=fun o=>qaa ((xI w9 o hF).trans D.out.wk.blk) 0 _ rfl;have HBS:=(show Hid (K.B<=w9.heap.size)from yh I.out (by have:=D.out.lt;omega));have HSL:=(show Hid (w.heap.size+1<w9.heap.size)from D.out.lt);clear hE hF;go_cut [12,13] (fun s12 s13 wx=>∃(ok:Bool) (TB:Nat),s12=zP TB/\s13=.bool ok/\Hid (∃p5 ve5 E5 r5,Tm K w wx gw ve5 (.slice aoS R''.length capS) E5 R'' F p'/\wx.heap[TB]?=zK (qan p5) 94/\EInv K.bd R'' r5 E5 []/\SpOk r5 p5/\E''.length<=E5.length/\r''<=r5/\r5<=r''+4000000*(E5.length - E''.length)+0/\(ok=true->∃y,Done K.bd m x' y/\ParX y p5/\Cm y)/\(ok=false->∀y,¬Done K.bd m x' y)))
    case first=>
     as_aux_lemma=>
     have HV:=(show Hid _ from((xL w9.heap.size w9).alloc (yg _) (.cells #[zI 0,zS,zS,zS,zS,zI 0] 94)).drew);go_wp2
     go_region_with (go_at_call 58;first
      |(refine xQ (hV.out (w9.alloc (.cells #[zI 0,zS,zS,zS,zS,zI 0] 94)).drew (D.out.kept HV.out I.out).wk.at_ (yh HBS.out HV.out.size)) ?_;rintro e w8 ⟨p5,ok,ve5,E5,r5,rfl,hd⟩;unfold qaz qan;have HZ:=(show Hid _ from(hd.ck.keep _ _ _ _ (xF w9 (.cells #[zI 0,zS,zS,zS,zS,zI 0] 94)) (by decide) (by decide)).trans (xF w9 (.cells #[zI 0,zS,zS,zS,zS,zI 0] 94)));have u0:=qbu HZ.out;have f0:=qgx HZ.out;have HD:=zH hd;clear hd;dsimp only)
      | (refine xQ (hV.out w9.drew D.out.drew.wk.at_ HBS.out) ?_;rintro e w8 ⟨p5,ok,ve5,E5,r5,rfl,hd⟩;unfold qaz qan;have HD:=zH hd;clear hd;dsimp only))
     all_goals
      go_wp2
      go_meet
      first
      |exact⟨ok,_,rfl,rfl,p5,ve5,E5,r5,(((D.out.kept HV.out I.out).ended HD.out.ck HD.out.at_).setFar I.out HZ.out HSL.out _ _ _ _ _ _),qmz HZ.out _ _ _ _ _ _,HD.out.inv,HD.out.sp,HD.out.len,HD.out.up,HD.out.le,HD.out.yes,HD.out.no⟩
      |exact⟨ok,_,rfl,rfl,p5,ve5,E5,r5,((D.out.drew.ended HD.out.ck HD.out.at_).kept (zB _) I.out),xF _ _,HD.out.inv,HD.out.sp,HD.out.len,HD.out.up,HD.out.le,HD.out.yes,HD.out.no⟩
    case rest=>
    obtain⟨ok,TB,rfl,rfl,HC9⟩:=hcut;obtain⟨p5,ve5,E5,r5,hm9,htb,J,Hc,U,Hr,Hs,Y,HF⟩:=HC9.out;have hf:=zH hm9;have HD:=(show Hid (EInv K.bd R'' r5 E5 []/\SpOk r5 p5/\E''.length<=E5.length/\r''<=r5/\r5<=r''+4000000*(E5.length - E''.length)+0/\(ok=true->∃y,Done K.bd m x' y/\ParX y p5/\Cm y)/\(ok=false->∀y,¬Done K.bd m x' y))from⟨J,Hc,U,Hr,Hs,Y,HF⟩);have u0:=qbu htb;clear q0 q1 q2 q3 q4 q5 q0' q1' q2' q3' q4' q5' s0 s0' s1 Hl D hV HC9 hm9 htb J Hc U Hr Hs Y HF;obtain⟨q0,q1,q2,q3,q4,q5⟩:=qbu hf.out.spot;cases ok
    ·obtain⟨r0,r1,r2,r3,r4,r5'⟩:=qbu hf.out.res
     have f0:=qgx hf.out.res;go_wp2
     try rw[Hw]
     obtain⟨J,Hc,U,Hr,Hs,Y,HF⟩:=HD.out;refine qmf (ok:=false) I.out hf.out (O.out.1.nodone he.out Hg.out HI.out.1 HI.out.2 O.out.2 (HF trivial) J U Hr Hs) ?_ ?_ ?_
     all_goals rfl
    have f0:=qgx hf.out.spot;go_wp2
    go_meet
    obtain⟨J,Hc,U,Hr,Hs,Y,HF⟩:=HD.out;obtain⟨y,hy1,hy2,hy3⟩:=Y trivial;exact⟨i,_,_,_,_,_,_,_,yg _,rfl,hf.out.set I.out p5,O.out.1.call he.out Hg.out HI.out.1 HI.out.2 O.out.2 hy1 hy2 hy3 J Hc U Hr Hs⟩
   case rest=>
   obtain⟨j',p'',x'',ve'',vS'',E'',R'',r'',hij,rfl,Hb,hG⟩:=hcut;obtain⟨aoS,capS,HB⟩:=qaq Hb.out.wk.seen;subst HB;have s1:=qaa Hb.out.wk.blk 1 _ rfl;by_cases h6:R''.length<=256
   ·have h6':¬(R''.length:Int) > 256:=by omega
    go_wp2
    go_meet
    exact⟨j',p'',x'',ve'',_,E'',R'',r'',hij,rfl,h6,Hb,hG⟩
   ·have h6':(R''.length:Int) > 256:=by omega
    have HN6:=zH h6;clear h6 q0 q1 q2 q3 q4 q5;obtain⟨q0,q1,q2,q3,q4,q5⟩:=qbu Hb.out.spot;obtain⟨r0,r1,r2,r3,r4,r5⟩:=qbu Hb.out.res;have f0:=qgx Hb.out.res;go_wp2
    try rw[Hw]
    refine qmf (ok:=false) I.out Hb.out (hG.out.wide HN6.out) ?_ ?_ ?_
    all_goals rfl
  case rest=>
  obtain⟨j',p'',x'',ve'',vS'',E'',R'',r'',hij,rfl,hR2,Hb,hG⟩:=hcut;have hj2:=hG.out.hi;go_wp2
  refine⟨⟨j'+1,p'',x'',ve'',vS'',E'',R'',r'',by go_num,hR2,Hb,hG⟩,?_⟩;simp[intOf];omega
end Go.Proofs.YtfkhljmiehdgmaaGreatDoor
