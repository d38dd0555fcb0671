/-
  Steps of the proof.
-/
import Derived.Test.YtfkhljmiehdgmaaGreatDoorCmBS
set_option maxRecDepth 100000
set_option maxHeartbeats 40000000
namespace Go.Proofs.YtfkhljmiehdgmaaGreatDoor
open Go.RowKit
theorem Tm.went{K:Sk}{w0 wr w':World}{gw:Nat}{ve vS ve' vS':Value}{E E':List Pl.Et}{R R':List Pl.Vt}{F F':Pl.Ft}{p:Pl.Sp}(h:Tm K w0 wr gw ve vS E R F p)(hc:Cw K.B wr w')(hw:WkAt K w' gw ve' vS' E' R' F'):Tm K w0 w' gw ve' vS' E' R' F' p:=
 ⟨(hc.keep _ _ _ _ h.spot (by decide)).trans h.spot,(hc.keep _ _ _ _ h.res (by decide)).trans h.res,hw,h.ck.trans hc⟩
theorem qj7{K:Sk}{RR:List Pl.Vt}{w w5:World}{gw:Nat}{ve vS:Value}{E E5:List Pl.Et}{R R5:List Pl.Vt}{F:Pl.Ft}{r r5 j off len:Nat}{x:Pl.Sx}{p:Pl.Sp}{ok:Bool}{a:Act}(hB:K.B≤w.heap.size)(hm:Tm K w w5 gw ve vS E5 R5 F p)(ht:ThP K RR R R5 E E5 r r5 j off len x F p ok)(h8:a.tmps.getD 8 undef=.pointer (some ⟨w.heap.size+1,0,none⟩))(h9:a.tmps.getD 9 undef=.bool ok)(hd:a.defers=[]) :
  bodyPost Tryz.prog Tryz.f40 (fun e w'=>WthO K RR w gw E R r j off len x e w') .ret a (set6 w5 (w.heap.size+1) (.int .i64 p.mode) (.string ⟨p.tag.toArray⟩) (.string ⟨p.attr.toArray⟩) (.string ⟨p.inside.toArray⟩) (.string ⟨p.run.toArray⟩) (.int .i64 p.far)):=by
 have ho:=hm.out hB (.int .i64 p.mode) (.string ⟨p.tag.toArray⟩) (.string ⟨p.attr.toArray⟩) (.string ⟨p.inside.toArray⟩) (.string ⟨p.run.toArray⟩) (.int .i64 p.far);refine qbm Tryz.results40 (w.heap.size+1) _ Tryz.underlying94 rfl (by kernel_rfl) h8 ⟨_,_,hm.res,rfl⟩ hd _ _ _ _ _ _ _ h9 ?_;exact⟨p,ok,ve,vS,E5,R5,r5,F,rfl,ho.1,ho.2,ht⟩
theorem WkAt.stays{K:Sk}{w w1 w':World}{gw:Nat}{ve vS:Value}{E:List Pl.Et}{R:List Pl.Vt}{F:Pl.Ft}(h:WkAt K w gw ve vS E R F)(hb:Below w.heap.size w w1)(ha:w1.grownBy w' vS.ownBlock){k:Nat}{cs:Array Value}{t:TypeId}{fz:Nat×Nat}(hk:w.heap[k]?=some (.cells cs t fz))(ht:t≠143∧t≠92)(u:Value):(w'.setCell ⟨gw,1,none⟩ u).heap[k]?=some (.cells cs t fz):=
 ((Below.heap_setCell _ _ _ _ (qae hk h.blk ht.2)).trans (h.apart hb ha hk ht.1)).trans hk
theorem q6g(x:Pl.Sx):x.hole.2=0∨x.hole.2 > 0:=by
 unfold Pl.Sx.hole
 repeat' split
 all_goals simp
theorem q8g{K:Sk}(hN:Pl.nmOf K.S=K.nm){t:List UInt8}{m:Nat}(h:Pl.qca K.nm t=some m):Pl.qep K.S (m+1)=t:=by
 rw[←hN]at h;unfold Pl.qca at h;rw[List.findIdx?_eq_some_iff_getElem]at h;obtain⟨h1,h2,_⟩:=h;have h3:(Pl.nmOf K.S)[m]?=some t:=by rw[List.getElem?_eq_getElem h1];exact congrArg some (eq_of_beq h2)
 unfold Pl.nmOf at h3;rw[List.getElem?_map,List.getElem?_drop,Nat.add_comm]at h3;unfold Pl.qep;cases hs:K.S[m+1]? with
 | none=>rw[hs]at h3;cases h3
 | some s=>rw[hs]at h3;exact Option.some.inj h3
theorem q7q(K:Sk)(hK:SkOk K)(hN:Pl.nmOf K.S=K.nm)(RR:List Pl.Vt)(hRR:RR.length≤256)(hRa:∀u∈RR,Pl.Cm u.2∧u.1<K.N.length)(hRc:∀u∈RR,K.cl RR (u.1+1) 0 u.2)(k:Nat)(HE:EndC K RR 429926418001)(HT:WthC K RR k):WthC K RR (k+1):=by
 intro w gw ve vS v wh E R r j off len x p hat hV hwh hj Hx hwf hl hcm HW hE hY HY hcl hB hk hr;obtain⟨s,hs⟩:∃s,K.S[j]?=some s:=⟨_,List.getElem?_eq_getElem (by rw[hK.len];omega)⟩;have hP:Pl.qab K.S j=s.parts:=by unfold Pl.qab;rw[hs]
 obtain⟨ao,cap,rfl,hlc,hao⟩:=hV;obtain⟨Q,hF⟩:∃Q:Ending→World→Prop,Q=fun e w'=>WthO K RR w gw E R r j off len x e w':=⟨_,rfl⟩;rw[←hF];have H0:Hid (Tm K w ((w.alloc (.cells (qag p) 94)).alloc (.cells #[.int .i64 0,.string ⟨#[]⟩,.string ⟨#[]⟩,.string ⟨#[]⟩,.string ⟨#[]⟩,.int .i64 0] 94)) gw ve vS E R Pl.Ft.none p):=by
  have hb:=((Below.refl w.heap.size w).alloc (Nat.le_refl _) (.cells (qag p) 94)).alloc (by simp) (.cells #[.int .i64 0,.string ⟨#[]⟩,.string ⟨#[]⟩,.string ⟨#[]⟩,.string ⟨#[]⟩,.int .i64 0] 94);exact⟨(heap_alloc_old _ _ (by simp)).trans (heap_alloc_new _ _),qal _ _ _ (by simp),hat.kept hb,Cw.of_below hb hB⟩
 have HP0:Hid (Tq K RR R R E E r r j off len off x x p):=⟨hl,hcm,HW,hE,List.prefix_refl _,hY,HY,Nat.le_refl _,Nat.le_refl _,by omega,Nat.le_refl _,by omega,hcl,hwf,fun _ _ _ h=>h⟩;unfold qat;unfold qag at H0 ⊢;go_enter Tryz.func40,Tryz.ntmps40
 go_wp2_with fail
 generalize World.alloc _ _=w1 at H0 ⊢;have hI:=hd hK;have hZ:=hd hN;have hy:=hd (And.intro hRR (And.intro hRa hRc));have HS:=hd hs;have Ha:=hd hB;have HX:=(show Hid ((0<len→∃g cap0,K.pv j=.slice (some ⟨g,0,none⟩) s.parts.length cap0∧ao=some ⟨g,off*6,none⟩)∧off+len≤s.parts.length) from⟨by rw[hP]at hao;exact hao,by rw[hP]at Hx;exact Hx⟩);have HI:=hd (And.intro hk hr);have HPE:=hd hP;have HJ:=hd hj;have HWH:=hd hwh;have hL2:s.parts.length≤2000:=(hK.ok.parts j s hs).1;have hlen2:len≤2000:=by rw[hP]at Hx;omega
 clear hat hl hcm HW hE hB hk hr hP hs hK hao Hx hj hN hRR hRa hRc hwf hY HY hcl hwh;go_loopw [10] (fun v10 wr=>∃(i:Nat) (p':Pl.Sp) (x':Pl.Sx) (ve' vS':Value) (E':List Pl.Et) (R':List Pl.Vt) (r':Nat),v10=.int .i64 i∧Hid (Tm K w wr gw ve' vS' E' R' Pl.Ft.none p')∧Hid (Tq K RR R R' E E' r r' j off len (off+i) x x' p')) (fun v10 _=>len - (intOf v10).toNat)
 case atStart=>exact⟨0,p,x,ve,vS,E,R,r,rfl,H0,HP0⟩
 case round=>
  clear H0 HP0;obtain⟨i,p',x',ve',vS',E',R',r',rfl,HM,HP⟩:=hrel;have hile:i≤len:=by have:=HP.out.hi;omega
  obtain⟨q0,q1,q2,q3,q4,q5⟩:=qau HM.out.spot;have HSZ:=hd HM.out.lt;by_cases hlt:i<len
  rotate_left
  ·have hlt':¬(i:Int)<(len:Int):=by omega
   obtain⟨r0,r1,r2,r3,r4,r5⟩:=qau HM.out.res;obtain⟨f0,f1,f2,f3,f4,f5⟩:=qdx HM.out.res;have hil:i=len:=by omega
   have HD:=(show Hid _ from(show Tq K RR R R' E E' r r' j off len (off+len) x x' p' from hil▸HP.out).fin);go_wp2_with fail
   try rw[hF]
   refine qj7 Ha.out HM.out HD.out ?_ ?_ ?_
   all_goals rfl
  obtain⟨g7,cap7,h7,rfl⟩:=HX.out.1 (by omega);obtain⟨pt,H1⟩:∃pt,s.parts[off+i]?=some pt:=⟨_,List.getElem?_eq_getElem (by have:=HX.out.2;omega)⟩;obtain⟨rm,hrm⟩:∃rm,(K.RL j)[off+i]?=some rm:=⟨_,List.getElem?_eq_getElem (by rw[(HM.out.wk.at_.tp.row j s HS.out).2.len];have:=HX.out.2;omega)⟩;have HO:=(HM.out.wk.at_.tp.row j s HS.out).2.each (off+i) rm pt hrm H1;have hJ:=(HM.out.wk.at_.tp.row j s HS.out).1;rw[h7,← (HM.out.wk.at_.tp.row j s HS.out).2.len]at hJ;have hc:=fun c v (hv:(qc8 rm)[c]?=some v)=>(hJ.cellAt ((off+i)*6+c) (by have:=qc4 _ _ rm hrm c v hv;have:=(List.getElem?_eq_some_iff.1 this).1;rw[qki]at this;exact this)).trans (qc4 _ _ rm hrm c v hv);rw[Nat.add_mul]at hc;have c0:wr.cell? ⟨g7,off*6+i*6,none⟩=some (.int .i64 (Pl.qbg pt.kind)):=(hc 0 _ rfl).trans (by rw[HO.kd]);have c1:wr.cell? ⟨g7,off*6+i*6+1,none⟩=some (.int .i64 pt.pos):=(hc 1 _ rfl).trans (by rw[HO.pos]);have c2:wr.cell? ⟨g7,off*6+i*6+2,none⟩=some (.string ⟨pt.text.toArray⟩):=(hc 2 _ rfl).trans (by rw[HO.text]);obtain⟨pvo,pvn,pvc,hpv⟩:=HO.pv;have c3:wr.cell? ⟨g7,off*6+i*6+3,none⟩=some (.slice pvo pvn pvc):=(hc 3 _ rfl).trans (congrArg some hpv);have c4:wr.cell? ⟨g7,off*6+i*6+4,none⟩=some (.bool rm.tn):=hc 4 _ rfl;obtain⟨d,hd⟩:∃d:Nat,d=if pt.kind=3∨pt.kind=4 then pt.mate - (off+i) else 0:=⟨_,rfl⟩;have c5:wr.cell? ⟨g7,off*6+i*6+5,none⟩=some (.int .i64 d):=(hc 5 _ rfl).trans (by rw[HO.en,hd]);have hm:=(show Hid ((Pl.qab K.S j)[off+i]?=some pt) by show _=_;rw[HPE.out];exact H1);have HQ2:=(show Hid _ from(hI.out.ok.parts j s HS.out).2 pt (List.mem_of_getElem? H1));have HK:=Pl.qk1 (hI.out.ok.wf j s HS.out) pt (List.mem_of_getElem? H1);have H7:=hd h7;have hlt':(i:Int)<(len:Int):=by omega
  have HD:=hd hd;clear hrm H1 h7 HO hJ hc hpv hd;generalize rm.tn=tn at c4;have HRB:=(show Hid (r'≤1900000000000000000) from by
   have:=HP.out.le;have:=HP.out.hi;have:=HP.out.lenE;have:=HP.out.pre.length_le;have:=HP.out.inv.few;have:=HI.out.2;have:=Pl.qff _ _ HP.out.nod HP.out.sub;have:=hy.out.1;have h0:=HP.out.inv.few;simp only[List.length_nil]at h0;show _≤_;omega)
  have Ho:=(show Hid (off+i<off+len) by show _<_;omega);go_upto_block 1 with fail
  go_cut [10,11,12,13,14,15,16,17,18,19,20,21,22,23,24,25] from 26 to 189 (fun v10 v11 v12 v13 v14 v15 v16 v17 v18 v19 v20 v21 v22 v23 v24 v25 wx=>∃(j':Nat) (p'':Pl.Sp) (x'':Pl.Sx) (ve'' vS'':Value) (E'':List Pl.Et) (R'':List Pl.Vt) (r'':Nat),i≤j'∧v10=.int .i64 j'∧Hid (Tm K w wx gw ve'' vS'' E'' R'' Pl.Ft.none p'')∧Hid (Tq K RR R R'' E E'' r r'' j off len (off+(j'+1)) x x'' p''))
  case first=>
   go_upto_region 5 with fail
   have Hg:=hd (HM.out.kept (w':=wr.alloc (.cells #[.int .i64 (Pl.qbg pt.kind),.int .i64 pt.pos,.string ⟨pt.text.toArray⟩,.slice pvo pvn pvc,.bool tn,.int .i64 d] 136)) (ba _) Ha.out);have hG:=heap_alloc_new wr (.cells #[.int .i64 (Pl.qbg pt.kind),.int .i64 pt.pos,.string ⟨pt.text.toArray⟩,.slice pvo pvn pvc,.bool tn,.int .i64 d] 136);generalize World.alloc wr _=w2 at Hg hG ⊢;generalize wr.heap.size=PB at hG ⊢;clear q0 q1 q2 q3 q4 q5 c0 c1 c2 c3 c4 c5;have Hl:=hd hG;obtain⟨c0,c1,c2,c3,c4,c5⟩:=qau hG;obtain⟨q0,q1,q2,q3,q4,q5⟩:=qau Hg.out.spot;clear hG;by_cases k1:pt.kind=1
   ·rw[show Pl.qbg pt.kind=0 by rw[k1];rfl]at c0 ⊢
    have hT:=fun W'=>qoe p' r' ⟨pt.text.toArray⟩ W' HP.out.sp (by have:=HRB.out;have:=HQ2.out.1;rw[qbz];omega);have hg:=Pl.wrong_scheme pt.text x' p' 0 HP.out.cm HP.out.par;rw[show (⟨pt.text.toArray⟩:ByteArray).data.toList=pt.text from rfl]at hT;unfold qat qag at hT;cases hL:Pl.qbj x' pt.text with
    | none=>
      rw[hL]at hg;simp only at hg;rw[hg]at hT;have HT:=hd hT;have He:=hd (HP.out.text hm.out Ho.out k1 HQ2.out.1 hL);clear hT k1 HK hg hL;go_upto_region 11 with (go_at_call 54;refine(HT.out _).mono ?_;rintro e w5 ⟨rfl,hb⟩;have Hp:=hd (Hg.out.kept ⟨hb.os,hb.tape,hb.output,hb.size,hb.block⟩ Ha.out);clear hb;dsimp only)
      have Hb:=hd (Hp.out.kept ((Below.refl w5.heap.size w5).alloc (Nat.le_refl _) (.cells (qag (Pl.qc7 p' pt.text)) 94)) Ha.out);have Hy:=heap_alloc_new w5 (.cells (qag (Pl.qc7 p' pt.text)) 94);unfold qag at Hb Hy;generalize World.alloc w5 _=w6 at Hb Hy ⊢;obtain⟨u0,u1,u2,u3,u4,u5⟩:=qau Hy;clear Hy Hp c0 c1 c2 c3 c4 c5 q0 q1 q2 q3 q4 q5;obtain⟨q0,q1,q2,q3,q4,q5⟩:=qau Hb.out.spot;obtain⟨f0,f1,f2,f3,f4,f5⟩:=qdx Hb.out.spot;go_wp2_with fail
      go_meet
      exact⟨i,_,_,_,_,_,_,_,Nat.le_refl _,rfl,Hb.out.set Ha.out (Pl.qc7 p' pt.text),He.out⟩
    | some t=>
      rw[hL]at hg;simp only[Nat.zero_add]at hg;rw[hg]at hT;have HT:=hd hT;have He:=hd (HP.out.wrong (Pl.Th.scheme Ho.out hm.out k1 hL));have hgl:t≤2000:=by
       have:=Pl.qoh hL;have:=HQ2.out.1;omega
      have hw1:IntKind.i64.wrap ((pt.pos:Int)+(t:Int))=((pt.pos+t:Nat):Int):=by rw[IntKind.wrap_i64];have:=HQ2.out;omega
      have ht0:(t:Int)≥0:=by omega
      rw[←HWH.out]at He;clear hT k1 HK hg hL;go_upto_region 9 with (go_at_call 54;refine(HT.out _).mono ?_;rintro e w5 ⟨rfl,hb⟩;have Hp:=hd (Hg.out.kept ⟨hb.os,hb.tape,hb.output,hb.size,hb.block⟩ Ha.out);have Hn:=(show Hid _ from(hb.block _ (lta Hl.out)).trans Hl.out);clear hb;dsimp only)
      have Hb:=hd (Hp.out.kept ((Below.refl w5.heap.size w5).alloc (Nat.le_refl _) (.cells (qag (Pl.qc7 p' pt.text)) 94)) Ha.out);have he:=(show Hid _ from(heap_alloc_old w5 (.cells (qag (Pl.qc7 p' pt.text)) 94) (lta Hn.out)).trans Hn.out);unfold qag at Hb he;generalize World.alloc w5 _=w6 at Hb he ⊢;clear Hp Hn c0 c1 c2 c3 c4 c5 q0 q1 q2 q3 q4 q5;obtain⟨c0,c1,c2,c3,c4,c5⟩:=qau he.out;have hwr:=fun(W':World) (h:WkAt K W' gw ve' vS' E' R' Pl.Ft.none)=>qrj K W' gw ve' vS' E' R' Pl.Ft.none 14 wh (pt.pos+t) h;simp only[Int.natCast_add]at hwr;have H2:=hd hwr;clear hwr;go_upto_region 10 with (go_at_call 42;refine Calls.mono (H2.out _ Hb.out.wk) ?_;rintro e w7 ⟨rfl,Hm,Hi⟩;have Hj:=hd (Hb.out.went Hi Hm);clear Hm Hi;dsimp only)
      obtain⟨q0,q1,q2,q3,q4,q5⟩:=qau Hj.out.spot;obtain⟨r0,r1,r2,r3,r4,r5⟩:=qau Hj.out.res;obtain⟨f0,f1,f2,f3,f4,f5⟩:=qdx Hj.out.res;go_wp2_with fail
      try rw[hF]
      refine qj7 Ha.out Hj.out He.out ?_ ?_ ?_
      all_goals rfl
   by_cases k2:pt.kind=2
   ·rw[show Pl.qbg pt.kind=1 by rw[k2];rfl]at c0 ⊢
    have hT:=fun W'=>qo5 p' W' (by have:=HP.out.sp.tag;omega) (by have:=HP.out.sp.attr;omega) (by have:=HP.out.sp.inside;omega) (by have:=HP.out.sp.run;have:=HRB.out;omega);rw[Pl.q3v x' p' HP.out.cm.fit.fit.ok HP.out.par]at hT;unfold qat qag at hT;rcases q6g x' with h0 | h0
    ·have He:=hd (HP.out.hole hm.out Ho.out k2 h0)
     rw[h0]at hT;have HT:=hd hT;generalize x'.hole.1=v1 at HT;clear hT k1 k2 HK h0;generalize Pl.Sp.behindHole p'=ph at HT He;go_upto_region 17 with (go_at_call 55;refine(HT.out _).mono ?_;rintro e w5 ⟨rfl,hb⟩;have Hp:=hd (Hg.out.kept ⟨hb.os,hb.tape,hb.output,hb.size,hb.block⟩ Ha.out);clear hb;dsimp only)
     have Hb:=hd (Hp.out.kept ((Below.refl w5.heap.size w5).alloc (Nat.le_refl _) (.cells (qag ph) 94)) Ha.out);have Hy:=heap_alloc_new w5 (.cells (qag ph) 94);unfold qag at Hb Hy;generalize World.alloc w5 _=w6 at Hb Hy ⊢;obtain⟨u0,u1,u2,u3,u4,u5⟩:=qau Hy;clear Hy Hp c0 c1 c2 c3 c4 c5 q0 q1 q2 q3 q4 q5;obtain⟨q0,q1,q2,q3,q4,q5⟩:=qau Hb.out.spot;obtain⟨f0,f1,f2,f3,f4,f5⟩:=qdx Hb.out.spot;go_wp2_with fail
     go_meet
     exact⟨i,_,_,_,_,_,_,_,Nat.le_refl _,rfl,Hb.out.set Ha.out ph,He.out⟩
    ·have He:=hd (HP.out.wrong (Pl.Th.bad Ho.out hm.out k2 (by omega)))
     rw[←HWH.out]at He;have HT:=hd hT;clear hT;generalize x'.hole.1=v1 at HT;generalize x'.hole.2=kd at HT He h0;clear k1 k2 HK;generalize Pl.Sp.behindHole p'=ph at HT;go_upto_region 15 with (go_at_call 55;refine(HT.out _).mono ?_;rintro e w5 ⟨rfl,hb⟩;have Hp:=hd (Hg.out.kept ⟨hb.os,hb.tape,hb.output,hb.size,hb.block⟩ Ha.out);have Hn:=(show Hid _ from(hb.block _ (lta Hl.out)).trans Hl.out);clear hb;dsimp only)
     have Hb:=hd (Hp.out.kept ((Below.refl w5.heap.size w5).alloc (Nat.le_refl _) (.cells (qag ph) 94)) Ha.out);have he:=(show Hid _ from(heap_alloc_old w5 (.cells (qag ph) 94) (lta Hn.out)).trans Hn.out);unfold qag at Hb he;generalize World.alloc w5 _=w6 at Hb he ⊢;clear Hp Hn c0 c1 c2 c3 c4 c5 q0 q1 q2 q3 q4 q5;obtain⟨c0,c1,c2,c3,c4,c5⟩:=qau he.out;have H2:=hd (fun(W':World) (h:WkAt K W' gw ve' vS' E' R' Pl.Ft.none)=>qrj K W' gw ve' vS' E' R' Pl.Ft.none kd wh pt.pos h);go_upto_region 16 with (go_at_call 42;refine Calls.mono (H2.out _ Hb.out.wk) ?_;rintro e w7 ⟨rfl,Hm,Hi⟩;have Hj:=hd (Hb.out.went Hi Hm);clear Hm Hi;dsimp only)
     obtain⟨q0,q1,q2,q3,q4,q5⟩:=qau Hj.out.spot;obtain⟨r0,r1,r2,r3,r4,r5⟩:=qau Hj.out.res;obtain⟨f0,f1,f2,f3,f4,f5⟩:=qdx Hj.out.res;go_wp2_with fail
     try rw[hF]
     refine qj7 Ha.out Hj.out He.out ?_ ?_ ?_
     all_goals rfl
   by_cases k34:pt.kind=3∨pt.kind=4
   ·as_aux_lemma=>
    rw[show Pl.qbg pt.kind=2 by rcases k34 with h | h<;>rw[h]<;>rfl]at c0 Hl ⊢
    have hq:=Pl.q2q HP.out.wf hm.out Ho.out k34;have Hq:=hd hq;have hdv:d=pt.mate - (off+i):=by rw[HD.out,if_pos k34]
    have HDD:=hd hdv;have hdl:i+d<len:=by have:=hq.1;have:=hq.2.1;omega
    have hd1:1≤d:=by have:=hq.1;omega
    have H3:=hd k34;have hz:=hd (fun(W':World) (hW:Tm K w W' gw ve' vS' E' R' Pl.Ft.none p')=>HT W' gw ve' vS' (.slice (some ⟨g7,off*6+(i+1)*6,none⟩) (d - 1) (cap - (i+1))) wh E' R' r' j (off+i+1) (d - 1) x' p' hW.wk ⟨_,_,rfl,by omega,fun _=>⟨g7,cap7,by rw[HPE.out];exact H7.out,by rw[Nat.add_assoc off i 1,Nat.add_mul off]⟩⟩ HWH.out HJ.out (by rw[HPE.out];have:=HX.out.2;omega) (by rw[show off+i+1+(d - 1)=pt.mate by have:=Hq.out.1;omega];exact Hq.out.2.2.1) HP.out.inv HP.out.cm HP.out.par HP.out.sp HP.out.sub HP.out.nod (HP.out.cl.next ⟨pt,hm.out,.inr (.inr (.inl ⟨H3.out,.inl rfl,rfl⟩))⟩) (Nat.le_trans Ha.out (by have:=hW.lt;omega)) (by have:=HI.out.1;have:=HP.out.pre.length_le;omega) (by have:=HI.out.2;have:=HP.out.le;have:=HP.out.lenE;have:=HP.out.pre.length_le;have h0:=HP.out.inv.few;simp only[List.length_nil]at h0;have:=Pl.qff _ _ HP.out.nod HP.out.sub;have:=hy.out.1;omega));unfold qat qag at hz;clear hq hdv k1 k2 k34 HK;have hw1:IntKind.i64.wrap ((i:Int)+1)=(i:Int)+1:=by rw[IntKind.wrap_i64];omega
    have hw2:IntKind.i64.wrap ((i:Int)+(d:Int))=(i:Int)+(d:Int):=by rw[IntKind.wrap_i64];omega
    have hb1:(i:Int)+1≤(i:Int)+(d:Int):=by omega
    have hb2:(i:Int)+(d:Int)≤(cap:Int):=by omega
    have hb3:(1:Int)≤(d:Int):=by omega
    have hb4:(0:Int)≤(i:Int)+1:=by omega
    have hb5:(0:Int)≤(i:Int)+(d:Int):=by omega
    have hn1:((i:Int)+1).toNat=i+1:=by omega
    have hn2:((i:Int)+(d:Int)).toNat=i+d:=by omega
    have hne:¬cap=i+1:=by omega
    have hns:i+d - (i+1)=d - 1:=by omega
    have H4:=(lta Hg.out.spot);have ho:=hd (fun o=>qau ((heap_alloc_old w2 o H4).trans Hg.out.spot));have q0':=fun o=>(ho.out o).1;have q1':=fun o=>(ho.out o).2.1;have q2':=fun o=>(ho.out o).2.2.1;have q3':=fun o=>(ho.out o).2.2.2.1;have q4':=fun o=>(ho.out o).2.2.2.2.1;have q5':=fun o=>(ho.out o).2.2.2.2.2;have c5':=fun o=>qaa ((heap_alloc_old w2 o (lta Hl.out)).trans Hl.out) 5 _ rfl;have HBS:=(show Hid (w.heap.size+1<w2.heap.size) from Hg.out.lt);clear H4;go_upto_region 19 with fail
    go_cut [17,18] (fun s17 s18 wx=>∃(ok:Bool) (TB:Nat),s17=.pointer (some ⟨TB,0,none⟩)∧s18=.bool ok∧Hid (∃p5 ve5 vS5 E5 R5 r5 F5,Tm K w wx gw ve5 vS5 E5 R5 F5 p'∧wx.heap[TB]?=some (.cells (qag p5) 94 (0,0))∧wx.heap[PB]?=some (.cells #[.int .i64 (2),.int .i64 pt.pos,.string ⟨pt.text.toArray⟩,.slice pvo pvn pvc,.bool tn,.int .i64 d] 136 (0,0))∧ThP K RR R' R5 E' E5 r' r5 j (off+i+1) (d - 1) x' F5 p5 ok))
    case first=>
     have hn:=(show Hid _ from((Below.refl w2.heap.size w2).alloc (Nat.le_refl _) (.cells #[.int .i64 0,.string ⟨#[]⟩,.string ⟨#[]⟩,.string ⟨#[]⟩,.string ⟨#[]⟩,.int .i64 0] 94)).drew)
     go_region_with (go_at_call 40;first
      | (refine Calls.mono (hz.out (w2.alloc (.cells #[.int .i64 0,.string ⟨#[]⟩,.string ⟨#[]⟩,.string ⟨#[]⟩,.string ⟨#[]⟩,.int .i64 0] 94)).drew (Hg.out.kept hn.out Ha.out)) ?_;rintro e w8 ⟨p5,ok,ve5,vS5,E5,R5,r5,F5,rfl,Hm,Hi,Hr⟩;unfold qat qag;have HZ:=(show Hid _ from(Hi.keep _ _ _ _ (heap_alloc_new w2 (.cells #[.int .i64 0,.string ⟨#[]⟩,.string ⟨#[]⟩,.string ⟨#[]⟩,.string ⟨#[]⟩,.int .i64 0] 94)) (by decide)).trans (heap_alloc_new w2 (.cells #[.int .i64 0,.string ⟨#[]⟩,.string ⟨#[]⟩,.string ⟨#[]⟩,.string ⟨#[]⟩,.int .i64 0] 94)));obtain⟨u0,u1,u2,u3,u4,u5⟩:=qau HZ.out;obtain⟨f0,f1,f2,f3,f4,f5⟩:=qdx HZ.out;have HPX:=(show Hid _ from((Hi.keep _ _ _ _ ((heap_alloc_old w2 _ (lta Hl.out)).trans Hl.out) (by decide)).trans ((heap_alloc_old w2 _ (lta Hl.out)).trans Hl.out)));have HMX:=(show Hid _ from(Hg.out.kept hn.out Ha.out).went Hi Hm);have Hk:=hd Hr;clear Hm Hi Hr;dsimp only)
      | (refine Calls.mono (hz.out w2.drew Hg.out.drew) ?_;rintro e w8 ⟨p5,ok,ve5,vS5,E5,R5,r5,F5,rfl,Hm,Hi,Hr⟩;unfold qat qag;have HMX:=hd (Hg.out.drew.went Hi Hm);have HPX:=(show Hid _ from(Hi.keep _ _ _ _ (show w2.drew.heap[PB]?=_ from Hl.out) (by decide)).trans Hl.out);have Hk:=hd Hr;clear Hm Hi Hr;dsimp only))
     all_goals
      go_wp2_with fail
      go_meet
      first
      | exact⟨ok,_,rfl,rfl,p5,ve5,vS5,E5,R5,r5,F5,HMX.out.setFar Ha.out HZ.out HBS.out _ _ _ _ _ _,qg0 HZ.out _ _ _ _ _ _,(qci (by have:=(lta Hl.out);omega) _ _ _ _ _ _).trans HPX.out,Hk.out⟩
      | exact⟨ok,_,rfl,rfl,p5,ve5,vS5,E5,R5,r5,F5,HMX.out.kept (ba _) Ha.out,heap_alloc_new _ _,(heap_alloc_old _ _ (Array.getElem?_eq_some_iff.1 HPX.out).1).trans HPX.out,Hk.out⟩
    case rest=>
    obtain⟨ok,TB,rfl,rfl,h5⟩:=hcut;obtain⟨p5,ve5,vS5,E5,R5,r5,F5,H5,h6,hG,Hr⟩:=h5.out;have Hc:=hd H5;have Hs:=hd hG;have H6:=hd h6;have Hk:=(show Hid (ThP K RR R' R5 E' E5 r' r5 j (off+i+1) (pt.mate - (off+i+1)) x' F5 p5 ok) from by rw[show pt.mate - (off+i+1)=d - 1 by rw[HDD.out];omega];exact Hr);clear q0 q1 q2 q3 q4 q5 q0' q1' q2' q3' q4' q5' c0 c1 c2 c3 c4 c5 c5' ho Hg Hl hz h5 H5 h6 hG Hr hw1 hb1 hb2 hb3 hb4 hb5 hn1 hn2 hne hns;have s2:=qaa Hc.out.wk.blk 2 _ rfl;rcases Hk.out.fault with hf | hf
    rotate_left
    ·have hf':¬(F5.code:Int)=0:=by omega
     have HF:=hd hf;clear hf;obtain⟨q0,q1,q2,q3,q4,q5⟩:=qau Hc.out.spot;obtain⟨r0,r1,r2,r3,r4,r5'⟩:=qau Hc.out.res;obtain⟨f0,f1,f2,f3,f4,f5⟩:=qdx Hc.out.res;go_wp2_with fail
     try rw[hF]
     refine qj7 Ha.out Hc.out (HP.out.secBad hm.out Ho.out H3.out ⟨Hq.out.1,Hq.out.2.1⟩ Hk.out HF.out) ?_ ?_ ?_
     all_goals rfl
    subst hf;rw[show ((Pl.Ft.none.code:Nat):Int)=0 from rfl]at s2;have HRB5:=(show Hid (r5≤1900000000000000000) from by
     have:=HI.out.2;have:=HP.out.le;have:=HP.out.lenE;have:=HP.out.pre.length_le;have:=Hk.out.le;have:=Hk.out.lenE;have:=Hk.out.pre.length_le;have:=Hq.out;have h0:=Hk.out.inv.few;simp only[List.length_nil]at h0;have:=Pl.qff _ _ Hk.out.nod Hk.out.sub;have:=hy.out.1;show _≤_;omega)
    have hS5:=fun W'=>qiq p5 W' (by have:=Hk.out.sp.tag;omega) (by have:=Hk.out.sp.attr;omega) (by have:=Hk.out.sp.inside;omega) (by have:=Hk.out.sp.run;have:=HRB5.out;omega);have hSp:=fun W'=>qiq p' W' (by have:=HP.out.sp.tag;omega) (by have:=HP.out.sp.attr;omega) (by have:=HP.out.sp.inside;omega) (by have:=HP.out.sp.run;have:=HRB.out;omega);unfold qat qag qel qcu at hS5 hSp;have HS5:=hd hS5;have HSp:=hd hSp;clear hS5 hSp;obtain⟨u0,u1,u2,u3,u4,u5⟩:=qau H6.out;go_upto_region 22 with fail
    go_upto_region 23 with (go_at_call 41;refine(HS5.out _).mono ?_;rintro e w6 ⟨rfl,hb⟩;have HB6:=hd hb;clear hb;dsimp only)
    have hn:=hd (HB6.out.alloc HB6.out.size (.cells #[.int .i64 p5.view.mode,.int .i64 p5.view.elem,.int .i64 p5.view.attr,.int .i64 p5.view.ends,.int .i64 p5.view.esc,.int .i64 p5.view.pct,.int .i64 p5.view.link,.string ⟨p5.view.name.toArray⟩,.bool p5.view.ref] 111));have HA:=hd (heap_alloc_new w6 (.cells #[.int .i64 p5.view.mode,.int .i64 p5.view.elem,.int .i64 p5.view.attr,.int .i64 p5.view.ends,.int .i64 p5.view.esc,.int .i64 p5.view.pct,.int .i64 p5.view.link,.string ⟨p5.view.name.toArray⟩,.bool p5.view.ref] 111));generalize World.alloc w6 _=w7 at hn HA ⊢;generalize w6.heap.size=AB at HA ⊢;have HL:=hd (Hc.out.kept hn.out Ha.out);have Ht:=(show Hid _ from(hn.out.block _ (lta Hs.out)).trans Hs.out);clear HB6 hn Hc Hs H6 u0 u1 u2 u3 u4 u5 s2;obtain⟨q0,q1,q2,q3,q4,q5⟩:=qau HL.out.spot;go_upto_region 24 with (go_at_call 41;refine(HSp.out _).mono ?_;rintro e w8 ⟨rfl,hb⟩;have HB8:=hd hb;clear hb;dsimp only)
    have Hu:=hd (HB8.out.alloc HB8.out.size (.cells #[.int .i64 p'.view.mode,.int .i64 p'.view.elem,.int .i64 p'.view.attr,.int .i64 p'.view.ends,.int .i64 p'.view.esc,.int .i64 p'.view.pct,.int .i64 p'.view.link,.string ⟨p'.view.name.toArray⟩,.bool p'.view.ref] 111));have HBN:=hd (heap_alloc_new w8 (.cells #[.int .i64 p'.view.mode,.int .i64 p'.view.elem,.int .i64 p'.view.attr,.int .i64 p'.view.ends,.int .i64 p'.view.esc,.int .i64 p'.view.pct,.int .i64 p'.view.link,.string ⟨p'.view.name.toArray⟩,.bool p'.view.ref] 111));generalize World.alloc w8 _=w9 at Hu HBN ⊢;generalize w8.heap.size=BB at HBN ⊢;have Hz:=hd (HL.out.kept Hu.out Ha.out);have h8:=(show Hid _ from(Hu.out.block _ (lta Ht.out)).trans Ht.out);have HA11:=(show Hid _ from(Hu.out.block _ (Array.getElem?_eq_some_iff.1 HA.out).1).trans HA.out);clear HB8 Hu HL Ht HA q0 q1 q2 q3 q4 q5;obtain⟨c0,c1,c2,c3,c4,c5⟩:=qau h8.out;have hmd:(i:Int)+(d:Int)=((pt.mate - off:Nat):Int):=by have:=Hq.out.1;have:=HDD.out;omega
    have hmd2:pt.mate - off≤2000:=by have:=Hq.out.2.1;omega
    have HMD:=(show Hid (i≤pt.mate - off) by show _≤_;have:=Hq.out.1;omega);have hme:off+(pt.mate - off+1)=pt.mate+1:=by have:=Hq.out.1;omega
    have HME:=hd hme;clear hme;cases ok
    ·have He:=hd (HP.out.sec hm.out Ho.out H3.out Hk.out rfl fun q=>by cases q)
     rw[←HME.out]at He;go_wp2_with fail
     go_meet
     exact⟨pt.mate - off,_,_,_,_,_,_,_,HMD.out,by first | rfl | (congr 1;unfold wrap64;omega),Hz,He⟩
    have hQ:VwFit p5.view:=by
     obtain⟨e,_,h2,_⟩:=Hk.out.th;obtain⟨y,_,h3,h4⟩:=h2 rfl;rw[Pl.qc6 _ _ h4.fit.fit.ok h3];exact qeq h4
    have HQ:VwFit p'.view:=by rw[Pl.qc6 _ _ HP.out.cm.fit.fit.ok HP.out.par];exact qeq HP.out.cm
    obtain⟨a0,a1,a2,a3,a4,a5,a6,a7,a8⟩:=q4q HA11.out;obtain⟨b0,b1,b2,b3,b4,b5,b6,b7,b8⟩:=q4q HBN.out;by_cases hv:p5.view=p'.view
    ·have He:=hd (HP.out.sec hm.out Ho.out H3.out Hk.out rfl fun _=>hv)
     rw[←HME.out]at He;have he1:=fun W'=>qya W' hQ HQ (b:=true) ⟨fun _=>hv,fun _=>rfl⟩;have hgd:=fun W'=>qlt W' p5.view p'.view;have he2:=fun W'=>qjk W' hQ HQ (b:=true) ⟨fun _=>hv,fun _=>rfl⟩;unfold qel qcu at he1 hgd he2;clear hv hQ HQ;go_wp2_with fail
     go_meet
     exact⟨pt.mate - off,_,_,_,_,_,_,_,HMD.out,by first | rfl | (congr 1;unfold wrap64;omega),Hz,He⟩
    have He:=hd (HP.out.branch hm.out Ho.out H3.out ⟨Hq.out.1,Hq.out.2.1⟩ Hk.out rfl hv);rw[←HWH.out]at He;have he1:=fun W'=>qya W' hQ HQ (b:=false) ⟨(fun q=>by cases q),fun q=>absurd q hv⟩;have hgd:=fun W'=>qlt W' p5.view p'.view;have he2:=fun W'=>qjk W' hQ HQ (b:=false) ⟨(fun q=>by cases q),fun q=>absurd q hv⟩;unfold qel qcu at he1 hgd he2;have H2:=hd (fun(W':World) (h:WkAt K W' gw ve5 vS5 E5 R5 Pl.Ft.none)=>qrj K W' gw ve5 vS5 E5 R5 Pl.Ft.none 13 wh pt.pos h);clear hv hQ HQ;go_upto_region 26 with (go_at_call 42;refine Calls.mono (H2.out _ Hz.out.wk) ?_;rintro e w12 ⟨rfl,Hm,Hi⟩;have HB:=hd (Hz.out.went Hi Hm);clear Hm Hi;dsimp only)
    obtain⟨q0,q1,q2,q3,q4,q5⟩:=qau HB.out.spot;obtain⟨r0,r1,r2,r3,r4,r5'⟩:=qau HB.out.res;obtain⟨f0,f1,f2,f3,f4,f5⟩:=qdx HB.out.res;go_wp2_with fail
    try rw[hF]
    refine qj7 Ha.out HB.out He.out ?_ ?_ ?_
    all_goals rfl
   have k6:pt.kind=6:=by have:=Pl.q76 HP.out.wf hm.out Ho.out;omega
   rw[show Pl.qbg pt.kind=4 by rw[k6];rfl]at c0 Hl ⊢;have g0:=qaa Hg.out.wk.blk 0 _ rfl;have HPa:=hd (qwz ⟨pt.text.toArray⟩ Hg.out.drew.wk.at_.tp (by have:=hI.out.six;omega));cases hM:Pl.qca K.nm pt.text
   ·have He:=hd (HP.out.absent hZ.out hm.out Ho.out k6 hM)
    have HID:=(show Hid (Pl.qca (K.N.map fun y=>y.data.toList) (⟨pt.text.toArray⟩:ByteArray).data.toList=none) from hM);have HPn:Hid (Calls Tryz.prog 56 #[.pointer (some ⟨K.g,0,none⟩),.string ⟨pt.text.toArray⟩] w2.drew fun e w'=>e=.returned (.int .i64 (-1))∧w'=w2.drew):=by
     refine Calls.mono HPa.out ?_;rintro e w' ⟨⟨rr,rfl,hrr⟩,hw⟩;rcases hrr with ⟨rfl,_⟩ | ⟨k,_,h⟩
     ·exact⟨rfl,hw⟩
     ·rw[HID.out]at h;cases h
    clear k1 k2 k34 k6 HK hM;go_upto_region 29 with fail
    go_region_with (go_at_call 56;refine Calls.mono HPn.out ?_;rintro e w5 ⟨rfl,rfl⟩;dsimp only)
    all_goals
     go_wp2_with fail
     go_meet
     exact⟨i,_,_,_,_,_,_,_,Nat.le_refl _,rfl,Hg.out.drew,He.out⟩
   next m=>
   have HID:=(show Hid (Pl.qca (K.N.map fun y=>y.data.toList) (⟨pt.text.toArray⟩:ByteArray).data.toList=some m) from hM);have hmN:m<K.N.length:=by have:=qsm hM;unfold Sk.nm at this;rwa [List.length_map]at this
   have hR:=hd hmN;have Hv:=(show Hid (pt.kind=6∧Pl.qca K.nm pt.text=some m) from⟨k6,hM⟩);have HPm:Hid (Calls Tryz.prog 56 #[.pointer (some ⟨K.g,0,none⟩),.string ⟨pt.text.toArray⟩] w2.drew fun e w'=>e=.returned (.int .i64 m)∧w'=w2.drew):=by
    refine Calls.mono HPa.out ?_;rintro e w' ⟨⟨rr,rfl,hrr⟩,hw⟩;rcases hrr with ⟨rfl,h⟩ | ⟨k,rfl,h⟩
    ·rw[HID.out]at h;cases h
    ·rw[HID.out]at h
     injection h with h;exact⟨by rw[h],hw⟩
   clear k1 k2 k34 k6 HK hM;have hS:=fun W'=>qiq p' W' (by have:=HP.out.sp.tag;omega) (by have:=HP.out.sp.attr;omega) (by have:=HP.out.sp.inside;omega) (by have:=HP.out.sp.run;have:=HRB.out;omega);rw[Pl.qc6 _ _ HP.out.cm.fit.fit.ok HP.out.par]at hS;unfold qat qag qel qcu at hS;have HSE:=hd hS;clear hS;have hm0:¬(m:Int)<0:=by omega
   go_upto_region 29 with fail
   go_cut [21] (fun s21 wx=>s21=.int .i64 m∧wx=w2.drew)
   case first=>
    go_region_with (go_at_call 56;refine Calls.mono HPm.out ?_;rintro e w5 ⟨rfl,rfl⟩;dsimp only)
    all_goals
     go_wp2_with fail
     go_meet
     exact⟨rfl,rfl⟩
   case rest=>
   obtain⟨rfl,hwc⟩:=hcut;have HM3:=hd Hg.out.drew;have hC:=(show Hid (w2.drew.heap[PB]?=_) from Hl.out);rw[←hwc]at HM3 hC;clear hwc c0 c1 c2 c3 c4 c5 g0 q0 q1 q2 q3 q4 q5 HPa HPm Hg Hl;obtain⟨q0,q1,q2,q3,q4,q5⟩:=qau HM3.out.spot;go_upto_region 31 with fail
   go_upto_region 32 with (go_at_call 41;refine(HSE.out _).mono ?_;rintro e w5 ⟨rfl,hb⟩;have HB5:=hd hb;clear hb;dsimp only)
   have hn:=hd (HB5.out.alloc HB5.out.size (.cells #[.int .i64 m,.int .i64 x'.view.mode,.int .i64 x'.view.elem,.int .i64 x'.view.attr,.int .i64 x'.view.ends,.int .i64 x'.view.esc,.int .i64 x'.view.pct,.int .i64 x'.view.link,.string ⟨x'.view.name.toArray⟩,.bool x'.view.ref] 143));have HC:=hd (heap_alloc_new w5 (.cells #[.int .i64 m,.int .i64 x'.view.mode,.int .i64 x'.view.elem,.int .i64 x'.view.attr,.int .i64 x'.view.ends,.int .i64 x'.view.esc,.int .i64 x'.view.pct,.int .i64 x'.view.link,.string ⟨x'.view.name.toArray⟩,.bool x'.view.ref] 143));generalize World.alloc w5 _=w6 at hn HC ⊢;generalize w5.heap.size=VB at HC ⊢;have Hb:=hd (HM3.out.kept hn.out Ha.out);have he:=(show Hid _ from(hn.out.block _ (lta hC.out)).trans hC.out);obtain⟨v0,v1,v2,v3,v4,v5,v6,v7,v8,v9⟩:=qb6 HC.out;have s1:=qaa Hb.out.wk.blk 1 _ rfl;clear HB5 hn q0 q1 q2 q3 q4 q5 HM3 hC;have hvi:=fun(W':World) (h:W'.ownsRow K.B 143 10 vS' R'.length (qch R'))=>qj9 K.B vS' R' m x' W' (by have:=Pl.qff _ _ HP.out.nod HP.out.sub;have:=hy.out.1;omega) h (fun u hu=>(hy.out.2.1 u (HP.out.sub u hu)).1) HP.out.cm;unfold qfa at hvi;have HVI:=hd hvi;clear hvi;go_cut [23] (fun s23 wx=>∃b:Bool,s23=.bool b∧Hid ((b=true↔(m,x')∈R')∧Tm K w wx gw ve' vS' E' R' Pl.Ft.none p'∧wx.heap[VB]?=some (.cells #[.int .i64 m,.int .i64 x'.view.mode,.int .i64 x'.view.elem,.int .i64 x'.view.attr,.int .i64 x'.view.ends,.int .i64 x'.view.esc,.int .i64 x'.view.pct,.int .i64 x'.view.link,.string ⟨x'.view.name.toArray⟩,.bool x'.view.ref] 143 (0,0))∧wx.heap[PB]?=some (.cells #[.int .i64 4,.int .i64 pt.pos,.string ⟨pt.text.toArray⟩,.slice pvo pvn pvc,.bool tn,.int .i64 d] 136 (0,0))))
   case first=>
    go_region_with (go_at_call 57;refine Calls.mono (HVI.out _ Hb.out.drew.wk.seen) ?_;rintro e w7 ⟨⟨b,rfl,hb⟩,hbl⟩;have HBI:=hd hb;have HBL:=hd hbl;clear hb hbl;dsimp only)
    all_goals
     go_wp2_with fail
     go_meet
     exact⟨b,rfl,HBI.out,Hb.out.drew.kept HBL.out Ha.out,(HBL.out.block _ (lta HC.out)).trans HC.out,(HBL.out.block _ (lta he.out)).trans he.out⟩
   case rest=>
   obtain⟨b,rfl,HG⟩:=hcut;clear Hb HC he v0 v1 v2 v3 v4 v5 v6 v7 v8 v9 s1 HVI;go_upto_if 142 with fail
   go_cut [] (fun wx=>∃(ve'' vS'':Value) (E'':List Pl.Et) (R'':List Pl.Vt) (r'':Nat),Hid (Tm K w wx gw ve'' vS'' E'' R'' Pl.Ft.none p')∧Hid (Vq K RR R' R'' E' E'' r' r'' m x' Pl.Ft.none))
   case first=>
    cases b
    rotate_left
    ·go_wp2_with fail
     go_meet
     exact⟨_,_,_,_,_,HG.out.2.1,HP.out.old (HG.out.1.1 trivial)⟩
    have Hj:=hd HG.out.2.1;have HC:=hd HG.out.2.2.1;have H8:=hd HG.out.2.2.2;have HNI:=(show Hid ((m,x')∉R') from fun q=>by have:=HG.out.1.2 q;cases this);clear HG;obtain⟨aoS,capS,hvS⟩:=qar Hj.out.wk.seen;subst hvS;have hGl:=(show Hid (gw<wc.heap.size) from(lta Hj.out.wk.blk));have s1:=qaa Hj.out.wk.blk 1 _ rfl;have s1':=fun o=>(qfh wc o ⟨gw,1,none⟩ hGl.out).trans (qaa Hj.out.wk.blk 1 _ rfl);obtain⟨v0,v1,v2,v3,v4,v5,v6,v7,v8,v9⟩:=qb6 HC.out;obtain⟨i0,hi0,hz0,hz1,hz2⟩:=info_parts qy4;have HRL:=(show Hid ((R'++[(m,x')]).length≤256∧(R'++[(m,x')]).Nodup∧∀u∈R'++[(m,x')],u∈RR) from by
     have h1:(R'++[(m,x')]).Nodup:=by
      rw[List.nodup_append];exact⟨HP.out.nod,by simp,fun a ha b hb q=>HNI.out (by rw[List.mem_singleton.1 hb]at q;rw[←q];exact ha)⟩
     have h2:∀u∈R'++[(m,x')],u∈RR:=fun u hu=>(List.mem_append.1 hu).elim (HP.out.sub u) fun z=>by rw[List.mem_singleton.1 z];exact HP.out.names hm.out Hv.out.1 Hv.out.2
     exact⟨Nat.le_trans (Pl.qff _ _ h1 h2) hy.out.1,h1,h2⟩)
    have hR6:R'.length≤255:=by have:=HRL.out.1;rw[List.length_append]at this;simp only[List.length_cons,List.length_nil]at this;omega
    go_upto_region 34 with fail
    go_cut [] (fun wx=>∃vS'',Hid (Tm K w wx gw ve' vS'' E' (R'++[(m,x')]) Pl.Ft.none p'∧wx.heap[PB]?=some (.cells #[.int .i64 4,.int .i64 pt.pos,.string ⟨pt.text.toArray⟩,.slice pvo pvn pvc,.bool tn,.int .i64 d] 136 (0,0))))
    case first=>
     go_region_law (refine qbr rfl (.tmp 147) (.tmp 149) 90 rfl K.B 143 i0 (.agg #[.int .i64 0,.int .i64 0,.int .i64 0,.int .i64 0,.int .i64 0,.int .i64 0,.int .i64 0,.int .i64 0,.string ⟨#[]⟩,.bool false]) 10 88 Tryz.underlying90 hi0 hz0 hz1 hz2 rfl (by decide) (.slice aoS R'.length capS) R'.length _ (by simp[Act.eval]) (World.ownsRow.alloc Hj.out.wk.seen _) ⟨_,0,none⟩ 1 1 [.int .i64 m,.int .i64 x'.view.mode,.int .i64 x'.view.elem,.int .i64 x'.view.attr,.int .i64 x'.view.ends,.int .i64 x'.view.esc,.int .i64 x'.view.pct,.int .i64 x'.view.link,.string ⟨x'.view.name.toArray⟩,.bool x'.view.ref] (by simp[Act.eval]) rfl (qc3 _ _ _) (by intro u hu;simp at hu;rcases hu with rfl | rfl | rfl | rfl | rfl | rfl | rfl | rfl | rfl | rfl<;>rfl) (by unfold maxLen;omega) (by omega) (by simp;have:=Hj.out.lt;have:=Ha.out;omega) ?_;intro v' w6 h9 hgr hloc;obtain⟨g',cap',rfl,_,_⟩:=qaj h9 (by omega);obtain⟨q4,r4⟩:=Hj.out.wk.ahead (ba _).drew hgr)
     all_goals
      go_wp2_with fail
      go_meet
      exact⟨_,Hj.out.more Ha.out (ba _).drew (m,x') h9 hgr hloc,Hj.out.wk.stays (ba _).drew hgr H8.out (by decide) _⟩
    case rest=>
    obtain⟨vS8,HX8⟩:=hcut;have Hf:=hd HX8.out.1;have hD:=hd HX8.out.2;clear HX8 Hj HC H8 s1 s1' v0 v1 v2 v3 v4 v5 v6 v7 v8 v9 hGl;have hm1:m+1≤K.N.length:=hR.out;obtain⟨s2,HR⟩:∃s2,K.S[m+1]?=some s2:=⟨_,List.getElem?_eq_getElem (by rw[hI.out.len];omega)⟩;have hP2:Pl.qab K.S (m+1)=s2.parts:=by unfold Pl.qab;rw[HR]
    have hw2:=hI.out.ok.wf (m+1) s2 HR;have hl2:=(hI.out.ok.parts (m+1) s2 HR).1;have HN:=(Hf.out.wk.at_.tp.row (m+1) s2 HR).1;rw[(Hf.out.wk.at_.tp.row (m+1) s2 HR).2.len]at HN;obtain⟨ao2,cap2,hv2,hV⟩:=qnk HN;rw[←hP2]at hV hl2 hw2;have hz:=hd (fun(W':World) (hW:Tm K w W' gw ve' vS8 E' (R'++[(m,x')]) Pl.Ft.none p')=>HT W' gw ve' vS8 (.slice ao2 (Pl.qab K.S (m+1)).length cap2) ⟨pt.text.toArray⟩ E' (R'++[(m,x')]) r' (m+1) 0 _ x' p' hW.wk hV (q8g hZ.out Hv.out.2).symm hm1 (by rw[Nat.zero_add];exact Nat.le_refl _) (by rw[Nat.zero_add,Pl.q2r];exact hw2) HP.out.inv HP.out.cm HP.out.par HP.out.sp HRL.out.2.2 HRL.out.2.1 (hy.out.2.2 _ (HRL.out.2.2 _ (List.mem_append_right _ List.mem_cons_self))) (Nat.le_trans Ha.out (by have:=hW.lt;omega)) (by rw[List.length_append];simp only[List.length_cons,List.length_nil];have:=HI.out.1;have:=HP.out.pre.length_le;omega) (by rw[List.length_append];simp only[List.length_cons,List.length_nil];have:=HI.out.2;have:=HP.out.le;have:=HP.out.hi;have:=HP.out.lenE;have:=HP.out.pre.length_le;have h0:=HP.out.inv.few;simp only[List.length_nil]at h0;omega));have HVQ:=(show Hid (∀(R5:List Pl.Vt) (E5:List Pl.Et) (r5:Nat) (F5:Pl.Ft) (p5:Pl.Sp) (ok5:Bool),ThP K RR (R'++[(m,x')]) R5 E' E5 r' r5 (m+1) 0 (Pl.qab K.S (m+1)).length x' F5 p5 ok5→Vq K RR R' R5 E' E5 r' r5 m x' F5∧(F5=Pl.Ft.none∨F5.code≠0)) from fun R5 E5 r5 F5 p5 ok5 ht=>⟨Vq.new HNI.out ht hl2,ht.fault⟩);unfold qat qag at hz;obtain⟨bP,capP,hvp,_,_⟩:=qaj Hf.out.wk.at_.tp.parts (by have:=hR.out;omega);obtain⟨nm,hnm⟩:∃y,K.N[m]?=some y:=⟨_,List.getElem?_eq_getElem hR.out⟩;have hp1:=(qhr K.pv K.N 1 m nm hnm).2;rw[Nat.add_comm 1 m]at hp1;have hO:Hid (∀(X:World) (ve9 vS9:Value) (E9:List Pl.Et) (R9:List Pl.Vt) (F9:Pl.Ft),Tm K w X gw ve9 vS9 E9 R9 F9 p'→X.heap[PB]?=some (.cells #[.int .i64 4,.int .i64 pt.pos,.string ⟨pt.text.toArray⟩,.slice pvo pvn pvc,.bool tn,.int .i64 d] 136 (0,0))→X.cell? ⟨gw,0,none⟩=some (.pointer (some ⟨K.g,0,none⟩))∧X.cell? ⟨K.g,1,none⟩=some (.slice (some ⟨bP,0,none⟩) K.N.length capP)∧X.cell? ⟨bP,m*2+1,none⟩=some (.slice ao2 s2.parts.length cap2)∧X.cell? ⟨PB,2,none⟩=some (.string ⟨pt.text.toArray⟩)∧X.cell? ⟨w.heap.size,0,none⟩=some (.int .i64 p'.mode)∧X.cell? ⟨w.heap.size,1,none⟩=some (.string ⟨p'.tag.toArray⟩)∧X.cell? ⟨w.heap.size,2,none⟩=some (.string ⟨p'.attr.toArray⟩)∧X.cell? ⟨w.heap.size,3,none⟩=some (.string ⟨p'.inside.toArray⟩)∧X.cell? ⟨w.heap.size,4,none⟩=some (.string ⟨p'.run.toArray⟩)∧X.cell? ⟨w.heap.size,5,none⟩=some (.int .i64 p'.far)):=fun X ve9 vS9 E9 R9 F9 hX hpX=>by
     obtain⟨q0,q1,q2,q3,q4,q5⟩:=qau hX.spot;have hr:=hX.wk.at_.tp.parts;rw[hvp]at hr;exact⟨qaa hX.wk.blk 0 _ rfl,(qaa hX.wk.at_.tp.blk 1 _ rfl).trans (by rw[hvp]),((hr.cellAt (m*2+1) (by rw[←qgs K.pv K.N 1];exact(List.getElem?_eq_some_iff.1 hp1).1)).trans hp1).trans (by rw[hv2]),qaa hpX 2 _ rfl,q0,q1,q2,q3,q4,q5⟩
    have hnN:(m:Int)<(K.N.length:Int):=by have:=hR.out;omega
    rw[hP2]at hz HVQ;clear hp1 hvp hnm hV HN hl2 hw2 hv2 hP2 HR;go_upto_region 35 with fail
    go_cut [] (fun wx=>∃(ve5 vS5:Value) (E5:List Pl.Et) (R5:List Pl.Vt) (r5:Nat) (F5:Pl.Ft),Hid (Tm K w wx gw ve5 vS5 E5 R5 F5 p')∧Hid (Vq K RR R' R5 E' E5 r' r5 m x' F5∧(F5=Pl.Ft.none∨F5.code≠0)))
    case first=>
     as_aux_lemma=>
     have HSG:Hid (∀(X:World) (ve9 vS9:Value) (E9:List Pl.Et) (R9:List Pl.Vt) (F9:Pl.Ft),Tm K w X gw ve9 vS9 E9 R9 F9 p'→X.heap[PB]?=some (.cells #[.int .i64 4,.int .i64 pt.pos,.string ⟨pt.text.toArray⟩,.slice pvo pvn pvc,.bool tn,.int .i64 d] 136 (0,0))→X.cell? ⟨gw,0,none⟩=some (.pointer (some ⟨K.g,0,none⟩))∧X.cell? ⟨K.g,1,none⟩=some (.slice (some ⟨bP,0,none⟩) K.N.length capP)∧X.cell? ⟨bP,m*2+1,none⟩=some (.slice ao2 s2.parts.length cap2)∧X.cell? ⟨PB,2,none⟩=some (.string ⟨pt.text.toArray⟩)∧X.cell? ⟨w.heap.size,0,none⟩=some (.int .i64 p'.mode)∧X.cell? ⟨w.heap.size,1,none⟩=some (.string ⟨p'.tag.toArray⟩)∧X.cell? ⟨w.heap.size,2,none⟩=some (.string ⟨p'.attr.toArray⟩)∧X.cell? ⟨w.heap.size,3,none⟩=some (.string ⟨p'.inside.toArray⟩)∧X.cell? ⟨w.heap.size,4,none⟩=some (.string ⟨p'.run.toArray⟩)∧X.cell? ⟨w.heap.size,5,none⟩=some (.int .i64 p'.far)):=hO.out;have HS8:=hd (HSG.out wc.drew _ _ _ _ _ Hf.out.drew hD.out);clear hO;go_region_held3 (fun X=>X.cell? ⟨gw,0,none⟩=some (.pointer (some ⟨K.g,0,none⟩))∧X.cell? ⟨K.g,1,none⟩=some (.slice (some ⟨bP,0,none⟩) K.N.length capP)∧X.cell? ⟨bP,m*2+1,none⟩=some (.slice ao2 s2.parts.length cap2)∧X.cell? ⟨PB,2,none⟩=some (.string ⟨pt.text.toArray⟩)∧X.cell? ⟨w.heap.size,0,none⟩=some (.int .i64 p'.mode)∧X.cell? ⟨w.heap.size,1,none⟩=some (.string ⟨p'.tag.toArray⟩)∧X.cell? ⟨w.heap.size,2,none⟩=some (.string ⟨p'.attr.toArray⟩)∧X.cell? ⟨w.heap.size,3,none⟩=some (.string ⟨p'.inside.toArray⟩)∧X.cell? ⟨w.heap.size,4,none⟩=some (.string ⟨p'.run.toArray⟩)∧X.cell? ⟨w.heap.size,5,none⟩=some (.int .i64 p'.far)) (first | assumption | exact HS8.out | exact HSG.out _ _ _ _ _ _ Hc.out Hs.out) ((go_at_call 40;refine Calls.mono (hz.out _ Hf.out.drew) ?_;rintro e w5 ⟨p5,ok5,ve5,vS5,E5,R5,r5,F5,rfl,Hm,Hi,Hr⟩;have Hc:=hd (Hf.out.drew.went Hi Hm);have Hs:=(show Hid _ from(Hi.keep _ _ _ _ (show wc.drew.heap[PB]?=_ from hD.out) (by decide)).trans hD.out);have H9:=hd (HVQ.out _ _ _ _ _ _ Hr);clear Hm Hi Hr;dsimp only))
     all_goals
      go_wp2_with fail
      go_meet
      exact⟨_,_,_,_,_,_,Hc,H9⟩
    case rest=>
    obtain⟨ve5,vS5,E5,R5,r5,F5,Hc,H9⟩:=hcut;clear Hf hD hz HVQ hO hR6;have s2:=qaa Hc.out.wk.blk 2 _ rfl;rcases H9.out.2 with hf | hf
    ·subst hf
     rw[show ((Pl.Ft.none.code:Nat):Int)=0 from rfl]at s2;have HV:=hd H9.out.1;go_wp2_with fail
     go_meet
     exact⟨_,_,_,_,_,Hc,HV⟩
    have hf':¬(F5.code:Int)=0:=by omega
    have HF:=hd hf;clear hf;obtain⟨q0,q1,q2,q3,q4,q5⟩:=qau Hc.out.spot;obtain⟨r0,r1,r2,r3,r4,r5'⟩:=qau Hc.out.res;obtain⟨f0,f1,f2,f3,f4,f5⟩:=qdx Hc.out.res;go_wp2_with fail
    try rw[hF]
    refine qj7 Ha.out Hc.out (HP.out.callBad hZ.out hm.out Ho.out Hv.out.1 Hv.out.2 H9.out.1 HF.out) ?_ ?_ ?_
    all_goals rfl
   case rest=>
   obtain⟨ve'',vS'',E'',R'',r'',Hf,hx⟩:=hcut;clear HG;have hrk:r''+4000000*(429926418001 - E''.length)≤1900000000000000000:=by
    have:=HI.out.2;have:=HP.out.le;have:=HP.out.hi;have:=HP.out.lenE;have:=HP.out.pre.length_le;have:=hx.out.le;have:=hx.out.lenE;have:=hx.out.pre.length_le;have:=Pl.qff _ _ hx.out.nod hx.out.sub;have:=hy.out.1;have h0:=hx.out.inv.few;simp only[List.length_nil]at h0;omega
   have hen:=fun(W':World) (hA:K.at_ W' ve'' E'') (hB:K.B≤W'.heap.size)=>HE W' ve'' (.slice none 0 0) E'' [] m x' p' r'' hA (World.ownsRow_nil _ _ _ _) hx.out.inv HP.out.cm HP.out.par (HP.out.sp.le hx.out.up) hR.out (Pl.qy2 (by have:=hy.out.1;omega) (HP.out.names hm.out Hv.out.1 Hv.out.2) (by show m<6;have:=hR.out;have:=hI.out.six;omega) HP.out.cm.fit.fit.ok.st.name) List.not_mem_nil (fun u hu=>absurd hu List.not_mem_nil) hB (by omega) (by simp only[List.length_nil];omega);unfold qat qag at hen;have HEN:=hd hen;clear hen hrk;go_upto_region 38 with fail
   generalize wc=w9 at Hf ⊢;have hsp9:=(lta Hf.out.spot);have hgw9:=(lta Hf.out.wk.blk);obtain⟨q0,q1,q2,q3,q4,q5⟩:=qau Hf.out.spot;have ho:=hd (fun o=>qau ((heap_alloc_old w9 o hsp9).trans Hf.out.spot));have q0':=fun o=>(ho.out o).1;have q1':=fun o=>(ho.out o).2.1;have q2':=fun o=>(ho.out o).2.2.1;have q3':=fun o=>(ho.out o).2.2.2.1;have q4':=fun o=>(ho.out o).2.2.2.2.1;have q5':=fun o=>(ho.out o).2.2.2.2.2;have s0:=qaa Hf.out.wk.blk 0 _ rfl;have s0':=fun o=>qaa ((heap_alloc_old w9 o hgw9).trans Hf.out.wk.blk) 0 _ rfl;have HBS:=(show Hid (K.B≤w9.heap.size) from Nat.le_trans Ha.out (by have:=Hf.out.lt;omega));have HSL:=(show Hid (w.heap.size+1<w9.heap.size) from Hf.out.lt);clear hsp9 hgw9;go_cut [24,25] (fun s24 s25 wx=>∃(ok:Bool) (TB:Nat),s24=.pointer (some ⟨TB,0,none⟩)∧s25=.bool ok∧Hid (∃p5 ve5 E5 r5,Tm K w wx gw ve5 vS'' E5 R'' Pl.Ft.none p'∧wx.heap[TB]?=some (.cells (qag p5) 94 (0,0))∧Pl.EInv K.bd RR r5 E5 []∧Pl.SpOk r5 p5∧E''.length≤E5.length∧r''≤r5∧r5≤r''+4000000*(E5.length - E''.length)+0∧(ok=true→∃y,Pl.Done K.bd m x' y∧Pl.ParX y p5∧Pl.Cm y)∧(ok=false→∀y,¬Pl.Done K.bd m x' y)))
   case first=>
    as_aux_lemma=>
    have hn:=(show Hid _ from((Below.refl w9.heap.size w9).alloc (Nat.le_refl _) (.cells #[.int .i64 0,.string ⟨#[]⟩,.string ⟨#[]⟩,.string ⟨#[]⟩,.string ⟨#[]⟩,.int .i64 0] 94)).drew);go_wp2_with fail
    go_region_with (go_at_call 58;first
     | (refine Calls.mono (HEN.out (w9.alloc (.cells #[.int .i64 0,.string ⟨#[]⟩,.string ⟨#[]⟩,.string ⟨#[]⟩,.string ⟨#[]⟩,.int .i64 0] 94)).drew (Hf.out.kept hn.out Ha.out).wk.at_ (Nat.le_trans HBS.out hn.out.size)) ?_;rintro e w8 ⟨p5,ok,ve5,E5,r5,rfl,hd⟩;unfold qat qag;have HZ:=(show Hid _ from(hd.ck.keep _ _ _ _ (heap_alloc_new w9 (.cells #[.int .i64 0,.string ⟨#[]⟩,.string ⟨#[]⟩,.string ⟨#[]⟩,.string ⟨#[]⟩,.int .i64 0] 94)) (by decide) (by decide)).trans (heap_alloc_new w9 (.cells #[.int .i64 0,.string ⟨#[]⟩,.string ⟨#[]⟩,.string ⟨#[]⟩,.string ⟨#[]⟩,.int .i64 0] 94)));obtain⟨u0,u1,u2,u3,u4,u5⟩:=qau HZ.out;obtain⟨f0,f1,f2,f3,f4,f5⟩:=qdx HZ.out;have HD:=hd hd;clear hd;dsimp only)
     | (refine Calls.mono (HEN.out w9.drew Hf.out.drew.wk.at_ HBS.out) ?_;rintro e w8 ⟨p5,ok,ve5,E5,r5,rfl,hd⟩;unfold qat qag;have HD:=hd hd;clear hd;dsimp only))
    all_goals
     go_wp2_with fail
     go_meet
     first
     | exact⟨ok,_,rfl,rfl,p5,ve5,E5,r5,(((Hf.out.kept hn.out Ha.out).ended HD.out.ck HD.out.at_).setFar Ha.out HZ.out HSL.out _ _ _ _ _ _),qg0 HZ.out _ _ _ _ _ _,HD.out.inv,HD.out.sp,HD.out.len,HD.out.up,HD.out.le,HD.out.yes,HD.out.no⟩
     | exact⟨ok,_,rfl,rfl,p5,ve5,E5,r5,((Hf.out.drew.ended HD.out.ck HD.out.at_).kept (ba _) Ha.out),heap_alloc_new _ _,HD.out.inv,HD.out.sp,HD.out.len,HD.out.up,HD.out.le,HD.out.yes,HD.out.no⟩
   case rest=>
   obtain⟨ok,TB,rfl,rfl,h5⟩:=hcut;obtain⟨p5,ve5,E5,r5,H5,h6,hl,hE,hp,hU,HU,Hw,hno⟩:=h5.out;have Hc:=hd H5;have HD:=(show Hid (Pl.EInv K.bd RR r5 E5 []∧Pl.SpOk r5 p5∧E''.length≤E5.length∧r''≤r5∧r5≤r''+4000000*(E5.length - E''.length)+0∧(ok=true→∃y,Pl.Done K.bd m x' y∧Pl.ParX y p5∧Pl.Cm y)∧(ok=false→∀y,¬Pl.Done K.bd m x' y)) from⟨hl,hE,hp,hU,HU,Hw,hno⟩);obtain⟨u0,u1,u2,u3,u4,u5⟩:=qau h6;clear q0 q1 q2 q3 q4 q5 q0' q1' q2' q3' q4' q5' s0 s0' ho Hf HEN h5 H5 h6 hl hE hp hU HU Hw hno;obtain⟨q0,q1,q2,q3,q4,q5⟩:=qau Hc.out.spot;cases ok
   ·obtain⟨r0,r1,r2,r3,r4,r5'⟩:=qau Hc.out.res
    obtain⟨f0,f1,f2,f3,f4,f5⟩:=qdx Hc.out.res;go_wp2_with fail
    try rw[hF]
    obtain⟨hl,hE,hp,hU,HU,Hw,hno⟩:=HD.out;refine qj7 Ha.out Hc.out (HP.out.never hZ.out hm.out Ho.out Hv.out.1 Hv.out.2 hx.out rfl (hno trivial) hl hp hU HU) ?_ ?_ ?_
    all_goals rfl
   obtain⟨f0,f1,f2,f3,f4,f5⟩:=qdx Hc.out.spot;go_wp2_with fail
   go_meet
   obtain⟨hl,hE,hp,hU,HU,Hw,hno⟩:=HD.out;obtain⟨y,hy1,hy2,hy3⟩:=Hw trivial;exact⟨i,_,_,_,_,_,_,_,Nat.le_refl _,rfl,Hc.out.set Ha.out p5,HP.out.call hZ.out hm.out Ho.out Hv.out.1 Hv.out.2 hx.out rfl hy1 hy2 hy3 hl hE hp hU HU⟩
  case rest=>
  obtain⟨j',p'',x'',ve'',vS'',E'',R'',r'',hij,rfl,Hg,HP2⟩:=hcut;have hj2:=HP2.out.hi;go_wp2_with fail
  refine⟨⟨j'+1,p'',x'',ve'',vS'',E'',R'',r'',by go_num,Hg,HP2⟩,?_⟩;simp[intOf];omega
end Go.Proofs.YtfkhljmiehdgmaaGreatDoor
