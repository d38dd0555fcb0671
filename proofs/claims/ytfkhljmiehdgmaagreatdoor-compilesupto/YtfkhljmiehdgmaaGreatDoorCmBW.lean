/-
  Steps of the proof.
-/
import Derived.Test.YtfkhljmiehdgmaaGreatDoorCmBS
set_option maxRecDepth 100000
set_option maxHeartbeats 40000000
namespace Go.Proofs.YtfkhljmiehdgmaaGreatDoor
open Go.RowKit
variable{w wr:World}
def qro(w:World)(T:ByteArray)(L:List (ByteArray×ByteArray))(F:Pl.Ft)(e:Ending)(w':World):Prop:=
 (∃p,e=.returned (.tuple #[p,qku F])/\(F.code≠0->p=.pointer none)/\(F.code=0->∃B g pv RL vp ve,w.heap.size<=B/\p=.pointer (some ⟨g,0,none⟩)/\TpAt w' B g (tkF T L).2 (L.map (·.1)) pv RL vp ve))/\Below w.heap.size w w'
theorem q7e{X:World}{T:ByteArray}{L:List (ByteArray×ByteArray)}{a:Act}{f F:Pl.Ft}{p:Value}(hv:F=f)(hX:X.heap[w.heap.size]?=some (.cells #[.int .i64 f.code,.int .i64 f.kind,bs f.place,.int .i64 f.pos] 31 (0,0)))(hb:Below w.heap.size w X)
  (hp:a.tmps.getD 5 undef=.pointer (some ⟨w.heap.size,0,none⟩)) (h4:a.tmps.getD 4 undef=p) (ha:a.defers=[]) (h0:f.code≠0->p=.pointer none) (hk:f.code=0->∃B g pv RL vp ve,w.heap.size<=B/\p=.pointer (some ⟨g,0,none⟩)/\TpAt X B g (tkF T L).2 (L.map (·.1)) pv RL vp ve) :
  bodyPost Tryz.prog Tryz.f28 (fun e w'=>qro w T L F e w') .ret a X:=by
 subst hv;refine bodyPost_ret (qd4 (cs:=#[.int .i64 F.code,.int .i64 F.kind,bs F.place,.int .i64 F.pos]) Tryz.results28 a.tmps _ w.heap.size _ hp (qaa hX) Tryz.underlying31 rfl qzk) ha ?_;rw[h4];exact⟨⟨p,rfl,h0,hk⟩,hb⟩
structure CdAt(w wr:World):Prop where
 res:wr.heap[w.heap.size]?=some (.cells qm7 31 (0,0))
 below:Below w.heap.size w wr
theorem CdAt.kept{w':World}(h:CdAt w wr){B:Nat}(hb:Below B wr w')(hB:w.heap.size<B):CdAt w w':=⟨(hb.block _ hB).trans h.res,h.below.trans (hb.mono (by omega))⟩
theorem CdAt.cells(h:CdAt w wr):wr.cell? ⟨w.heap.size,0,none⟩=some (.int .i64 0)/\wr.cell? ⟨w.heap.size,1,none⟩=some (.int .i64 0)/\wr.cell? ⟨w.heap.size,2,none⟩=some (.string ⟨#[]⟩)/\wr.cell? ⟨w.heap.size,3,none⟩=some (.int .i64 0)/\wr.frozen? ⟨w.heap.size,0,none⟩=false/\wr.frozen? ⟨w.heap.size,1,none⟩=false/\wr.frozen? ⟨w.heap.size,2,none⟩=false/\wr.frozen? ⟨w.heap.size,3,none⟩=false:=
 ⟨qaa h.res 0 _ rfl,qaa h.res 1 _ rfl,qaa h.res 2 _ rfl,qaa h.res 3 _ rfl,frozen_of_row _ _ 0 _ _ h.res,frozen_of_row _ _ 1 _ _ h.res,frozen_of_row _ _ 2 _ _ h.res,frozen_of_row _ _ 3 _ _ h.res⟩
theorem q62{g q:Nat}(h:q≠g)(v0 v1 v2 v3:Value):(set4 w g v0 v1 v2 v3).heap[q]?=w.heap[q]?:=by
 unfold set4;rw[Below.heap_setCell _ _ _ _ h,Below.heap_setCell _ _ _ _ h,Below.heap_setCell _ _ _ _ h,Below.heap_setCell _ _ _ _ h]
theorem qx5(H8:q5f)(h9:∀(K:Sk) (RR:List Pl.Vt),SkOk K->Pl.nmOf K.S=K.nm->RR.length<=256->(∀u∈RR,Pl.Cm u.2/\u.1<K.N.length)->(∀u∈RR,K.cl RR (u.1+1) 0 u.2)->∀k,WthC K RR k)(T:ByteArray)(v:Value)(L:List (ByteArray×ByteArray))(w:World)(hA:qj2 w v L)(H0:∀p∈L,p.1.size<=1000000000)(Hj:(tkF T L).1.code=0->∃R,q17 (tkF T L).2 (L.map (·.1)) R) :
  Calls Tryz.prog 28 #[.string T,v] w fun e w'=>qro w T L (Pl.qe9 T.data.toList (qaq L)).2 e w':=by
 have hT:=fun W' (hb:Below w.heap.size w W')=>qts H8 T v L W' (hA.kept hb) H0;obtain⟨ao,cap,hv,_⟩:=hA;subst hv;have hC:=@q8c T L;have hl:=fun h=>(@qr4 T L h).1;have Hs:=fun RR R f e=>@q81 T L RR R f e;have hi:(tkF T L).1.code≠0->(Pl.qe9 T.data.toList (qaq L)).2=(tkF T L).1:=fun h=>by rw[q3v,if_pos h]
 obtain⟨F,hF⟩:∃F,F=(Pl.qe9 T.data.toList (qaq L)).2:=⟨_,rfl⟩;rw[<-hF]at Hs hi |-;obtain⟨Q,ho⟩:∃Q:Ending->World->Prop,Q=fun e w'=>qro w T L F e w':=⟨_,rfl⟩;rw[<-ho];obtain⟨Y,hY⟩:∃Y,Y=tkF T L:=⟨_,rfl⟩;have hJ:=hd hY;unfold qpw at hT;rw[<-hY]at hT hC hl Hs hi Hj;clear hF hY;obtain⟨⟨c,kd,pl,ps⟩,S⟩:=Y;simp only at hT hC hl Hs hi Hj;unfold qku bs at hT;have HT:=hd hT;have H9:=hd hC;have HNM:=hd hl;have hD:=hd Hs;have HJ:=hd hi;have HK:=hd Hj;clear hT hC H0 hl Hs hi Hj;have hL:Hid (CdAt w (w.alloc (.cells #[.int .i64 0,.int .i64 0,.string ⟨#[]⟩,.int .i64 0] 31))):=⟨heap_alloc_new w _,ba _⟩;have HL:w.heap.size<(w.alloc (.cells #[.int .i64 0,.int .i64 0,.string ⟨#[]⟩,.int .i64 0] 31)).heap.size:=by simp
 go_enter Tryz.func28,Tryz.ntmps28
 go_upto_region 1 with fail
 generalize World.alloc w _=w0 at hL HL |-;have hM:=hd HL;clear HL;go_upto_region 2 with(go_at_call 32;refine Calls.mono (HT.out _ hL.out.below) ?_;rintro e w1 ⟨⟨p,rfl,hp⟩,hb⟩;have HP:=hd hp;have HB:=hd hb;clear hp hb;dsimp only)
 have Hl:=hd (hL.out.kept (HB.out.alloc (o:=.cells #[.int .i64 c,.int .i64 kd,.string ⟨pl.toArray⟩,.int .i64 ps] 31) HB.out.size) hM.out);have hm:=heap_alloc_new w1 (.cells #[.int .i64 c,.int .i64 kd,.string ⟨pl.toArray⟩,.int .i64 ps] 31);have HX:=(show Hid _ from(Below.refl w1.heap.size w1).alloc (Nat.le_refl _) (.cells #[.int .i64 c,.int .i64 kd,.string ⟨pl.toArray⟩,.int .i64 ps] 31));have HM:Hid (w0.heap.size<=w1.heap.size/\w.heap.size<w1.heap.size):=⟨HB.out.size,Nat.lt_of_lt_of_le hM.out HB.out.size⟩;generalize World.alloc w1 _=w2 at Hl HX hm |-;have HFB:=(show Hid (w.heap.size<w1.heap.size)from HM.out.2);generalize Ht:w1.heap.size=FB at hm HFB HM HX |-;have x0:=qaa hm 0 _ rfl;by_cases hc:c=0
 rotate_left
 ·have hc':¬(c:Int)=0:=by omega
  have HC:=hd hc;have x1:=qaa hm 1 _ rfl;have x2:=qaa hm 2 _ rfl;have x3:=qaa hm 3 _ rfl;obtain⟨z0,z1,z2,z3,y0,y1,y2,y3⟩:=Hl.out.cells;clear hc;go_upto_region 3 with fail
  go_region
  all_goals
   go_wp2_with fail
   try rw[ho]
   exact q7e (f:=⟨c,kd,pl,ps⟩) (p:=.pointer none) (HJ.out HC.out) (qfi Hl.out.res (.int .i64 c) (.int .i64 kd) (.string ⟨pl.toArray⟩) (.int .i64 ps)) (qem Hl.out.below (Nat.le_refl _) (.int .i64 c) (.int .i64 kd) (.string ⟨pl.toArray⟩) (.int .i64 ps)).drew rfl rfl rfl (fun _=>rfl) (fun h=>absurd h HC.out)
 subst hc;obtain⟨g,pv,RL,vp,rfl,H1⟩:=HP.out rfl;obtain⟨h2,H2,HD⟩:=H9.out rfl;obtain⟨RR,hfe⟩:=HK.out rfl;obtain⟨hN,hO,HO,hP⟩:=hfe;have hl:=HNM.out rfl;obtain⟨K,ha⟩:∃K:Sk,K=⟨w0.heap.size,g,S,L.map (·.1),pv,RL,vp⟩:=⟨_,rfl⟩;have hK:SkOk K:=by rw[ha];exact⟨h2,H2,HD⟩
 obtain⟨s0,Hm⟩:∃s0,S[0]?=some s0:=⟨_,List.getElem?_eq_getElem (by omega)⟩;have Ho:Pl.qab K.S 0=s0.parts:=by rw[ha];unfold Pl.qab;simp only[Hm]
 have H3:=(HD.parts 0 s0 Hm).1;have hQ:=HD.wf 0 s0 Hm;have Hk:K.at_ w2 (.slice none 0 0) []:=by rw[ha];exact⟨H1.kept (Ht▸HX.out),World.ownsRow_nil _ _ _ _⟩
 have HQ:=(Hk.tp.row 0 s0 (by rw[ha];exact Hm)).1;rw[(Hk.tp.row 0 s0 (by rw[ha];exact Hm)).2.len]at HQ;obtain⟨ao2,cap2,hE,hR⟩:=qnr HQ;rw[<-Ho]at hR hQ;have HR:K.g=g:=by rw[ha]
 have HE:K.B=w0.heap.size:=by rw[ha]
 have H4:Pl.nmOf K.S=K.nm:=by rw[ha];exact hl
 have H5:Pl.qen K.S 0=[]:=by rw[ha];have:=(@qr4 T L (by rw[<-hJ.out])).2;rw[<-hJ.out]at this;exact this
 have Hu:=h9 K RR hK H4 hN (by rw[ha];exact hO) (by rw[ha];exact hP) 1000000;have Hv:K.cl RR 0 0 Pl.Sx.start:=by rw[ha];exact HO
 have Hc:Hid (WkAt K (w2.alloc (.cells #[.pointer (some ⟨K.g,0,none⟩),.slice none 0 0,.int .i64 0,.int .i64 0,.string ⟨#[]⟩,.int .i64 0] 92)) w2.heap.size (.slice none 0 0) (.slice none 0 0) [] [] Pl.Ft.none):=
  ⟨Hk.kept (ba _),heap_alloc_new _ _,by rw[HE];have:=HX.out.size;have:=HM.out.1;omega,World.ownsRow_nil _ _ _ _⟩
 have Hp:=(show Hid (CdAt w (w2.alloc (.cells #[.pointer (some ⟨K.g,0,none⟩),.slice none 0 0,.int .i64 0,.int .i64 0,.string ⟨#[]⟩,.int .i64 0] 92)))from Hl.out.kept (B:=w2.heap.size) (ba _) (lta Hl.out.res));have HN:=hd (fun(W':World) (hW:WkAt K W' w2.heap.size (.slice none 0 0) (.slice none 0 0) [] [] Pl.Ft.none)=>Hu W' w2.heap.size (.slice none 0 0) (.slice none 0 0) (.slice ao2 (Pl.qab K.S 0).length cap2) ⟨#[]⟩ [] [] 0 0 0 _ Pl.Sx.start Pl.Sp.start hW hR H5.symm (Nat.zero_le _) (by rw[Nat.zero_add];exact Nat.le_refl _) (by rw[Nat.zero_add,Pl.q26];exact hQ) ⟨fun e he=>absurd he List.not_mem_nil,List.nodup_nil,fun u hu=>absurd hu List.not_mem_nil⟩ Pl.qn2 Pl.ql9 (Pl.qjr 0) (fun u hu=>absurd hu List.not_mem_nil) List.nodup_nil Hv (Nat.le_trans hW.le (Nat.le_of_lt (lta hW.blk))) (by rw[Ho];simp;omega) (by rw[Ho];simp;omega));rw[Ho]at HN;unfold qau qag at HN;have h6:=(show Hid (K=⟨w0.heap.size,g,S,L.map (·.1),pv,RL,vp⟩)from ha);have HP0:=hd Ho;have HBK:=hd HE;have HL0:=hd H3;have hw:=(show Hid (q17 S (L.map (·.1)) RR)from⟨hN,hO,HO,hP⟩);rw[HR]at Hc Hp;clear HX hm Ht;go_upto_region 5 with fail
 clear x0;generalize w2.heap.size=gw at Hc HN |-;generalize World.alloc w2 _=w3 at Hc Hp HN |-;have HS:=(lta Hc.out.at_.tp.blk);have c0:=(qaa Hc.out.at_.tp.blk 0 _ rfl).trans (congrArg some hE);have c0':=fun o=>(qaa ((heap_alloc_old w3 o HS).trans Hc.out.at_.tp.blk) 0 _ rfl).trans (congrArg some hE);have c0'':=fun o o'=>(qaa ((heap_alloc_old (w3.alloc o) o' (by simp;omega)).trans ((heap_alloc_old w3 o HS).trans Hc.out.at_.tp.blk)) 0 _ rfl).trans (congrArg some hE);rw[HR]at c0 c0' c0'';have hU:=(show Hid (Below w3.heap.size w3 (w3.alloc (.cells #[.int .i64 1,.string ⟨#[]⟩,.string ⟨#[]⟩,.string ⟨#[]⟩,.string ⟨#[]⟩,.int .i64 0] 94)).drew)from(ba _).drew);have HU:=(show Hid (Below w3.heap.size w3 ((w3.alloc (.cells #[.int .i64 1,.string ⟨#[]⟩,.string ⟨#[]⟩,.string ⟨#[]⟩,.string ⟨#[]⟩,.int .i64 0] 94)).alloc (.cells #[.int .i64 0,.string ⟨#[]⟩,.string ⟨#[]⟩,.string ⟨#[]⟩,.string ⟨#[]⟩,.int .i64 0] 94)).drew)from((ba _).alloc (by simp) _).drew);have hV:=(show Hid (Below w3.heap.size w3 ((w3.alloc (.cells #[.int .i64 0,.string ⟨#[]⟩,.string ⟨#[]⟩,.string ⟨#[]⟩,.string ⟨#[]⟩,.int .i64 0] 94)).alloc (.cells #[.int .i64 1,.string ⟨#[]⟩,.string ⟨#[]⟩,.string ⟨#[]⟩,.string ⟨#[]⟩,.int .i64 0] 94)).drew)from((ba _).alloc (by simp) _).drew);have hj:=(show Hid (w.heap.size<K.B/\K.B<=w3.heap.size)from⟨by rw[HE];exact hM.out,by have:=Hc.out.le;have:=(lta Hc.out.blk);omega⟩);have HS0:=hd Hm;clear hK Ho H3 hQ Hk HQ hR ha HR h2 H2 HD H1 hE HS Hm hN hO HO hP hl H4 H5 Hu Hv HE Hl;go_cut [9,10] (fun s9 s10 wx=>∃(ok:Bool) (TB:Nat),s9=.pointer (some ⟨TB,0,none⟩)/\s10=.bool ok/\Hid (∃p5 ve5 vS5 E5 R5 r5 F5,WkAt K wx gw ve5 vS5 E5 R5 F5/\wx.heap[TB]?=some (.cells (qag p5) 94 (0,0))/\CdAt w wx/\ThP K RR [] R5 [] E5 0 r5 0 0 s0.parts.length Pl.Sx.start F5 p5 ok))
 case first=>
  go_region_with (first
   |(go_at_call 34;refine(qic _).mono ?_;rintro e w4 ⟨rfl,rfl⟩)
   | (go_at_call 40;first
     |(refine Calls.mono (HN.out ((w3.alloc (.cells #[.int .i64 1,.string ⟨#[]⟩,.string ⟨#[]⟩,.string ⟨#[]⟩,.string ⟨#[]⟩,.int .i64 0] 94)).alloc (.cells #[.int .i64 0,.string ⟨#[]⟩,.string ⟨#[]⟩,.string ⟨#[]⟩,.string ⟨#[]⟩,.int .i64 0] 94)).drew (Hc.out.kept HU.out)) ?_;rintro e w5 ⟨p5,ok,ve5,vS5,E5,R5,r5,F5,rfl,Ha,He,Hg⟩;unfold qau qag;have HZ:=(show Hid _ from(He.keep _ _ _ _ (qal (w3.alloc (.cells #[.int .i64 1,.string ⟨#[]⟩,.string ⟨#[]⟩,.string ⟨#[]⟩,.string ⟨#[]⟩,.int .i64 0] 94)) (.cells #[.int .i64 0,.string ⟨#[]⟩,.string ⟨#[]⟩,.string ⟨#[]⟩,.string ⟨#[]⟩,.int .i64 0] 94) (w3.heap.size+1) (by simp)) (by decide)).trans (qal (w3.alloc (.cells #[.int .i64 1,.string ⟨#[]⟩,.string ⟨#[]⟩,.string ⟨#[]⟩,.string ⟨#[]⟩,.int .i64 0] 94)) (.cells #[.int .i64 0,.string ⟨#[]⟩,.string ⟨#[]⟩,.string ⟨#[]⟩,.string ⟨#[]⟩,.int .i64 0] 94) (w3.heap.size+1) (by simp)));obtain⟨u0,u1,u2,u3,u4,u5⟩:=qar HZ.out;obtain⟨f0,f1,f2,f3,f4,f5⟩:=qd0 HZ.out;have hG:=hd Ha;have Hq:=(show Hid _ from(Hp.out.kept (B:=w3.heap.size) HU.out (by have:=hj.out;omega)).kept He.below hj.out.1);have Hb:=hd Hg;clear Ha He Hg;dsimp only)
     |(refine Calls.mono (HN.out ((w3.alloc (.cells #[.int .i64 0,.string ⟨#[]⟩,.string ⟨#[]⟩,.string ⟨#[]⟩,.string ⟨#[]⟩,.int .i64 0] 94)).alloc (.cells #[.int .i64 1,.string ⟨#[]⟩,.string ⟨#[]⟩,.string ⟨#[]⟩,.string ⟨#[]⟩,.int .i64 0] 94)).drew (Hc.out.kept hV.out)) ?_;rintro e w5 ⟨p5,ok,ve5,vS5,E5,R5,r5,F5,rfl,Ha,He,Hg⟩;unfold qau qag;have HZ:=(show Hid _ from(He.keep _ _ _ _ ((heap_alloc_old (w3.alloc (.cells #[.int .i64 0,.string ⟨#[]⟩,.string ⟨#[]⟩,.string ⟨#[]⟩,.string ⟨#[]⟩,.int .i64 0] 94)) (.cells #[.int .i64 1,.string ⟨#[]⟩,.string ⟨#[]⟩,.string ⟨#[]⟩,.string ⟨#[]⟩,.int .i64 0] 94) (by simp)).trans (heap_alloc_new w3 (.cells #[.int .i64 0,.string ⟨#[]⟩,.string ⟨#[]⟩,.string ⟨#[]⟩,.string ⟨#[]⟩,.int .i64 0] 94))) (by decide)).trans ((heap_alloc_old (w3.alloc (.cells #[.int .i64 0,.string ⟨#[]⟩,.string ⟨#[]⟩,.string ⟨#[]⟩,.string ⟨#[]⟩,.int .i64 0] 94)) (.cells #[.int .i64 1,.string ⟨#[]⟩,.string ⟨#[]⟩,.string ⟨#[]⟩,.string ⟨#[]⟩,.int .i64 0] 94) (by simp)).trans (heap_alloc_new w3 (.cells #[.int .i64 0,.string ⟨#[]⟩,.string ⟨#[]⟩,.string ⟨#[]⟩,.string ⟨#[]⟩,.int .i64 0] 94))));obtain⟨u0,u1,u2,u3,u4,u5⟩:=qar HZ.out;obtain⟨f0,f1,f2,f3,f4,f5⟩:=qd0 HZ.out;have hG:=hd Ha;have Hq:=(show Hid _ from(Hp.out.kept (B:=w3.heap.size) hV.out (by have:=hj.out;omega)).kept He.below hj.out.1);have Hb:=hd Hg;clear Ha He Hg;dsimp only)
     | (refine Calls.mono (HN.out (w3.alloc (.cells #[.int .i64 1,.string ⟨#[]⟩,.string ⟨#[]⟩,.string ⟨#[]⟩,.string ⟨#[]⟩,.int .i64 0] 94)).drew (Hc.out.kept hU.out)) ?_;rintro e w5 ⟨p5,ok,ve5,vS5,E5,R5,r5,F5,rfl,Ha,He,Hg⟩;unfold qau qag;have hG:=hd Ha;have Hq:=(show Hid _ from(Hp.out.kept (B:=w3.heap.size) hU.out (by have:=hj.out;omega)).kept He.below hj.out.1);have Hb:=hd Hg;clear Ha He Hg;dsimp only)))
  all_goals
   go_wp2_with fail
   go_meet
   first
   |exact⟨ok,_,rfl,rfl,p5,ve5,vS5,E5,R5,r5,F5,hG.out.set HZ.out _ _ _ _ _ _,qg2 HZ.out _ _ _ _ _ _,⟨(qci (by have:=hj.out;first|omega|(simp;omega)) _ _ _ _ _ _).trans Hq.out.res,qbx Hq.out.below (by have:=hj.out;first|omega|(simp;omega)) _ _ _ _ _ _⟩,Hb.out⟩
   |exact⟨ok,_,rfl,rfl,p5,ve5,vS5,E5,R5,r5,F5,hG.out.kept (ba _),heap_alloc_new _ _,Hq.out.kept (B:=w5.heap.size) (ba _) (lta Hq.out.res),Hb.out⟩
 case rest=>
 obtain⟨ok,TB,rfl,rfl,H6⟩:=hcut;obtain⟨p5,ve5,vS5,E5,R5,r5,F5,Ha,h7,H7,Hg⟩:=H6.out;have HG:=hd Ha;have h8:=hd h7;have Hf:=hd H7;have Hb:=hd Hg;have hn:=(show Hid (∃e,Pl.Th S 0 0 (Pl.qab S 0).length Pl.Sx.start [] R5 F5 e/\(ok=true->∃y,e=some y/\Pl.ParX y p5/\Pl.Cm y)/\(ok=false->e=Option.none)) from by
  have:=Hg.th;rw[<-HP0.out]at this;rw[show K.S=S by rw[h6.out],Nat.zero_add]at this;exact this)
 clear Ha h7 H7 Hg H6 c0 c0' c0'' Hc Hp HN hU HU hV;rcases Hb.out.fault with hf|hf
 rotate_left
 ·have hf':¬(F5.code:Int)=0:=by omega
  have HF:=(show Hid (F5.code≠0/\F=F5)from⟨hf,by obtain⟨e,h1,_⟩:=hn.out;exact(hD.out RR R5 F5 e rfl hw.out h1).1 hf⟩);obtain⟨t0,t1,t2,t3,t4,t5⟩:=qar HG.out.blk;unfold bs at t4;obtain⟨z0,z1,z2,z3,y0,y1,y2,y3⟩:=Hf.out.cells;clear hf;go_upto_region 7 with fail
  go_region
  all_goals
   go_wp2_with fail
   try rw[ho]
   exact q7e (f:=F5) (p:=.pointer none) HF.out.2 (qfi Hf.out.res (.int .i64 F5.code) (.int .i64 F5.kind) (.string ⟨F5.place.toArray⟩) (.int .i64 F5.pos)) (qem Hf.out.below (Nat.le_refl _) (.int .i64 F5.code) (.int .i64 F5.kind) (.string ⟨F5.place.toArray⟩) (.int .i64 F5.pos)).drew rfl rfl rfl (fun _=>rfl) (fun h=>absurd h HF.out.1)
 subst hf;have s2:=qaa HG.out.blk 2 _ rfl;rw[show ((Pl.Ft.none.code:Nat):Int)=0 from rfl]at s2;have HV:=fun W'=>qit p5 W' (by have:=Hb.out.sp.tag;omega) (by have:=Hb.out.sp.attr;omega) (by have:=Hb.out.sp.inside;omega) (by
  have:=Hb.out.sp.run;have:=Hb.out.le;have h0:=Hb.out.inv.few;simp only[List.length_nil]at *;have:=Pl.qfh _ _ Hb.out.nod Hb.out.sub;have:=hw.out.1;have:=HL0.out;omega)
 unfold qau qag qep qcv at HV;have HS5:=hd HV;clear HV;obtain⟨u0,u1,u2,u3,u4,u5⟩:=qar h8.out;go_upto_region 8 with fail
 go_upto_region 9 with(go_at_call 41;refine(HS5.out _).mono ?_;rintro e w6 ⟨rfl,hb⟩;have HW:=hd hb;clear hb;dsimp only)
 have hI:=hd (HW.out.alloc HW.out.size (.cells #[.int .i64 p5.view.mode,.int .i64 p5.view.elem,.int .i64 p5.view.attr,.int .i64 p5.view.ends,.int .i64 p5.view.esc,.int .i64 p5.view.pct,.int .i64 p5.view.link,.string ⟨p5.view.name.toArray⟩,.bool p5.view.ref] 111));have HA:=hd (heap_alloc_new w6 (.cells #[.int .i64 p5.view.mode,.int .i64 p5.view.elem,.int .i64 p5.view.attr,.int .i64 p5.view.ends,.int .i64 p5.view.esc,.int .i64 p5.view.pct,.int .i64 p5.view.link,.string ⟨p5.view.name.toArray⟩,.bool p5.view.ref] 111));generalize World.alloc w6 _=w7 at hI HA |-;generalize w6.heap.size=AB at HA |-;have Hw:=hd (HG.out.kept hI.out);have Hi:=hd (Hf.out.kept hI.out (lta Hf.out.res));clear HW hI h8 HG Hf u0 u1 u2 u3 u4 u5 s2;obtain⟨z0,z1,z2,z3,y0,y1,y2,y3⟩:=Hi.out.cells;have HTK:=(show Hid (∃B g' pv' RL' vp' ve',w.heap.size<=B/\(.pointer (some ⟨g,0,none⟩):Value)=.pointer (some ⟨g',0,none⟩)/\TpAt (set4 w7 w.heap.size (.int .i64 0) (.int .i64 0) (.string ⟨#[]⟩) (.int .i64 0)) B g' (tkF T L).2 (L.map (·.1)) pv' RL' vp' ve') from by
  have hx:∀(q:Nat) (cs:Array Value) (t:TypeId) (fz:Nat×Nat),w7.heap[q]?=some (.cells cs t fz)->t≠31->(set4 w7 w.heap.size (.int .i64 0) (.int .i64 0) (.string ⟨#[]⟩) (.int .i64 0)).heap[q]?=w7.heap[q]?:=fun q cs t fz hq ht=>q62 (qae hq Hi.out.res ht) _ _ _ _;have hX:=h6.out;have a:=Hw.out.at_.tp;have Hx:∀(t:TypeId) (sz n:Nat) (v:Value) (xs:List Value),w7.ownsRow K.B t sz v n xs->t≠31->∀k,v.ownBlock=some k->(set4 w7 w.heap.size (.int .i64 0) (.int .i64 0) (.string ⟨#[]⟩) (.int .i64 0)).heap[k]?=w7.heap[k]?:=fun t sz n v xs hv h1 k hk=>by
   obtain⟨cur,hc⟩:=qad hv k hk;exact hx _ _ _ _ hc h1
  have b:=a.same (hx _ _ _ _ a.blk (by decide)) (Hx _ _ _ _ _ a.parts (by decide)) (fun i s k hs hk=>Hx _ _ _ _ _ (a.row i s hs).1 (by decide) k hk);have hS:K.S=(tkF T L).2:=by rw[hX,<-hJ.out]
  rw[hS]at b;have hNn:K.N=L.map (·.1):=by rw[hX]
  rw[hNn]at b;have hg:K.g=g:=by rw[hX]
  rw[hg]at b;exact⟨K.B,g,_,_,_,_,Nat.le_of_lt hj.out.1,rfl,b⟩)
 have Hy:∀a:Act,a.tmps.getD 5 undef=.pointer (some ⟨w.heap.size,0,none⟩)->a.tmps.getD 4 undef=.pointer (some ⟨g,0,none⟩)->a.defers=[]->F=Pl.Ft.none->bodyPost Tryz.prog Tryz.f28 (fun e w'=>qro w T L F e w') .ret a (set4 w7 w.heap.size (.int .i64 0) (.int .i64 0) (.string ⟨#[]⟩) (.int .i64 0)):=fun a h5 h4 hdx hF=>by
  exact q7e (f:=⟨0,0,[],0⟩) (p:=.pointer (some ⟨g,0,none⟩)) hF (qfi Hi.out.res (.int .i64 0) (.int .i64 0) (.string ⟨#[]⟩) (.int .i64 0)) (qem Hi.out.below (Nat.le_refl _) _ _ _ _) h5 h4 hdx (fun h=>absurd rfl h) (fun _=>HTK.out)
 have hz:=hd Hy;clear Hy;cases ok
 ·have HF:Hid (F=Pl.Ft.none):=by
   obtain⟨e,h1,_,h3⟩:=hn.out;exact((hD.out RR R5 _ e rfl hw.out h1).2 rfl).2 (.inl (h3 rfl))
  go_wp2_with fail
  try rw[ho]
  refine hz.out _ ?_ ?_ ?_ HF.out<;>rfl
 obtain⟨a0,a1,a2,a3,a4,a5,a6,a7,a8⟩:=q45 HA.out;have hr:VwFit Pl.Sx.start.view:=qet Pl.qn2;obtain⟨e,HI,hy,_⟩:=hn.out;obtain⟨y,rfl,HY,Hz⟩:=hy rfl;have hB:p5.view=y.view:=Pl.qc8 _ _ Hz.fit.fit.ok HY;have Hr:VwFit p5.view:=by rw[hB];exact qet Hz
 have hgd:∀(W':World) (o1 o2:Operand),(eqGuard .neq 111 o1 o2 (.agg #[.int .i64 p5.view.mode,.int .i64 p5.view.elem,.int .i64 p5.view.attr,.int .i64 p5.view.ends,.int .i64 p5.view.esc,.int .i64 p5.view.pct,.int .i64 p5.view.link,.string ⟨p5.view.name.toArray⟩,.bool p5.view.ref]) (.agg #[.int .i64 1,.int .i64 0,.int .i64 0,.int .i64 0,.int .i64 0,.int .i64 0,.int .i64 0,.string ⟨#[]⟩,.bool false])).run Tryz.prog W'=.ok () W':=fun W'=>qlz W' p5.view Pl.Sx.start.view;by_cases hv:p5.view=Pl.Sx.start.view
 ·have HF:Hid (F=Pl.Ft.none):=((hD.out RR R5 _ _ rfl hw.out HI).2 rfl).2 (.inr (congrArg some (Pl.qta Hz Pl.qn2 (hB.symm.trans hv))))
  have he1:∀W':World,(binOp .neq 111 (.agg #[.int .i64 p5.view.mode,.int .i64 p5.view.elem,.int .i64 p5.view.attr,.int .i64 p5.view.ends,.int .i64 p5.view.esc,.int .i64 p5.view.pct,.int .i64 p5.view.link,.string ⟨p5.view.name.toArray⟩,.bool p5.view.ref]) (.agg #[.int .i64 1,.int .i64 0,.int .i64 0,.int .i64 0,.int .i64 0,.int .i64 0,.int .i64 0,.string ⟨#[]⟩,.bool false])).run Tryz.prog W'=.ok (.bool false) W':=fun W'=>qym W' Hr hr (b:=true) ⟨fun _=>hv,fun _=>rfl⟩;have he2:∀W':World,(Op.equalIn 10000 111 (.agg #[.int .i64 p5.view.mode,.int .i64 p5.view.elem,.int .i64 p5.view.attr,.int .i64 p5.view.ends,.int .i64 p5.view.esc,.int .i64 p5.view.pct,.int .i64 p5.view.link,.string ⟨p5.view.name.toArray⟩,.bool p5.view.ref]) (.agg #[.int .i64 1,.int .i64 0,.int .i64 0,.int .i64 0,.int .i64 0,.int .i64 0,.int .i64 0,.string ⟨#[]⟩,.bool false])).run Tryz.prog W'=.ok true W':=fun W'=>qjn W' Hr hr (b:=true) ⟨fun _=>hv,fun _=>rfl⟩;clear hv hB Hr hr HI HY Hz;go_wp2_with fail
  try rw[ho]
  refine hz.out _ ?_ ?_ ?_ HF.out<;>rfl
 have HF:Hid (F=⟨3,15,[],T.size⟩):=((hD.out RR R5 _ _ rfl hw.out HI).2 rfl).1 y rfl fun q=>hv (by rw[hB,q]);have he1:∀W':World,(binOp .neq 111 (.agg #[.int .i64 p5.view.mode,.int .i64 p5.view.elem,.int .i64 p5.view.attr,.int .i64 p5.view.ends,.int .i64 p5.view.esc,.int .i64 p5.view.pct,.int .i64 p5.view.link,.string ⟨p5.view.name.toArray⟩,.bool p5.view.ref]) (.agg #[.int .i64 1,.int .i64 0,.int .i64 0,.int .i64 0,.int .i64 0,.int .i64 0,.int .i64 0,.string ⟨#[]⟩,.bool false])).run Tryz.prog W'=.ok (.bool true) W':=fun W'=>qym W' Hr hr (b:=false) ⟨(fun q=>by cases q),fun q=>absurd q hv⟩;have he2:∀W':World,(Op.equalIn 10000 111 (.agg #[.int .i64 p5.view.mode,.int .i64 p5.view.elem,.int .i64 p5.view.attr,.int .i64 p5.view.ends,.int .i64 p5.view.esc,.int .i64 p5.view.pct,.int .i64 p5.view.link,.string ⟨p5.view.name.toArray⟩,.bool p5.view.ref]) (.agg #[.int .i64 1,.int .i64 0,.int .i64 0,.int .i64 0,.int .i64 0,.int .i64 0,.int .i64 0,.string ⟨#[]⟩,.bool false])).run Tryz.prog W'=.ok false W':=fun W'=>qjn W' Hr hr (b:=false) ⟨(fun q=>by cases q),fun q=>absurd q hv⟩;have HWR:=hd (fun(W':World) (h:WkAt K W' gw ve5 vS5 E5 R5 Pl.Ft.none)=>qrr K W' gw ve5 vS5 E5 R5 Pl.Ft.none 15 ⟨#[]⟩ T.size h);clear hv hB Hr hr HI HY Hz;go_upto_region 10 with fail
 go_upto_region 11 with(go_at_call 42;refine Calls.mono (HWR.out _ Hw.out) ?_;rintro e w8 ⟨rfl,Ha,He⟩;have hZ:=hd Ha;have Hn:=hd (Hi.out.kept He.below hj.out.1);clear Ha He;dsimp only)
 clear z0 z1 z2 z3 y0 y1 y2 y3;obtain⟨t0,t1,t2,t3,t4,t5⟩:=qar hZ.out.blk;obtain⟨z0,z1,z2,z3,y0,y1,y2,y3⟩:=Hn.out.cells;have t4':w8.cell? ⟨gw,4,none⟩=some (.string ⟨#[]⟩):=t4;have t2':w8.cell? ⟨gw,2,none⟩=some (.int .i64 3):=t2;clear t4 t2;go_region
 all_goals
  go_wp2_with fail
  try rw[ho]
  exact q7e (f:=⟨3,15,[],T.size⟩) (p:=.pointer none) HF.out (qfi Hn.out.res (.int .i64 3) (.int .i64 15) (.string ⟨#[]⟩) (.int .i64 T.size)) (qem Hn.out.below (Nat.le_refl _) (.int .i64 3) (.int .i64 15) (.string ⟨#[]⟩) (.int .i64 T.size)).drew rfl rfl rfl (fun _=>rfl) (fun h=>nomatch h)
end Go.Proofs.YtfkhljmiehdgmaaGreatDoor
