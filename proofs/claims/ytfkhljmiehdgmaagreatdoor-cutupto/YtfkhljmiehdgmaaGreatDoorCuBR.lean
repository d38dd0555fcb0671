/-
  Steps of the proof.
-/
import Derived.Test.YtfkhljmiehdgmaaGreatDoorCuBP
set_option maxRecDepth 100000
set_option maxHeartbeats 40000000
namespace Go.Proofs.YtfkhljmiehdgmaaGreatDoor
open Go.RowKit Go.Proofs.Tryz Pl
def zei:Prop:=∀(s:zT) (w:World),zC 53 #[.string s] w fun e w'=>qlf w s.data.toList e w'
theorem qz3{T:zT}{L:List (zT×zT)}(h:qck L=false):tkF T L=(⟨1,0,[],0⟩,[]):=by unfold tkF;rw[if_pos h]
theorem zh0{w wr:World}{T:zT}{L:List (zT×zT)}{a:Act}(y:wr.heap[w.heap.size]?=zK qq8 31)(D:zW w wr)(I:qck L=false)
  (J:a.tmps.getD 5 undef=zP w.heap.size) (O:a.tmps.getD 4 undef=.pointer none) (z:a.defers=[]) :
  bodyPost prog f32 (qt1 w T L) .ret a (set4 wr w.heap.size (zI 1) (zI 0) (zS) (zI 0)):=
 q39 (f:=⟨1,0,[],0⟩) (qj1 y _ _ _ _) (qim D (yg _) _ _ _ _) (by rw[qz3 I]) J O z (fun h=>by cases h)
theorem q7j(HC:zei)(T:zT)(v:Value)(L:List (zT×zT))(w:World)(hA:qk5 w v L)(hv:∀p∈L,p.1.size<=1000000000) :
  zC 32 #[.string T,v] w fun e w'=>qt1 w T L e w':=by
 have HS:=zH hA;obtain⟨ao,cap,rfl,hn,Hv,hw⟩:=hA;obtain⟨Q,hf⟩:∃Q:Ending->World->Prop,Q=qt1 w T L:=⟨_,rfl⟩;rw[show(fun e w'=>qt1 w T L e w')=Q from hf.symm];have H0:Hid ((w.alloc (.cells qq8 31)).heap[w.heap.size]?=zK qq8 31/\zW w (w.alloc (.cells qq8 31))):=⟨xF w _,zB _⟩;have hT:L.length<=9223372036854775807:=by unfold maxLen at Hv;omega
 have Hw:=zH hw;have hG:=zH hv;clear hn Hv hw hv;unfold qq8 at H0;by_cases h6:6<L.length
 ·have Hx:(L.length:Int) > 6:=by omega
  have HF:Hid (qck L=false):=by show _=_;unfold qck;rw[yx (by omega)];rfl
  go_enter func32,ntmps32
  go_wp2
  try rw[hf]
  exact q39 (f:=⟨1,0,[],0⟩) (xF w _) (zB _) (by rw[qz3 HF.out]) rfl rfl rfl (fun h=>by cases h)
 have Hx:¬(L.length:Int) > 6:=by omega
 go_enter func32,ntmps32
 go_wp2
 generalize World.alloc w _=w1 at H0 |-;have Hj:=(show Hid (w.heap.size<w1.heap.size)from(ya.1 H0.out.1).1);clear Hx;have H6:=zH h6;clear h6;go_loopw [6] (fun i wr=>∃k:Nat,k<=L.length/\i=zI k/\Hid (∀i x,i<k->(qbq L)[i]?=some x->qa4 x=true/\∀j,j<i->(qbq L)[j]?≠some x)/\∃m,wr=w1.drewN m) (fun i _=>L.length - (intOf i).toNat)
 case atStart=>exact⟨0,yH _,rfl,fun i x hi=>absurd hi (yZ _),0,rfl⟩
 case round=>
  obtain⟨k,hk,rfl,HN,m,rfl⟩:=hrel;by_cases Z:k<L.length
  rotate_left
  ·have HT:Hid (qck L=true):=by
    show _=_;unfold qck;rw[yL];refine⟨yV (Nat.le_of_not_lt H6.out),(Pl.qfi _).2 fun i x hx=>HN.out i x (by
     have:=(yb.1 hx).1;unfold qbq at this;simp at this;omega) hx⟩
   have HV:Hid (tkF T L=qa5 (([],T.data.toList)::qau L)):=by show _=_;unfold tkF;rw[if_neg (by rw[HT.out];decide)]
   clear HN HT;have ha:¬(k:Int)<(L.length:Int):=by omega
   have HP:=zH (fun w=>HC T w);have Hy:=zH (qat H0.out.2 m);have Hz:=(show Hid ((w1.drewN m).heap[w.heap.size]?=_)from H0.out.1);go_upto_region 14 with fail
   have H2:Hid ((((w1.drewN m).alloc (.cells #[zN,zN,zN] 101)).heap[w.heap.size]?=zK #[zI 0,zI 0,zS,zI 0] 31)/\((w1.drewN m).alloc (.cells #[zN,zN,zN] 101)).heap[w1.heap.size]?=zK #[zN,zN,zN] 101/\zW w ((w1.drewN m).alloc (.cells #[zN,zN,zN] 101))/\w.heap.size<w1.heap.size):=
    ⟨(xI _ _ Hj.out).trans Hz.out,xF _ _,Hy.out.alloc (yj Hj.out) _,Hj.out⟩
   generalize World.alloc (World.drewN w1 m) _=w2 at H2 |-;generalize w1.heap.size=G at H2 |-;clear HP Hy Hz Hj H0 ha Z;have hP:=HC T;unfold qlf at hP;have U:=zH hP;clear hP;have J:=(show Hid (w.heap.size<w2.heap.size/\G<w2.heap.size)from⟨(ya.1 H2.out.1).1,(ya.1 H2.out.2.1).1⟩);by_cases h0:(qam T.data.toList).1.1=0
   rotate_left
   ·have Ha:Hid ((tkF T L).1=⟨2,(qam T.data.toList).1.1,[],(qam T.data.toList).1.2⟩):=by show _=_;rw[HV.out,qou h0]
    clear HV;generalize (qam T.data.toList).1.1=K at U Ha h0;generalize (qam T.data.toList).1.2=PO at U Ha;have HG:(K:Int) > 0:=by omega
    go_wp2_with (go_at_call 53;refine(U.out _).mono ?_;rintro e w3 ⟨⟨v0,rfl,hL⟩,O⟩;have V:=zH O;have D:=(show Hid _ from(O.block _ J.out.1).trans H2.out.1);have I:=(show Hid _ from(ya.1 D.out).1);have r0:=fun ob=>qaa ((xI w3 ob I.out).trans D.out) 0 _ rfl;have r1:=fun ob=>qaa ((xI w3 ob I.out).trans D.out) 1 _ rfl;have r2:=fun ob=>qaa ((xI w3 ob I.out).trans D.out) 2 _ rfl;have r3:=fun ob=>qaa ((xI w3 ob I.out).trans D.out) 3 _ rfl;have f0:=fun ob=>xH (w3.alloc ob) _ 0 _ _ ((xI w3 ob I.out).trans D.out);have f1:=fun ob=>xH (w3.alloc ob) _ 1 _ _ ((xI w3 ob I.out).trans D.out);have f2:=fun ob=>xH (w3.alloc ob) _ 2 _ _ ((xI w3 ob I.out).trans D.out);have f3:=fun ob=>xH (w3.alloc ob) _ 3 _ _ ((xI w3 ob I.out).trans D.out);clear hL O;dsimp only)
    go_region
    all_goals
     go_wp2
     try rw[hf]
     exact q39 (f:=⟨2,K,[],PO⟩) (qj1 ((xI w3 _ I.out).trans D.out) (zI 2) (zI K) (zS) (zI PO)) ((qim ((H2.out.2.2.1.trans (V.out.mono (yj J.out.1))).alloc (yj I.out) _) (yg _) _ _ _ _).drew) Ha.out rfl rfl rfl (fun h=>nomatch h)
   have Hk:=zH h0;rw[h0]at U;clear h0;go_upto_region 18 with(go_at_call 53;refine(U.out _).mono ?_;rintro e w3 ⟨⟨v0,rfl,hL⟩,O⟩;obtain⟨R0,HA,Hn⟩:=hL rfl;obtain⟨ao0,cap0,rfl⟩:=qaq Hn;have HO:=zH (And.intro HA Hn);have V:=zH O;have hg:=(show Hid _ from(O.block _ J.out.2).trans H2.out.2.1);have hl:=(show Hid _ from(zL hg.out));have t0:=fun ob=>qaa ((xI w3 ob hl.out).trans hg.out) 0 _ rfl;have f0:=fun ob=>xH (w3.alloc ob) _ 0 _ _ ((xI w3 ob hl.out).trans hg.out);clear hL O HA Hn;dsimp only)
   have H3:Hid (TkAt w ((w3.alloc (.cells #[zI 0,zI (qam T.data.toList).1.2] 130)).setCell (zO G 0) (.slice ao0 R0.length cap0)) T L G 0 (fun _=>.slice ao0 R0.length cap0) (fun _=>R0) (zN)):=by
    have hI:G≠w.heap.size:=fun e=>by
     have h1:=H2.out.1;rw[<-e,H2.out.2.1]at h1;injection h1 with h1;injection h1 with _ h2;exact absurd h2 (by decide)
    have hb:=(H2.out.2.2.1.trans (V.out.mono (yj J.out.1))).alloc (o:=.cells #[zI 0,zI (qam T.data.toList).1.2] 130) (yj (yi J.out.1 V.out.size));have Hg:=(V.out.block _ J.out.1).trans H2.out.1;refine⟨(xK _ _ _ _ hI.symm).trans ((xI w3 _ (ya.1 Hg).1).trans Hg),⟨xG _ G 0 _ _ _ ((xI w3 _ hl.out).trans hg.out),yj H2.out.2.2.2,World.ownsRow_nil _ _ _ _,fun i s' hs=>?_⟩,hb.setCell (yj H2.out.2.2.2) _,fun i z hi hz=>?_⟩
    ·cases i with
     |succ i=>simp[tkZ,tkS]at hs
     |zero=>
       have e:s'=⟨[],(qam T.data.toList).2⟩:=(yk hs).symm;subst e;refine⟨qab (qol HO.out.2 (yj J.out.1)) fun q hq=>?_,HO.out.1⟩;have h1:=HO.out.2.lt q hq;exact(xK _ _ _ _ (by have:=J.out.2;show q≠G;omega)).trans (xI w3 _ h1.2)
    ·obtain rfl:i=0:=by omega
     obtain rfl:([],T.data.toList)=z:=yk hz;exact Hk.out
   clear t0 f0 V hg hl HO H2 J Hk;generalize World.setCell _ _ _=w4 at H3 |-;generalize (fun(_:Nat)=>Value.slice ao0 R0.length cap0)=pv0 at H3;generalize (fun(_:Nat)=>R0)=RL0 at H3;obtain⟨i0,hi,HI,hJ,hK⟩:=info_parts q50;go_wp2
   go_loopw [12] (fun i wr=>∃(k:Nat) (pv:Nat->Value) (RL:Nat->List Rm) (vp:Value),k<=L.length/\i=zI k/\Hid (TkAt w wr T L G k pv RL vp)) (fun i _=>L.length - (intOf i).toNat)
   case atStart=>exact⟨0,_,_,_,yH _,rfl,H3.out⟩
   case round=>
    clear H3 U;obtain⟨k,pv,RL,vp,hk,rfl,HK⟩:=hrel;have J:=(show Hid _ from(zL HK.out.res));by_cases Z:k<L.length
    rotate_left
    ·obtain rfl:k=L.length:=by omega
     have HF:Hid ((tkF T L).1=⟨0,0,[],0⟩/\(tkF T L).2=tkS (tkZ T L)):=by
      have:=Pl.qlz (tkZ T L) (fun i z hz=>HK.out.fine i z (by
       have:=(yb.1 hz).1;unfold tkZ qau at this;simp at this;omega) hz)
      rw[HV.out];exact⟨yE Prod.fst this,yE Prod.snd this⟩
     have r0:=qaa HK.out.res 0 _ rfl;have r1:=qaa HK.out.res 1 _ rfl;have r2:=qaa HK.out.res 2 _ rfl;have r3:=qaa HK.out.res 3 _ rfl;have f0:=xH _ _ 0 _ _ HK.out.res;have f1:=xH _ _ 1 _ _ HK.out.res;have f2:=xH _ _ 2 _ _ HK.out.res;have f3:=xH _ _ 3 _ _ HK.out.res;clear HV;go_wp2
     try rw[hf]
     refine q39 (f:=⟨0,0,[],0⟩) (qj1 HK.out.res (zI 0) (zI 0) (zS) (zI 0)) (qim HK.out.below (yg _) _ _ _ _) HF.out.1 rfl rfl rfl (fun _=>⟨G,pv,RL,vp,rfl,?_⟩);have Hb:∀(q:Nat) (cs:Array Value) (t:TypeId) (fz:Nat×Nat),wr.heap[q]?=some (.cells cs t fz)->t≠31->(set4 wr w.heap.size (zI 0) (zI 0) (zS) (zI 0)).heap[q]?=wr.heap[q]?:=fun q cs t fz hq ht=>by
      have Hf:=qae hq HK.out.res ht;exact(xK _ _ _ _ Hf).trans ((xK _ _ _ _ Hf).trans ((xK _ _ _ _ Hf).trans (xK _ _ _ _ Hf)))
     have ht:=HK.out.tp;rw[show(tkZ T L).take (L.length+1)=tkZ T L from yp (by simp[tkZ,qau]),show(L.map (·.1)).take L.length=L.map (·.1)from yp (by simp)]at ht;rw[HF.out.2];refine ht.same (Hb _ _ _ _ ht.blk (by decide)) (fun q hq=>?_) fun i s' q hs hq=>?_
     ·obtain⟨cur,hc⟩:=qac ht.parts q hq
      exact Hb _ _ _ _ hc (by decide)
     ·obtain⟨cur,hc⟩:=qac (ht.row i s' hs).1 q hq
      exact Hb _ _ _ _ hc (by decide)
    obtain⟨b,oO,rfl,hp⟩:=Hw.out (fun e=>by rw[e]at Z;exact absurd Z (yZ _));have hx:L[k]?=some L[k]:=yc Z;have h1:=hp.name k _ hx;have h2:=hp.text k _ hx;have ho:b<w.heap.size:=xO _ _ h1;have Hc:=zH ho;have Hl:=(show Hid (w.cell? (zO b (oO+k*2))=some (.string L[k].1))from h1);have q1:wr.cell? (zO b (oO+k*2+1))=some (.string L[k].2):=(HK.out.below.cell (p:=zO b (oO+k*2+1)) ho).trans h2;have HZ:Hid ((tkZ T L)[k+1]?=some (L[k].1.data.toList,L[k].2.data.toList)):=by show _=_;unfold tkZ qau;rw[yT,yz,hx];rfl
    have hB:=(show Hid (L[k]?=some L[k])from hx);clear hp hx h1 h2 ho;generalize L[k]=X at q1 HZ Hl hB;have ha:(k:Int)<(L.length:Int):=by omega
    have hP:=HC X.2;unfold qlf at hP;have U:=zH hP;clear hP;by_cases h0:(qam X.2.data.toList).1.1=0
    rotate_left
    ·have Ha:Hid ((tkF T L).1=⟨2,(qam X.2.data.toList).1.1,X.1.data.toList,(qam X.2.data.toList).1.2⟩):=by
      show _=_;rw[HV.out,show(([],T.data.toList)::qau L)=tkZ T L from rfl,Pl.qn1 _ (k+1) _ (fun i y hi hy=>HK.out.fine i y hi hy) HZ.out h0]
     generalize (qam X.2.data.toList).1.1=K at U Ha h0;generalize (qam X.2.data.toList).1.2=PO at U Ha;have HG:(K:Int) > 0:=by omega
     clear HV HZ;go_wp2_with (go_at_call 53;refine(U.out _).mono ?_;rintro e w3 ⟨⟨v0,rfl,hL⟩,O⟩;have V:=zH O;have D:=(show Hid _ from(O.block _ J.out).trans HK.out.res);have I:=(show Hid _ from(ya.1 D.out).1);have r0:=fun ob=>qaa ((xI w3 ob I.out).trans D.out) 0 _ rfl;have r1:=fun ob=>qaa ((xI w3 ob I.out).trans D.out) 1 _ rfl;have r2:=fun ob=>qaa ((xI w3 ob I.out).trans D.out) 2 _ rfl;have r3:=fun ob=>qaa ((xI w3 ob I.out).trans D.out) 3 _ rfl;have f0:=fun ob=>xH (w3.alloc ob) _ 0 _ _ ((xI w3 ob I.out).trans D.out);have f1:=fun ob=>xH (w3.alloc ob) _ 1 _ _ ((xI w3 ob I.out).trans D.out);have f2:=fun ob=>xH (w3.alloc ob) _ 2 _ _ ((xI w3 ob I.out).trans D.out);have f3:=fun ob=>xH (w3.alloc ob) _ 3 _ _ ((xI w3 ob I.out).trans D.out);have q2:=fun ob=>(((xL w3.heap.size w3).alloc (yg _) ob).cell (p:=zO b (oO+k*2)) (yi (Nat.lt_trans Hc.out J.out) O.size)).trans ((O.cell (p:=zO b (oO+k*2)) (Nat.lt_trans Hc.out J.out)).trans ((HK.out.below.cell (p:=zO b (oO+k*2)) Hc.out).trans Hl.out));clear hL O;dsimp only)
     go_region
     all_goals
      go_wp2
      try rw[hf]
      exact q39 (f:=⟨2,K,X.1.data.toList,PO⟩) (qj1 ((xI w3 _ I.out).trans D.out) (zI 2) (zI K) (.string X.1) (zI PO)) ((qim ((HK.out.below.trans (V.out.mono (yj J.out))).alloc (yj I.out) _) (yg _) _ _ _ _).drew) Ha.out rfl rfl rfl (fun h=>nomatch h)
    have Hk:=zH h0;rw[h0]at U;clear h0;obtain⟨aoP,capP,rfl⟩:=qaq HK.out.tp.parts;have HB:((L.map (·.1)).take k).length=k:=by rw[yP,yR];omega
    have hm:=zH HB;clear HB;go_upto_region 24 with(go_at_call 53;refine(U.out _).mono ?_;rintro e w3 ⟨⟨v0,rfl,hL⟩,O⟩;obtain⟨R1,hC,Ho⟩:=hL rfl;obtain⟨ao1,cap1,rfl⟩:=qaq Ho;have HO:=zH (And.intro hC Ho);have V:=zH O;clear hL O hC Ho;dsimp only)
    have He:=V.out.alloc (o:=.cells #[zI 0,zI (qam X.2.data.toList).1.2] 130) V.out.size;have HL:=zH He;have H5:Hid (TkAt w (w3.alloc (.cells #[zI 0,zI (qam X.2.data.toList).1.2] 130)) T L G k pv RL (.slice aoP ((L.map (·.1)).take k).length capP)):=⟨(He.block _ J.out).trans HK.out.res,HK.out.tp.kept He,HK.out.below.trans (He.mono (yj J.out)),HK.out.fine⟩;have hD:Hid ((w3.alloc (.cells #[zI 0,zI (qam X.2.data.toList).1.2] 130)).ownsRow w.heap.size 136 6 (.slice ao1 R1.length cap1) R1.length (qd8 R1)):=qol (World.ownsRow.alloc HO.out.2 _) (yj J.out);have hM:=zH HO.out.1;have Hp:(w3.alloc (.cells #[zI 0,zI (qam X.2.data.toList).1.2] 130)).cell? (zO b (oO+k*2))=some (.string X.1):=(He.cell (p:=zO b (oO+k*2)) (Nat.lt_trans Hc.out J.out)).trans ((HK.out.below.cell (p:=zO b (oO+k*2)) Hc.out).trans Hl.out);have Hq:b<(w3.alloc (.cells #[zI 0,zI (qam X.2.data.toList).1.2] 130)).heap.size:=yi (Nat.lt_trans Hc.out J.out) He.size;clear V HO He q1;generalize World.alloc w3 _=w5 at HL H5 hD Hp Hq |-;have HD:=zH Hp;have HM:=zH Hq;have q2:=fun o=>(qgz w5 o (zO b (oO+k*2)) HM.out).trans HD.out;clear Hp Hq Hl Hc;rw[hm.out]at H5;have hr:=H5.out.tp.parts;rw[hm.out]at hr;have Hr:=zH hr;clear hr;have hN:=(zL H5.out.res);have hE:=(show Hid (G<w5.heap.size)from(zL H5.out.tp.blk));have v1:=fun o=>qaa ((xI w5 o hE.out).trans H5.out.tp.blk) 1 _ rfl;have v0:=qaa H5.out.tp.blk 1 _ rfl;have q3:=HD.out;have hU:k<=6:=yh hk (Nat.le_of_not_lt H6.out);go_region_law (refine qa6 rfl (.tmp 104) (.tmp 112) 98 rfl w.heap.size 134 i0 (.agg #[zS,zN]) 2 40 underlying98 hi HI hJ hK q1x (by decide) (.slice aoP k capP) k _ (by simp[Act.eval]) (World.ownsRow.alloc Hr.out _) (zO _ 0) 1 1 [.string X.1,.slice ao1 R1.length cap1] (by simp[Act.eval]) rfl (qcn _ _ _) (by simp[Value.oneCell']) (by unfold maxLen;omega) (by omega) (by simp;omega) ?_;intro v' w6 Hi Hm Hs;obtain⟨g',cap',rfl,_,_⟩:=qai Hi (by omega);obtain⟨q4,r4⟩:=TpAt.ahead H5.out.tp (zB _).drew Hm)
    all_goals
     go_wp2
     have Ht:=((xL w5.heap.size w5).alloc (yg _) (.cells #[.string X.1,.slice ao1 R1.length cap1] 134)).drew;have Hf:(Value.slice (some (zO g' 0)) (k+1) cap').ownBlock≠some G:=by
      intro e;rcases Hs with h|h
      ·rw[e]at h
       obtain⟨cur,hc⟩:=qac Hr.out G h.symm;exact qae H5.out.tp.blk hc qlh rfl
      ·rw[e]at h
       injection h with h;have:=hE.out;simp[World.drew]at h;omega
     have hX:=TpAt.more (n:=X.1) (s:=⟨X.1.data.toList,(qam X.2.data.toList).2⟩) H5.out.tp (by rw[hm.out];unfold tkS;rw[yR,yP];simp[tkZ,qau];omega) Ht hD.out hM.out (by rw[hm.out];exact Hi) Hm Hf;have eS:tkS ((tkZ T L).take (k+1))++[⟨X.1.data.toList,(qam X.2.data.toList).2⟩]=tkS ((tkZ T L).take (k+1+1)):=by
      rw[show(tkZ T L).take (k+1+1)=(tkZ T L).take (k+1)++((tkZ T L)[k+1]?).toList from List.take_add_one,HZ.out];unfold tkS;rw[yG];rfl
     have eN:(L.map (·.1)).take k++[X.1]=(L.map (·.1)).take (k+1):=by
      rw[List.take_add_one,yz,hB.out];rfl
     rw[eS,eN]at hX;refine⟨⟨k+1,_,_,_,by omega,by go_num,⟨?_,hX,?_,fun i z hi hz=>?_⟩⟩,?_⟩
     ·refine(xK _ _ _ _ (qae H5.out.res H5.out.tp.blk (by decide))).trans ((H5.out.tp.apart Ht Hm H5.out.res (by decide)).trans H5.out.res)
     ·exact((H5.out.below.trans (Ht.mono (yj hN))).grown Hm (by simp[World.drew];omega) (fun q hq=>(World.ownsRow.lt Hr.out q hq).1)).setCell H5.out.tp.le _
     ·rcases Nat.lt_or_ge i (k+1)with q | q
      ·exact H5.out.fine i z q hz
      ·obtain rfl:i=k+1:=by omega
       rw[HZ.out]at hz;obtain rfl:=yk hz;exact Hk.out
     ·simp[intOf];omega
  obtain⟨b,oO,rfl,hp⟩:=Hw.out (fun e=>by rw[e]at Z;exact absurd Z (yZ _));have hu:=(show Hid (PoAt w1 b oO L)from⟨fun k x hx=>(H0.out.2.cell (p:=zO b (oO+k*2)) (xO _ _ (hp.name k x hx))).trans (hp.name k x hx),fun k x hx=>(H0.out.2.cell (p:=zO b (oO+k*2+1)) (xO _ _ (hp.text k x hx))).trans (hp.text k x hx)⟩);clear hp;have hx:L[k]?=some L[k]:=yc Z;have HX:=(show Hid (L[k]?=some L[k])from hx);have q0:w1.cell? (zO b (oO+k*2))=some (.string L[k].1):=hu.out.name k _ hx;have hs:L[k].1.size<=1000000000:=hG.out _ (List.getElem_mem Z);have hF:(qbq L)[k]?=some L[k].1.data.toList:=by unfold qbq;simp[hx]
  have Hu:=zH hF;clear hx hF;generalize L[k]=X at q0 HX Hu hs;have ha:(k:Int)<(L.length:Int):=by omega
  go_wp2_with (go_at_call 52;refine cm (qrc X.1 _ hs) ?_)
  clear q0 hs;go_hide hQ
  have HQ:=zH hQ;clear hQ;go_loopw [7,8] (fun ok i wr=>∃(j:Nat) (bb:Bool),j<=k/\i=zI j/\ok=.bool bb/\Hid (bb=true↔(qa4 X.1.data.toList=true/\∀j',j'<j->(qbq L)[j']?≠some X.1.data.toList))/\Hid (∃m',wr=w1.drewN m')) (fun _ i _=>k - (intOf i).toNat)
  case atStart=>exact⟨0,_,yH _,rfl,rfl,⟨fun h=>⟨h,fun j' hj=>absurd hj (yZ _)⟩,fun h=>h.1⟩,m,rfl⟩
  case round=>
   obtain⟨j,bb,hj,rfl,rfl,HJ,HW⟩:=hrel;obtain⟨m',rfl⟩:=HW.out;clear HW;by_cases HU:j<k
   ·have hO:j<L.length:=by omega
    have hy:L[j]?=some L[j]:=yc hO;have HY:=(show Hid (L[j]?=some L[j])from hy);have p0:w1.cell? (zO b (oO+j*2))=some (.string L[j].1):=hu.out.name j _ hy;have p1:w1.cell? (zO b (oO+k*2))=some (.string X.1):=hu.out.name k _ HX.out;clear hy;generalize L[j]=Y at p0 HY;have d1:(j:Int)<(L.length:Int):=by omega
    have d3:(j:Int)<(k:Int):=by omega
    have HE:Hid ((qbq L)[j]?=some X.1.data.toList↔Y.1.toList=X.1.toList):=by
     show _↔_;unfold qbq;rw[yz,HY.out,ByteArray.toList_eq,ByteArray.toList_eq];exact⟨fun e=>by injection e,fun e=>yE some e⟩
    cases bb
    ·go_wp2
     go_quiet (fail)
     go_wp2
     refine⟨⟨j+1,false,by omega,by go_num,rfl,⟨(fun h=>nomatch h),fun h=>HJ.out.2 ⟨h.1,fun j' hR=>h.2 j' (by omega)⟩⟩,m'+nq,rfl⟩,?_⟩;simp[intOf];omega
    ·cases he:Y.1.toList==X.1.toList
     ·have HR:=zH (yf.1 he)
      go_wp2
      go_quiet (fail)
      go_wp2
      refine⟨⟨j+1,true,by omega,by go_num,rfl,⟨fun _=>⟨(HJ.out.1 trivial).1,fun j' hR=>?_⟩,fun _=>rfl⟩,m'+nq,rfl⟩,?_⟩
      ·rcases Nat.lt_or_ge j' j with q | q
       ·exact(HJ.out.1 trivial).2 j' q
       ·rw[show j'=j by omega];exact fun e=>HR.out (HE.out.1 e)
      ·simp[intOf];omega
     ·have hS:=zH (yF.1 he)
      go_wp2
      go_quiet (fail)
      go_wp2
      refine⟨⟨j+1,false,by omega,by go_num,rfl,⟨(fun h=>nomatch h),fun h=>absurd (HE.out.2 hS.out) (h.2 j (by omega))⟩,m'+nq,rfl⟩,?_⟩;simp[intOf];omega
   ·have d3:¬(j:Int)<(k:Int):=by omega
    have e:j=k:=by omega
    subst e;cases bb
    ·have HT:Hid (qck L=false):=by
      show _=_;unfold qck;rw[Bool.and_eq_false_iff];right;rw[ye];intro q;exact absurd (HJ.out.2 ((Pl.qfi _).1 q j _ Hu.out)) (by decide)
     go_wp2
     rw[<-HQ.out];have r0:=qaa H0.out.1 0 _ rfl;have r1:=qaa H0.out.1 1 _ rfl;have r2:=qaa H0.out.1 2 _ rfl;have r3:=qaa H0.out.1 3 _ rfl;have f0:=xH _ _ 0 _ _ H0.out.1;have f1:=xH _ _ 1 _ _ H0.out.1;have f2:=xH _ _ 2 _ _ H0.out.1;have f3:=xH _ _ 3 _ _ H0.out.1;go_wp2
     try rw[hf]
     first
     |exact zh0 (wr:=w1.drewN _) H0.out.1 (qat H0.out.2 _) HT.out rfl rfl rfl
     |exact q39 (f:=⟨1,0,[],0⟩) (qj1 H0.out.1 _ _ _ _) (qat (qim H0.out.2 (yg _) _ _ _ _) _) (by rw[qz3 HT.out]) rfl rfl rfl (fun h=>nomatch h)
    ·go_wp2
     rw[<-HQ.out];go_wp2
     refine⟨⟨j+1,by omega,by go_num,fun i x hi hx=>?_,m',rfl⟩,?_⟩
     ·rcases Nat.lt_or_ge i j with q | q
      ·exact HN.out i x q hx
      ·obtain rfl:i=j:=by omega
       have e:=Hu.out;rw[hx]at e;injection e with e;rw[e];exact HJ.out.1 trivial
     ·simp[intOf];omega
end Go.Proofs.YtfkhljmiehdgmaaGreatDoor
