/-
  Steps of the proof.
-/
import Derived.Test.YtfkhljmiehdgmaaGreatDoorCmBM
set_option maxRecDepth 100000
set_option maxHeartbeats 40000000
namespace Go.Proofs.YtfkhljmiehdgmaaGreatDoor
open Go.RowKit
variable{T:ByteArray}{L:List (ByteArray×ByteArray)}
def q5f:Prop:=∀(s:ByteArray) (w:World),Calls Tryz.prog 53 #[.string s] w fun e w'=>qj9 w s.data.toList e w'
theorem qwj(h:qbq L=false):tkF T L=(⟨1,0,[],0⟩,[]):=by unfold tkF;rw[if_pos h]
theorem za5{w wr:World}{a:Act}(ha:wr.heap[w.heap.size]?=some (.cells qm7 31 (0,0)))(hb:Below w.heap.size w wr)(hf:qbq L=false)
  (hp:a.tmps.getD 5 undef=.pointer (some ⟨w.heap.size,0,none⟩)) (h4:a.tmps.getD 4 undef=.pointer none) (Ha:a.defers=[]) :
  bodyPost Tryz.prog Tryz.f32 (qpw w T L) .ret a (set4 wr w.heap.size (.int .i64 1) (.int .i64 0) (.string ⟨#[]⟩) (.int .i64 0)):=
 qz7 (f:=⟨1,0,[],0⟩) (qfi ha _ _ _ _) (qem hb (Nat.le_refl _) _ _ _ _) (by rw[qwj hf]) hp h4 Ha (fun h=>by cases h)
theorem qts(HC:q5f)(T:ByteArray)(v:Value)(L:List (ByteArray×ByteArray))(w:World)(hA:qj2 w v L)(HA:∀p∈L,p.1.size<=1000000000) :
  Calls Tryz.prog 32 #[.string T,v] w fun e w'=>qpw w T L e w':=by
 have hZ:=hd hA;obtain⟨ao,cap,rfl,Hr,hB,HB⟩:=hA;obtain⟨Q,hl⟩:∃Q:Ending->World->Prop,Q=qpw w T L:=⟨_,rfl⟩;rw[show(fun e w'=>qpw w T L e w')=Q from hl.symm];have H0:Hid ((w.alloc (.cells qm7 31)).heap[w.heap.size]?=some (.cells qm7 31 (0,0))/\Below w.heap.size w (w.alloc (.cells qm7 31))):=⟨heap_alloc_new w _,ba _⟩;have H1:L.length<=9223372036854775807:=by unfold maxLen at hB;omega
 have hC:=hd HB;have hM:=hd HA;clear Hr hB HB HA;unfold qm7 at H0;by_cases h6:6<L.length
 ·have hD:(L.length:Int) > 6:=by omega
  have HF:Hid (qbq L=false):=by show _=_;unfold qbq;rw[decide_eq_false (by omega)];rfl
  go_enter Tryz.func32,Tryz.ntmps32
  go_wp2_with fail
  try rw[hl]
  exact qz7 (f:=⟨1,0,[],0⟩) (heap_alloc_new w _) (ba _) (by rw[qwj HF.out]) rfl rfl rfl (fun h=>by cases h)
 have hD:¬(L.length:Int) > 6:=by omega
 go_enter Tryz.func32,Tryz.ntmps32
 go_wp2_with fail
 generalize World.alloc w _=w1 at H0 |-;have Hn:=(show Hid (w.heap.size<w1.heap.size)from(Array.getElem?_eq_some_iff.1 H0.out.1).1);clear hD;have H6:=hd h6;clear h6;go_loopw [6] (fun i wr=>∃k:Nat,k<=L.length/\i=.int .i64 k/\Hid (∀i x,i<k->(qbh L)[i]?=some x->Pl.qa6 x=true/\∀j,j<i->(qbh L)[j]?≠some x)/\∃m,wr=w1.drewN m) (fun i _=>L.length - (intOf i).toNat)
 case atStart=>exact⟨0,Nat.zero_le _,rfl,fun i x hi=>absurd hi (Nat.not_lt_zero _),0,rfl⟩
 case round=>
  obtain⟨k,hk,rfl,HN,m,rfl⟩:=hrel;by_cases Hf:k<L.length
  rotate_left
  ·have HT:Hid (qbq L=true):=by
    show _=_;unfold qbq;rw[Bool.and_eq_true];refine⟨decide_eq_true (Nat.le_of_not_lt H6.out),(Pl.qe8 _).2 fun i x hx=>HN.out i x (by
     have:=(List.getElem?_eq_some_iff.1 hx).1;unfold qbh at this;simp at this;omega) hx⟩
   have HV:Hid (tkF T L=Pl.qa4 (([],T.data.toList)::qaq L)):=by show _=_;unfold tkF;rw[if_neg (by rw[HT.out];decide)]
   clear HN HT;have hg:¬(k:Int)<(L.length:Int):=by omega
   have HP:=hd (fun w=>HC T w);have HD:=hd (qay H0.out.2 m);have hE:=(show Hid ((w1.drewN m).heap[w.heap.size]?=_)from H0.out.1);go_upto_region 14 with fail
   have H2:Hid ((((w1.drewN m).alloc (.cells #[.slice none 0 0,.slice none 0 0,.slice none 0 0] 101)).heap[w.heap.size]?=some (.cells #[.int .i64 0,.int .i64 0,.string ⟨#[]⟩,.int .i64 0] 31 (0,0)))/\((w1.drewN m).alloc (.cells #[.slice none 0 0,.slice none 0 0,.slice none 0 0] 101)).heap[w1.heap.size]?=some (.cells #[.slice none 0 0,.slice none 0 0,.slice none 0 0] 101 (0,0))/\Below w.heap.size w ((w1.drewN m).alloc (.cells #[.slice none 0 0,.slice none 0 0,.slice none 0 0] 101))/\w.heap.size<w1.heap.size):=
    ⟨(heap_alloc_old _ _ Hn.out).trans hE.out,heap_alloc_new _ _,HD.out.alloc (Nat.le_of_lt Hn.out) _,Hn.out⟩
   generalize World.alloc (World.drewN w1 m) _=w2 at H2 |-;generalize w1.heap.size=G at H2 |-;clear HP HD hE Hn H0 hg Hf;have hP:=HC T;unfold qj9 at hP;have He:=hd hP;clear hP;have Hb:=(show Hid (w.heap.size<w2.heap.size/\G<w2.heap.size)from⟨(Array.getElem?_eq_some_iff.1 H2.out.1).1,(Array.getElem?_eq_some_iff.1 H2.out.2.1).1⟩);by_cases h0:(Pl.qam T.data.toList).1.1=0
   rotate_left
   ·have Hg:Hid ((tkF T L).1=⟨2,(Pl.qam T.data.toList).1.1,[],(Pl.qam T.data.toList).1.2⟩):=by show _=_;rw[HV.out,Pl.qnc h0]
    clear HV;generalize (Pl.qam T.data.toList).1.1=K at He Hg h0;generalize (Pl.qam T.data.toList).1.2=PO at He Hg;have HM:(K:Int) > 0:=by omega
    go_wp2_with (go_at_call 53;refine(He.out _).mono ?_;rintro e w3 ⟨⟨v0,rfl,hL⟩,Hc⟩;have hf:=hd Hc;have ha:=(show Hid _ from(Hc.block _ Hb.out.1).trans H2.out.1);have Ha:=(show Hid _ from(Array.getElem?_eq_some_iff.1 ha.out).1);have r0:=fun ob=>qaa ((heap_alloc_old w3 ob Ha.out).trans ha.out) 0 _ rfl;have r1:=fun ob=>qaa ((heap_alloc_old w3 ob Ha.out).trans ha.out) 1 _ rfl;have r2:=fun ob=>qaa ((heap_alloc_old w3 ob Ha.out).trans ha.out) 2 _ rfl;have r3:=fun ob=>qaa ((heap_alloc_old w3 ob Ha.out).trans ha.out) 3 _ rfl;have f0:=fun ob=>frozen_of_row (w3.alloc ob) _ 0 _ _ ((heap_alloc_old w3 ob Ha.out).trans ha.out);have f1:=fun ob=>frozen_of_row (w3.alloc ob) _ 1 _ _ ((heap_alloc_old w3 ob Ha.out).trans ha.out);have f2:=fun ob=>frozen_of_row (w3.alloc ob) _ 2 _ _ ((heap_alloc_old w3 ob Ha.out).trans ha.out);have f3:=fun ob=>frozen_of_row (w3.alloc ob) _ 3 _ _ ((heap_alloc_old w3 ob Ha.out).trans ha.out);clear hL Hc;dsimp only)
    go_region
    all_goals
     go_wp2_with fail
     try rw[hl]
     exact qz7 (f:=⟨2,K,[],PO⟩) (qfi ((heap_alloc_old w3 _ Ha.out).trans ha.out) (.int .i64 2) (.int .i64 K) (.string ⟨#[]⟩) (.int .i64 PO)) ((qem ((H2.out.2.2.1.trans (hf.out.mono (Nat.le_of_lt Hb.out.1))).alloc (Nat.le_of_lt Ha.out) _) (Nat.le_refl _) _ _ _ _).drew) Hg.out rfl rfl rfl (fun h=>nomatch h)
   have ho:=hd h0;rw[h0]at He;clear h0;go_upto_region 18 with(go_at_call 53;refine(He.out _).mono ?_;rintro e w3 ⟨⟨v0,rfl,hL⟩,Hc⟩;obtain⟨R0,hF,Hs⟩:=hL rfl;obtain⟨ao0,cap0,rfl⟩:=qas Hs;have HO:=hd (And.intro hF Hs);have hf:=hd Hc;have hm:=(show Hid _ from(Hc.block _ Hb.out.2).trans H2.out.2.1);have Ho:=(show Hid _ from(lta hm.out));have t0:=fun ob=>qaa ((heap_alloc_old w3 ob Ho.out).trans hm.out) 0 _ rfl;have f0:=fun ob=>frozen_of_row (w3.alloc ob) _ 0 _ _ ((heap_alloc_old w3 ob Ho.out).trans hm.out);clear hL Hc hF Hs;dsimp only)
   have H3:Hid (TkAt w ((w3.alloc (.cells #[.int .i64 0,.int .i64 (Pl.qam T.data.toList).1.2] 130)).setCell ⟨G,0,none⟩ (.slice ao0 R0.length cap0)) T L G 0 (fun _=>.slice ao0 R0.length cap0) (fun _=>R0) (.slice none 0 0)):=by
    have hN:G≠w.heap.size:=fun e=>by
     have h1:=H2.out.1;rw[<-e,H2.out.2.1]at h1;injection h1 with h1;injection h1 with _ h2;exact absurd h2 (by decide)
    have hb:=(H2.out.2.2.1.trans (hf.out.mono (Nat.le_of_lt Hb.out.1))).alloc (o:=.cells #[.int .i64 0,.int .i64 (Pl.qam T.data.toList).1.2] 130) (Nat.le_of_lt (Nat.lt_of_lt_of_le Hb.out.1 hf.out.size));have Hm:=(hf.out.block _ Hb.out.1).trans H2.out.1;refine⟨(Below.heap_setCell _ _ _ _ hN.symm).trans ((heap_alloc_old w3 _ (Array.getElem?_eq_some_iff.1 Hm).1).trans Hm),⟨heap_setCell_same _ G 0 _ _ _ ((heap_alloc_old w3 _ Ho.out).trans hm.out),Nat.le_of_lt H2.out.2.2.2,World.ownsRow_nil _ _ _ _,fun i s' hs=>?_⟩,hb.setCell (Nat.le_of_lt H2.out.2.2.2) _,fun i z hi hz=>?_⟩
    ·cases i with
     |succ i=>simp[tkZ,tkS]at hs
     |zero=>
       have e:s'=⟨[],(Pl.qam T.data.toList).2⟩:=(Option.some.inj hs).symm;subst e;refine⟨qac (qm5 HO.out.2 (Nat.le_of_lt Hb.out.1)) fun q hq=>?_,HO.out.1⟩;have h1:=HO.out.2.lt q hq;exact(Below.heap_setCell _ _ _ _ (by have:=Hb.out.2;show q≠G;omega)).trans (heap_alloc_old w3 _ h1.2)
    ·obtain rfl:i=0:=by omega
     obtain rfl:([],T.data.toList)=z:=Option.some.inj hz;exact ho.out
   clear t0 f0 hf hm Ho HO H2 Hb ho;generalize World.setCell _ _ _=w4 at H3 |-;generalize (fun(_:Nat)=>Value.slice ao0 R0.length cap0)=pv0 at H3;generalize (fun(_:Nat)=>R0)=RL0 at H3;obtain⟨i0,hi,hO,hR,HR⟩:=info_parts q1j;go_wp2_with fail
   go_loopw [12] (fun i wr=>∃(k:Nat) (pv:Nat->Value) (RL:Nat->List Rm) (vp:Value),k<=L.length/\i=.int .i64 k/\Hid (TkAt w wr T L G k pv RL vp)) (fun i _=>L.length - (intOf i).toNat)
   case atStart=>exact⟨0,_,_,_,Nat.zero_le _,rfl,H3.out⟩
   case round=>
    clear H3 He;obtain⟨k,pv,RL,vp,hk,rfl,HK⟩:=hrel;have Hb:=(show Hid _ from(lta HK.out.res));by_cases Hf:k<L.length
    rotate_left
    ·obtain rfl:k=L.length:=by omega
     have HF:Hid ((tkF T L).1=⟨0,0,[],0⟩/\(tkF T L).2=tkS (tkZ T L)):=by
      have:=Pl.qkw (tkZ T L) (fun i z hz=>HK.out.fine i z (by
       have:=(List.getElem?_eq_some_iff.1 hz).1;unfold tkZ qaq at this;simp at this;omega) hz)
      rw[HV.out];exact⟨congrArg Prod.fst this,congrArg Prod.snd this⟩
     have r0:=qaa HK.out.res 0 _ rfl;have r1:=qaa HK.out.res 1 _ rfl;have r2:=qaa HK.out.res 2 _ rfl;have r3:=qaa HK.out.res 3 _ rfl;have f0:=frozen_of_row _ _ 0 _ _ HK.out.res;have f1:=frozen_of_row _ _ 1 _ _ HK.out.res;have f2:=frozen_of_row _ _ 2 _ _ HK.out.res;have f3:=frozen_of_row _ _ 3 _ _ HK.out.res;clear HV;go_wp2_with fail
     try rw[hl]
     refine qz7 (f:=⟨0,0,[],0⟩) (qfi HK.out.res (.int .i64 0) (.int .i64 0) (.string ⟨#[]⟩) (.int .i64 0)) (qem HK.out.below (Nat.le_refl _) _ _ _ _) HF.out.1 rfl rfl rfl (fun _=>⟨G,pv,RL,vp,rfl,?_⟩);have Hi:∀(q:Nat) (cs:Array Value) (t:TypeId) (fz:Nat×Nat),wr.heap[q]?=some (.cells cs t fz)->t≠31->(set4 wr w.heap.size (.int .i64 0) (.int .i64 0) (.string ⟨#[]⟩) (.int .i64 0)).heap[q]?=wr.heap[q]?:=fun q cs t fz hq ht=>by
      have Hl:=qae hq HK.out.res ht;exact(Below.heap_setCell _ _ _ _ Hl).trans ((Below.heap_setCell _ _ _ _ Hl).trans ((Below.heap_setCell _ _ _ _ Hl).trans (Below.heap_setCell _ _ _ _ Hl)))
     have ht:=HK.out.tp;rw[show(tkZ T L).take (L.length+1)=tkZ T L from List.take_of_length_le (by simp[tkZ,qaq]),show(L.map (·.1)).take L.length=L.map (·.1)from List.take_of_length_le (by simp)]at ht;rw[HF.out.2];refine ht.same (Hi _ _ _ _ ht.blk (by decide)) (fun q hq=>?_) fun i s' q hs hq=>?_
     ·obtain⟨cur,hc⟩:=qad ht.parts q hq
      exact Hi _ _ _ _ hc (by decide)
     ·obtain⟨cur,hc⟩:=qad (ht.row i s' hs).1 q hq
      exact Hi _ _ _ _ hc (by decide)
    obtain⟨b,oO,rfl,hp⟩:=hC.out (fun e=>by rw[e]at Hf;exact absurd Hf (Nat.not_lt_zero _));have hx:L[k]?=some L[k]:=List.getElem?_eq_getElem Hf;have h1:=hp.name k _ hx;have h2:=hp.text k _ hx;have Ht:b<w.heap.size:=World.block_lt_of_cell? _ _ h1;have Hj:=hd Ht;have Hp:=(show Hid (w.cell? ⟨b,oO+k*2,none⟩=some (.string L[k].1))from h1);have q1:wr.cell? ⟨b,oO+k*2+1,none⟩=some (.string L[k].2):=(HK.out.below.cell (p:=⟨b,oO+k*2+1,none⟩) Ht).trans h2;have HZ:Hid ((tkZ T L)[k+1]?=some (L[k].1.data.toList,L[k].2.data.toList)):=by show _=_;unfold tkZ qaq;rw[List.getElem?_cons_succ,List.getElem?_map,hx];rfl
    have hG:=(show Hid (L[k]?=some L[k])from hx);clear hp hx h1 h2 Ht;generalize L[k]=X at q1 HZ Hp hG;have hg:(k:Int)<(L.length:Int):=by omega
    have hP:=HC X.2;unfold qj9 at hP;have He:=hd hP;clear hP;by_cases h0:(Pl.qam X.2.data.toList).1.1=0
    rotate_left
    ·have Hg:Hid ((tkF T L).1=⟨2,(Pl.qam X.2.data.toList).1.1,X.1.data.toList,(Pl.qam X.2.data.toList).1.2⟩):=by
      show _=_;rw[HV.out,show(([],T.data.toList)::qaq L)=tkZ T L from rfl,Pl.qmk _ (k+1) _ (fun i y hi hy=>HK.out.fine i y hi hy) HZ.out h0]
     generalize (Pl.qam X.2.data.toList).1.1=K at He Hg h0;generalize (Pl.qam X.2.data.toList).1.2=PO at He Hg;have HM:(K:Int) > 0:=by omega
     clear HV HZ;go_wp2_with (go_at_call 53;refine(He.out _).mono ?_;rintro e w3 ⟨⟨v0,rfl,hL⟩,Hc⟩;have hf:=hd Hc;have ha:=(show Hid _ from(Hc.block _ Hb.out).trans HK.out.res);have Ha:=(show Hid _ from(Array.getElem?_eq_some_iff.1 ha.out).1);have r0:=fun ob=>qaa ((heap_alloc_old w3 ob Ha.out).trans ha.out) 0 _ rfl;have r1:=fun ob=>qaa ((heap_alloc_old w3 ob Ha.out).trans ha.out) 1 _ rfl;have r2:=fun ob=>qaa ((heap_alloc_old w3 ob Ha.out).trans ha.out) 2 _ rfl;have r3:=fun ob=>qaa ((heap_alloc_old w3 ob Ha.out).trans ha.out) 3 _ rfl;have f0:=fun ob=>frozen_of_row (w3.alloc ob) _ 0 _ _ ((heap_alloc_old w3 ob Ha.out).trans ha.out);have f1:=fun ob=>frozen_of_row (w3.alloc ob) _ 1 _ _ ((heap_alloc_old w3 ob Ha.out).trans ha.out);have f2:=fun ob=>frozen_of_row (w3.alloc ob) _ 2 _ _ ((heap_alloc_old w3 ob Ha.out).trans ha.out);have f3:=fun ob=>frozen_of_row (w3.alloc ob) _ 3 _ _ ((heap_alloc_old w3 ob Ha.out).trans ha.out);have q2:=fun ob=>(((Below.refl w3.heap.size w3).alloc (Nat.le_refl _) ob).cell (p:=⟨b,oO+k*2,none⟩) (Nat.lt_of_lt_of_le (Nat.lt_trans Hj.out Hb.out) Hc.size)).trans ((Hc.cell (p:=⟨b,oO+k*2,none⟩) (Nat.lt_trans Hj.out Hb.out)).trans ((HK.out.below.cell (p:=⟨b,oO+k*2,none⟩) Hj.out).trans Hp.out));clear hL Hc;dsimp only)
     go_region
     all_goals
      go_wp2_with fail
      try rw[hl]
      exact qz7 (f:=⟨2,K,X.1.data.toList,PO⟩) (qfi ((heap_alloc_old w3 _ Ha.out).trans ha.out) (.int .i64 2) (.int .i64 K) (.string X.1) (.int .i64 PO)) ((qem ((HK.out.below.trans (hf.out.mono (Nat.le_of_lt Hb.out))).alloc (Nat.le_of_lt Ha.out) _) (Nat.le_refl _) _ _ _ _).drew) Hg.out rfl rfl rfl (fun h=>nomatch h)
    have ho:=hd h0;rw[h0]at He;clear h0;obtain⟨aoP,capP,rfl⟩:=qas HK.out.tp.parts;have HG:((L.map (·.1)).take k).length=k:=by rw[List.length_take,List.length_map];omega
    have Hq:=hd HG;clear HG;go_upto_region 24 with(go_at_call 53;refine(He.out _).mono ?_;rintro e w3 ⟨⟨v0,rfl,hL⟩,Hc⟩;obtain⟨R1,hI,hu⟩:=hL rfl;obtain⟨ao1,cap1,rfl⟩:=qas hu;have HO:=hd (And.intro hI hu);have hf:=hd Hc;clear hL Hc hI hu;dsimp only)
    have Hk:=hf.out.alloc (o:=.cells #[.int .i64 0,.int .i64 (Pl.qam X.2.data.toList).1.2] 130) hf.out.size;have hS:=hd Hk;have H5:Hid (TkAt w (w3.alloc (.cells #[.int .i64 0,.int .i64 (Pl.qam X.2.data.toList).1.2] 130)) T L G k pv RL (.slice aoP ((L.map (·.1)).take k).length capP)):=⟨(Hk.block _ Hb.out).trans HK.out.res,HK.out.tp.kept Hk,HK.out.below.trans (Hk.mono (Nat.le_of_lt Hb.out)),HK.out.fine⟩;have HI:Hid ((w3.alloc (.cells #[.int .i64 0,.int .i64 (Pl.qam X.2.data.toList).1.2] 130)).ownsRow w.heap.size 136 6 (.slice ao1 R1.length cap1) R1.length (qd6 R1)):=qm5 (World.ownsRow.alloc HO.out.2 _) (Nat.le_of_lt Hb.out);have HS:=hd HO.out.1;have Hu:(w3.alloc (.cells #[.int .i64 0,.int .i64 (Pl.qam X.2.data.toList).1.2] 130)).cell? ⟨b,oO+k*2,none⟩=some (.string X.1):=(Hk.cell (p:=⟨b,oO+k*2,none⟩) (Nat.lt_trans Hj.out Hb.out)).trans ((HK.out.below.cell (p:=⟨b,oO+k*2,none⟩) Hj.out).trans Hp.out);have hv:b<(w3.alloc (.cells #[.int .i64 0,.int .i64 (Pl.qam X.2.data.toList).1.2] 130)).heap.size:=Nat.lt_of_lt_of_le (Nat.lt_trans Hj.out Hb.out) Hk.size;clear hf HO Hk q1;generalize World.alloc w3 _=w5 at hS H5 HI Hu hv |-;have hJ:=hd Hu;have hT:=hd hv;have q2:=fun o=>(qfj w5 o ⟨b,oO+k*2,none⟩ hT.out).trans hJ.out;clear Hu hv Hp Hj;rw[Hq.out]at H5;have Hv:=H5.out.tp.parts;rw[Hq.out]at Hv;have hw:=hd Hv;clear Hv;have hU:=(lta H5.out.res);have hK:=(show Hid (G<w5.heap.size)from(lta H5.out.tp.blk));have v1:=fun o=>qaa ((heap_alloc_old w5 o hK.out).trans H5.out.tp.blk) 1 _ rfl;have v0:=qaa H5.out.tp.blk 1 _ rfl;have q3:=hJ.out;have h3:k<=6:=Nat.le_trans hk (Nat.le_of_not_lt H6.out);go_region_law (refine qbr rfl (.tmp 104) (.tmp 112) 98 rfl w.heap.size 134 i0 (.agg #[.string ⟨#[]⟩,.slice none 0 0]) 2 40 Tryz.underlying98 hi hO hR HR qx2 (by decide) (.slice aoP k capP) k _ (by simp[Act.eval]) (World.ownsRow.alloc hw.out _) ⟨_,0,none⟩ 1 1 [.string X.1,.slice ao1 R1.length cap1] (by simp[Act.eval]) rfl (qc5 _ _ _) (by simp[Value.oneCell']) (by unfold maxLen;omega) (by omega) (by simp;omega) ?_;intro v' w6 hn hr Hw;obtain⟨g',cap',rfl,_,_⟩:=qaj hn (by omega);obtain⟨q4,r4⟩:=TpAt.ahead H5.out.tp (ba _).drew hr)
    all_goals
     go_wp2_with fail
     have Hx:=((Below.refl w5.heap.size w5).alloc (Nat.le_refl _) (.cells #[.string X.1,.slice ao1 R1.length cap1] 134)).drew;have Hl:(Value.slice (some ⟨g',0,none⟩) (k+1) cap').ownBlock≠some G:=by
      intro e;rcases Hw with h|h
      ·rw[e]at h
       obtain⟨cur,hc⟩:=qad hw.out G h.symm;exact qae H5.out.tp.blk hc qkd rfl
      ·rw[e]at h
       injection h with h;have:=hK.out;simp[World.drew]at h;omega
     have hX:=TpAt.more (n:=X.1) (s:=⟨X.1.data.toList,(Pl.qam X.2.data.toList).2⟩) H5.out.tp (by rw[Hq.out];unfold tkS;rw[List.length_map,List.length_take];simp[tkZ,qaq];omega) Hx HI.out HS.out (by rw[Hq.out];exact hn) hr Hl;have eS:tkS ((tkZ T L).take (k+1))++[⟨X.1.data.toList,(Pl.qam X.2.data.toList).2⟩]=tkS ((tkZ T L).take (k+1+1)):=by
      rw[show(tkZ T L).take (k+1+1)=(tkZ T L).take (k+1)++((tkZ T L)[k+1]?).toList from List.take_add_one,HZ.out];unfold tkS;rw[List.map_append];rfl
     have eN:(L.map (·.1)).take k++[X.1]=(L.map (·.1)).take (k+1):=by
      rw[List.take_add_one,List.getElem?_map,hG.out];rfl
     rw[eS,eN]at hX;refine⟨⟨k+1,_,_,_,by omega,by go_num,⟨?_,hX,?_,fun i z hi hz=>?_⟩⟩,?_⟩
     ·refine(Below.heap_setCell _ _ _ _ (qae H5.out.res H5.out.tp.blk (by decide))).trans ((H5.out.tp.apart Hx hr H5.out.res (by decide)).trans H5.out.res)
     ·exact((H5.out.below.trans (Hx.mono (Nat.le_of_lt hU))).grown hr (by simp[World.drew];omega) (fun q hq=>(World.ownsRow.lt hw.out q hq).1)).setCell H5.out.tp.le _
     ·rcases Nat.lt_or_ge i (k+1)with q | q
      ·exact H5.out.fine i z q hz
      ·obtain rfl:i=k+1:=by omega
       rw[HZ.out]at hz;obtain rfl:=Option.some.inj hz;exact ho.out
     ·simp[intOf];omega
  obtain⟨b,oO,rfl,hp⟩:=hC.out (fun e=>by rw[e]at Hf;exact absurd Hf (Nat.not_lt_zero _));have Hy:=(show Hid (PoAt w1 b oO L)from⟨fun k x hx=>(H0.out.2.cell (p:=⟨b,oO+k*2,none⟩) (World.block_lt_of_cell? _ _ (hp.name k x hx))).trans (hp.name k x hx),fun k x hx=>(H0.out.2.cell (p:=⟨b,oO+k*2+1,none⟩) (World.block_lt_of_cell? _ _ (hp.text k x hx))).trans (hp.text k x hx)⟩);clear hp;have hx:L[k]?=some L[k]:=List.getElem?_eq_getElem Hf;have HX:=(show Hid (L[k]?=some L[k])from hx);have q0:w1.cell? ⟨b,oO+k*2,none⟩=some (.string L[k].1):=Hy.out.name k _ hx;have hs:L[k].1.size<=1000000000:=hM.out _ (List.getElem_mem Hf);have HL:(qbh L)[k]?=some L[k].1.data.toList:=by unfold qbh;simp[hx]
  have Hz:=hd HL;clear hx HL;generalize L[k]=X at q0 HX Hz hs;have hg:(k:Int)<(L.length:Int):=by omega
  go_wp2_with (go_at_call 52;refine(qpg X.1 _ hs).mono ?_;rintro e w' ⟨rfl,rfl⟩)
  clear q0 hs;go_hide hQ
  have HQ:=hd hQ;clear hQ;go_loopw [7,8] (fun ok i wr=>∃(j:Nat) (bb:Bool),j<=k/\i=.int .i64 j/\ok=.bool bb/\Hid (bb=true↔(Pl.qa6 X.1.data.toList=true/\∀j',j'<j->(qbh L)[j']?≠some X.1.data.toList))/\Hid (∃m',wr=w1.drewN m')) (fun _ i _=>k - (intOf i).toNat)
  case atStart=>exact⟨0,_,Nat.zero_le _,rfl,rfl,⟨fun h=>⟨h,fun j' hj=>absurd hj (Nat.not_lt_zero _)⟩,fun h=>h.1⟩,m,rfl⟩
  case round=>
   obtain⟨j,bb,hj,rfl,rfl,HJ,HW⟩:=hrel;obtain⟨m',rfl⟩:=HW.out;clear HW;by_cases h4:j<k
   ·have HU:j<L.length:=by omega
    have hy:L[j]?=some L[j]:=List.getElem?_eq_getElem HU;have HY:=(show Hid (L[j]?=some L[j])from hy);have p0:w1.cell? ⟨b,oO+j*2,none⟩=some (.string L[j].1):=Hy.out.name j _ hy;have p1:w1.cell? ⟨b,oO+k*2,none⟩=some (.string X.1):=Hy.out.name k _ HX.out;clear hy;generalize L[j]=Y at p0 HY;have d1:(j:Int)<(L.length:Int):=by omega
    have d3:(j:Int)<(k:Int):=by omega
    have HE:Hid ((qbh L)[j]?=some X.1.data.toList↔Y.1.toList=X.1.toList):=by
     show _↔_;unfold qbh;rw[List.getElem?_map,HY.out,ByteArray.toList_eq,ByteArray.toList_eq];exact⟨fun e=>by injection e,fun e=>congrArg some e⟩
    cases bb
    ·go_wp2_with fail
     go_quiet (fail)
     go_wp2_with fail
     refine⟨⟨j+1,false,by omega,by go_num,rfl,⟨(fun h=>nomatch h),fun h=>HJ.out.2 ⟨h.1,fun j' hV=>h.2 j' (by omega)⟩⟩,m'+nq,rfl⟩,?_⟩;simp[intOf];omega
    ·cases he:Y.1.toList==X.1.toList
     ·have hW:=hd (beq_eq_false_iff_ne.1 he)
      go_wp2_with fail
      go_quiet (fail)
      go_wp2_with fail
      refine⟨⟨j+1,true,by omega,by go_num,rfl,⟨fun _=>⟨(HJ.out.1 trivial).1,fun j' hV=>?_⟩,fun _=>rfl⟩,m'+nq,rfl⟩,?_⟩
      ·rcases Nat.lt_or_ge j' j with q | q
       ·exact(HJ.out.1 trivial).2 j' q
       ·rw[show j'=j by omega];exact fun e=>hW.out (HE.out.1 e)
      ·simp[intOf];omega
     ·have hY:=hd (beq_iff_eq.1 he)
      go_wp2_with fail
      go_quiet (fail)
      go_wp2_with fail
      refine⟨⟨j+1,false,by omega,by go_num,rfl,⟨(fun h=>nomatch h),fun h=>absurd (HE.out.2 hY.out) (h.2 j (by omega))⟩,m'+nq,rfl⟩,?_⟩;simp[intOf];omega
   ·have d3:¬(j:Int)<(k:Int):=by omega
    have e:j=k:=by omega
    subst e;cases bb
    ·have HT:Hid (qbq L=false):=by
      show _=_;unfold qbq;rw[Bool.and_eq_false_iff];right;rw[Bool.eq_false_iff];intro q;exact absurd (HJ.out.2 ((Pl.qe8 _).1 q j _ Hz.out)) (by decide)
     go_wp2_with fail
     rw[<-HQ.out];have r0:=qaa H0.out.1 0 _ rfl;have r1:=qaa H0.out.1 1 _ rfl;have r2:=qaa H0.out.1 2 _ rfl;have r3:=qaa H0.out.1 3 _ rfl;have f0:=frozen_of_row _ _ 0 _ _ H0.out.1;have f1:=frozen_of_row _ _ 1 _ _ H0.out.1;have f2:=frozen_of_row _ _ 2 _ _ H0.out.1;have f3:=frozen_of_row _ _ 3 _ _ H0.out.1;go_wp2_with fail
     try rw[hl]
     first
     |exact za5 (wr:=w1.drewN _) H0.out.1 (qay H0.out.2 _) HT.out rfl rfl rfl
     |exact qz7 (f:=⟨1,0,[],0⟩) (qfi H0.out.1 _ _ _ _) (qay (qem H0.out.2 (Nat.le_refl _) _ _ _ _) _) (by rw[qwj HT.out]) rfl rfl rfl (fun h=>nomatch h)
    ·go_wp2_with fail
     rw[<-HQ.out];go_wp2_with fail
     refine⟨⟨j+1,by omega,by go_num,fun i x hi hx=>?_,m',rfl⟩,?_⟩
     ·rcases Nat.lt_or_ge i j with q | q
      ·exact HN.out i x q hx
      ·obtain rfl:i=j:=by omega
       have e:=Hz.out;rw[hx]at e;injection e with e;rw[e];exact HJ.out.1 trivial
     ·simp[intOf];omega
end Go.Proofs.YtfkhljmiehdgmaaGreatDoor
