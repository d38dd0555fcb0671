/-
  Steps of the proof.
-/
import Derived.Outline
import Derived.Deep.DeepCutAuto
import Derived.Deep.CutBlock
import Derived.Test.YtfkhljmiehdgmaaGreatDoorCmAK
set_option maxRecDepth 100000
set_option maxHeartbeats 40000000
namespace Go.Proofs.YtfkhljmiehdgmaaGreatDoor
open Go.RowKit
def set9(w:World)(g:Nat)(v0 v1 v2 v3 v4 v5 v6 v7 v8:Value):World:=((((((((w.setCell ⟨g,0,none⟩ v0).setCell ⟨g,1,none⟩ v1).setCell ⟨g,2,none⟩ v2).setCell ⟨g,3,none⟩ v3).setCell ⟨g,4,none⟩ v4).setCell ⟨g,5,none⟩ v5).setCell ⟨g,6,none⟩ v6).setCell ⟨g,7,none⟩ v7).setCell ⟨g,8,none⟩ v8
theorem q2v(w:World)(g:Nat)(v0 v1 v2 v3 v4 v5 v6 v7 v8:Value):set9 w g v0 v1 v2 v3 v4 v5 v6 v7 v8=qgv w g 0 [v0,v1,v2,v3,v4,v5,v6,v7,v8]:=rfl
theorem q1e{w:World}{g:Nat}(h:qej 9 w g)(v0 v1 v2 v3 v4 v5 v6 v7 v8:Value):∀(j:Nat) (v:Value),(#[v0,v1,v2,v3,v4,v5,v6,v7,v8]:Array Value).toList[j]?=some v→(set9 w g v0 v1 v2 v3 v4 v5 v6 v7 v8).cell? ⟨g,j,none⟩=some v:=by
 intro j v hv;have:=qiy (n:=9) g [v0,v1,v2,v3,v4,v5,v6,v7,v8] w 0 h (by simp) j v hv;rw[Nat.zero_add]at this;rw[q2v];exact this
theorem q1j{B:Nat}{a w:World}{g:Nat}(h:Below B a w)(hg:B≤g)(v0 v1 v2 v3 v4 v5 v6 v7 v8:Value):Below B a (set9 w g v0 v1 v2 v3 v4 v5 v6 v7 v8):=by
 rw[q2v];exact qin g hg _ _ _ h
theorem qs5{P:Program}{fn:Func}{R:Ending→World→Prop}{a:Act}{w:World}{p:Tmp}{ty:TypeId}(h:fn.results=#[.cell p ty])(g:Nat)(d:TypeDesc)(hu:P.underlying ty=some d)(hd:aggD d=true)(hi:(P.info? ty).map (·.size)=some 9)
  (hp:a.tmps.getD p undef=.pointer (some ⟨g,0,none⟩)) (hs:qej 9 w g) (ha:a.defers=[]) (v0 v1 v2 v3 v4 v5 v6 v7 v8:Value) (hR:R (.returned (.agg #[v0,v1,v2,v3,v4,v5,v6,v7,v8])) (set9 w g v0 v1 v2 v3 v4 v5 v6 v7 v8)):bodyPost P fn R .ret a (set9 w g v0 v1 v2 v3 v4 v5 v6 v7 v8):=
 bodyPost_ret (qbk h a.tmps _ g _ d hp (q1e hs v0 v1 v2 v3 v4 v5 v6 v7 v8) hu hd hi) ha hR
def qcu(v:Pl.Vw):Array Value:=#[.int .i64 v.mode,.int .i64 v.elem,.int .i64 v.attr,.int .i64 v.ends,.int .i64 v.esc,.int .i64 v.pct,.int .i64 v.link,.string ⟨v.name.toArray⟩,.bool v.ref]
def qel(v:Pl.Vw):Value:=.agg (qcu v)
structure SeeAt(w0 w:World)(p:Pl.Sp)(v:Pl.Vw):Prop where
 sp:w.heap[w0.heap.size]?=some (.cells (qag p) 94 (0,0))
 res:w.heap[w0.heap.size+1]?=some (.cells (qcu ⟨0,0,0,0,0,0,0,[],false⟩) 111 (0,0))
 vw:w.heap[w0.heap.size+1+1]?=some (.cells (qcu v) 111 (0,0))
 low:Below w0.heap.size w0 w
theorem SeeAt.lt{w0 w:World}{p:Pl.Sp}{v:Pl.Vw}(h:SeeAt w0 w p v):w0.heap.size+1+1<w.heap.size:=(Array.getElem?_eq_some_iff.1 h.vw).1
theorem SeeAt.kept{w0 w w':World}{p:Pl.Sp}{v:Pl.Vw}(h:SeeAt w0 w p v)(hb:Below w.heap.size w w'):SeeAt w0 w' p v:=by
 have hl:=h.lt;exact⟨(hb.block _ (by omega)).trans h.sp,(hb.block _ (by omega)).trans h.res,(hb.block _ hl).trans h.vw,h.low.trans (hb.mono (by omega))⟩
theorem SeeAt.put{w0 w:World}{p:Pl.Sp}{v v':Pl.Vw}(h:SeeAt w0 w p v)(j:Nat)(x:Value)(e:(qcu v).set! j x=qcu v'):SeeAt w0 (w.setCell ⟨w0.heap.size+1+1,j,none⟩ x) p v':=by
 refine⟨(heap_setCell_other _ _ _ _ (by simp;omega)).trans h.sp,(heap_setCell_other _ _ _ _ (by simp)).trans h.res,?_,h.low.setCell (by simp;omega) _⟩;rw[←e];exact heap_setCell_same w _ j _ _ _ h.vw
structure SeeC(w0 w:World)(p:Pl.Sp)(v:Pl.Vw):Prop where
 q0:w.cell? ⟨w0.heap.size,0,none⟩=some (.int .i64 p.mode)
 q1:w.cell? ⟨w0.heap.size,1,none⟩=some (.string ⟨p.tag.toArray⟩)
 q2:w.cell? ⟨w0.heap.size,2,none⟩=some (.string ⟨p.attr.toArray⟩)
 q3:w.cell? ⟨w0.heap.size,3,none⟩=some (.string ⟨p.inside.toArray⟩)
 q4:w.cell? ⟨w0.heap.size,4,none⟩=some (.string ⟨p.run.toArray⟩)
 q5:w.cell? ⟨w0.heap.size,5,none⟩=some (.int .i64 p.far)
 t:∀(j:Nat) (x:Value),(qcu v).toList[j]?=some x→w.cell? ⟨w0.heap.size+1+1,j,none⟩=some x
 f:∀j,w.frozen? ⟨w0.heap.size+1+1,j,none⟩=false
theorem SeeAt.c{w0 w:World}{p:Pl.Sp}{v:Pl.Vw}(h:SeeAt w0 w p v):SeeC w0 w p v:=
 ⟨qaa h.sp 0 _ rfl,qaa h.sp 1 _ rfl,qaa h.sp 2 _ rfl,qaa h.sp 3 _ rfl,qaa h.sp 4 _ rfl,qaa h.sp 5 _ rfl,qaa h.vw,fun j=>frozen_of_row _ _ j _ _ h.vw⟩
theorem qiq(p:Pl.Sp)(w:World)(ht:p.tag.length≤1000)(ha:p.attr.length≤1000)(hi:p.inside.length≤1000)(hc:p.run.length≤2000000000000000000) :
  Calls Tryz.prog 41 #[qat p] w fun e w'=>e=.returned (qel p.view)∧Below w.heap.size w w':=by
 have HR:=hd (fun w=>qyk p w ht hi);unfold qat qag at HR ⊢;obtain⟨M,hM⟩:∃M,p.mode=M:=⟨_,rfl⟩;rw[hM]at HR ⊢;have H0:Hid (SeeAt w (((w.alloc (.cells #[.int .i64 M,.string ⟨p.tag.toArray⟩,.string ⟨p.attr.toArray⟩,.string ⟨p.inside.toArray⟩,.string ⟨p.run.toArray⟩,.int .i64 p.far] 94)).alloc (.cells (qcu ⟨0,0,0,0,0,0,0,[],false⟩) 111)).alloc (.cells (qcu ⟨M,0,0,0,0,0,0,[],false⟩) 111)) p ⟨M,0,0,0,0,0,0,[],false⟩):=by
  rw[←hM];exact⟨(heap_alloc_old _ _ (by simp;omega)).trans ((heap_alloc_old _ _ (by simp)).trans (heap_alloc_new w _)),(heap_alloc_old _ _ (by simp)).trans (qal _ _ _ (by simp)),qal _ _ _ (by simp),((ba _).alloc (by simp) _).alloc (by simp;omega) _⟩
 generalize hQ:(fun(e:Ending) (w':World)=>e=.returned (qel p.view)∧Below w.heap.size w w')=Q;have HQ:=hd hQ;have HM:=hd hM;clear hQ hM;unfold qcu at H0;go_enter Tryz.func41,Tryz.ntmps41
 go_upto_block 0 with fail
 generalize World.alloc _ _=w2 at H0 ⊢;have HC:=hd H0.out.c;have q0:=HC.out.q0;have q1:=HC.out.q1;rw[HM.out]at q0;go_cut [7,14,27] (fun s7 s14 s27 wx=>Hid (SeeAt w wx p ⟨M,p.view.elem,0,p.view.ends,0,0,0,if M=3 then p.tag else[],false⟩))
 case first=>
  by_cases m3:M=3
  ·subst m3
   have t7:=HC.out.t 7 _ rfl;have f7:=HC.out.f 7;go_wp2_with fail
   go_meet
   refine H0.out.put 7 _ ?_;unfold Pl.Sp.view;rw[HM.out];rfl
  have m3':(M==3)=false:=beq_eq_false_iff_ne.2 m3;by_cases m10:3<M∧M≤10
  ·obtain⟨ma,mb⟩:=m10
   have HK:=hd (H0.out.kept (ba qgq));have t1:=HK.out.c.t 1 _ rfl;have f1:=HK.out.c.f 1;go_wp2_with (go_at_call 65;refine(qsx p.tag _).mono ?_;rintro e w' ⟨rfl,rfl⟩)
   go_meet
   refine HK.out.put 1 _ ?_;unfold Pl.Sp.view;simp only[HM.out];rw[if_neg m3,if_pos (.inl ⟨ma,mb⟩),if_neg (by omega:¬ 19≤M)];rfl
  by_cases m19:19≤M
  ·have ma:M > 3:=by omega
   have mb:¬M≤10:=by omega
   have HK:=hd (H0.out.kept (ba qgq));have t1:=HK.out.c.t 1 _ rfl;have f1:=HK.out.c.f 1;go_upto_region 8 with (go_at_call 65;refine(qsx p.tag _).mono ?_;rintro e w' ⟨rfl,rfl⟩)
   have HE:=(show Hid (SeeAt w ((w2.alloc qgq).setCell ⟨w.heap.size+1+1,1,none⟩ (.int .i64 (Pl.qco p.tag))) p ⟨M,Pl.qco p.tag,0,0,0,0,0,[],false⟩) from HK.out.put 1 _ rfl);generalize World.setCell _ _ _=w3 at HE ⊢;have C3:=hd HE.out.c;have q0:=C3.out.q0;have q1:=C3.out.q1;have q2:=C3.out.q2;have q3:=C3.out.q3;have q4:=C3.out.q4;have q5:=C3.out.q5;rw[HM.out]at q0;go_wp2_with (go_at_call 66;refine(HR.out _).mono ?_;rintro e w4 ⟨rfl,hb⟩;have HF:=hd (HE.out.kept hb);have t3:=HF.out.c.t 3 _ rfl;have f3:=HF.out.c.f 3;clear hb)
   go_meet
   refine HF.out.put 3 _ ?_;unfold Pl.Sp.view;simp only[HM.out];rw[if_neg m3,if_pos (.inr m19),if_pos m19];rfl
  have mb:¬M≥19:=m19;have hw:(⟨M,p.view.elem,0,p.view.ends,0,0,0,if M=3 then p.tag else[],false⟩:Pl.Vw)=⟨M,0,0,0,0,0,0,[],false⟩:=by
   unfold Pl.Sp.view;simp only[HM.out];rw[if_neg m3,if_neg (by omega),if_neg m19]
  by_cases ma:M > 3
  ·have mc:¬M≤10:=by omega
   go_wp2_with fail
   go_meet
   rw[hw];exact H0
  ·go_wp2_with fail
   go_meet
   rw[hw];exact H0
 case rest=>
 clear H0 HC q0 q1;have H0:=hd hcut.out;clear hcut;have HC:=hd H0.out.c;have q0:=HC.out.q0;have q1:=HC.out.q1;have q2:=HC.out.q2;have q4:=HC.out.q4;have q5:=HC.out.q5;rw[HM.out]at q0;go_upto_if 40 with fail
 go_cut [] (fun wx=>Hid (SeeAt w wx p ⟨M,p.view.elem,0,p.view.ends,0,0,0,p.view.name,false⟩))
 case first=>
  have t7:=HC.out.t 7 _ rfl;have f7:=HC.out.f 7;cases m5:M==5
  all_goals
   have Hc:=m5;simp at Hc;have M5:=hd Hc;clear Hc;go_wp2_with fail
   go_meet
  ·have e:p.view.name=if M=3 then p.tag else[]:=by unfold Pl.Sp.view;simp only[HM.out];rw[if_neg M5.out]
   rw[e];exact H0
  ·refine H0.out.put 7 _ ?_
   have e:p.view.name=p.attr:=by unfold Pl.Sp.view;simp only[HM.out];rw[if_neg (by have:=M5.out;omega),if_pos M5.out]
   rw[e];rfl
 case rest=>
 clear H0 HC q0 q1 q2 q4 q5;have H0:=hd hcut.out;clear hcut;have HC:=hd H0.out.c;have q0:=HC.out.q0;have q1:=HC.out.q1;have q2:=HC.out.q2;have q4:=HC.out.q4;have q5:=HC.out.q5;rw[HM.out]at q0;go_upto_region 11 with fail
 go_cut [51] (fun s wx=>s=.bool (decide (6≤M∧M≤9))∧wx=wc)
 case first=>
  by_cases a:M≥6
  ·by_cases b:M≤9
   all_goals
    go_wp2_with fail
    go_meet
    exact⟨by simp;omega,rfl⟩
  ·go_wp2_with fail
   go_meet
   exact⟨by simp;omega,rfl⟩
 case rest=>
 obtain⟨rfl,rfl⟩:=hcut;generalize Ha:decide (6≤M∧M≤9)=ee;have HE:=(show Hid (_=ee) from Ha);clear Ha;go_upto_if 51 with fail
 go_cut [] (fun wx=>Hid (SeeAt w wx p ⟨M,p.view.elem,p.view.attr,p.view.ends,0,0,0,p.view.name,false⟩))
 case first=>
  have t2:=HC.out.t 2 _ rfl;have f2:=HC.out.f 2;cases ee
  ·go_wp2_with fail
   go_meet
   have e:p.view.attr=0:=by unfold Pl.Sp.view;simp only[HM.out];rw[if_neg (of_decide_eq_false HE.out)]
   rw[e];exact H0
  ·go_wp2_with (go_at_call 67;refine(q58 p.attr _ ha).mono ?_;rintro e w' ⟨rfl,rfl⟩)
   go_meet
   have e:p.view.attr=Pl.qbt p.attr:=by unfold Pl.Sp.view;simp only[HM.out];rw[if_pos (of_decide_eq_true HE.out)]
   rw[e];exact H0.out.put 2 _ rfl
 case rest=>
 clear H0 HC HE q0 q1 q2 q4 q5;have H0:=hd hcut.out;clear hcut;have HC:=hd H0.out.c;have q0:=HC.out.q0;have q1:=HC.out.q1;have q2:=HC.out.q2;have q4:=HC.out.q4;have q5:=HC.out.q5;rw[HM.out]at q0;go_upto_region 13 with fail
 go_cut [73] (fun s wx=>s=.bool (Pl.qlw M)∧wx=wc)
 case first=>
  have HT:=(show Hid (Pl.qlw M=(M==1 || (M==19 || (M==8 || M==9)))) from rfl);cases a1:M==1<;>cases a2:M==19<;>cases a3:M==8<;>cases a4:M==9
  all_goals
   go_wp2_with fail
   go_meet
   exact⟨by rw[HT.out,a1,a2,a3,a4];rfl,rfl⟩
 case rest=>
 obtain⟨rfl,rfl⟩:=hcut;generalize Ha:Pl.qlw M=ee;have HE:=(show Hid (_=ee) from Ha);clear Ha;go_upto_if 73 with fail
 go_cut [] (fun wx=>Hid (SeeAt w wx p ⟨M,p.view.elem,p.view.attr,p.view.ends,0,0,0,p.view.name,p.view.ref⟩))
 case first=>
  have t8:=HC.out.t 8 _ rfl;have f8:=HC.out.f 8;cases ee
  ·go_wp2_with fail
   go_meet
   have e:p.view.ref=false:=by unfold Pl.Sp.view;simp only[HM.out];rw[HE.out];rfl
   rw[e];exact H0
  ·go_wp2_with (go_at_call 68;refine(qk9 ⟨p.run.toArray⟩ _ (by simpa [ByteArray.size] using Nat.le_trans hc (by omega))).mono ?_;rintro e w' ⟨rfl,rfl⟩)
   go_meet
   have e:p.view.ref=Pl.qht p.run:=by unfold Pl.Sp.view;simp only[HM.out];rw[HE.out];rfl
   rw[e];exact H0.out.put 8 _ rfl
 case rest=>
 clear H0 HC HE q0 q1 q2 q4 q5;have H0:=hd hcut.out;clear hcut;have HC:=hd H0.out.c;have q0:=HC.out.q0;have q1:=HC.out.q1;have q2:=HC.out.q2;have q4:=HC.out.q4;have q5:=HC.out.q5;rw[HM.out]at q0;go_upto_if 80 with (go_at_call 69;refine(qhc _ _).mono ?_;rintro e w' ⟨rfl,rfl⟩)
 generalize Ha:Pl.qb7 M=ee;have HE:=(show Hid (_=ee) from Ha);clear Ha;go_cut [] (fun wx=>Hid (SeeAt w wx p ⟨M,p.view.elem,p.view.attr,p.view.ends,p.view.esc,0,0,p.view.name,p.view.ref⟩))
 case first=>
  have t4:=HC.out.t 4 _ rfl;have f4:=HC.out.f 4;cases ee
  ·go_wp2_with fail
   go_meet
   have e:p.view.esc=0:=by unfold Pl.Sp.view;simp only[HM.out];rw[HE.out];rfl
   rw[e];exact H0
  ·go_wp2_with (go_at_call 70;refine(qmb ⟨p.run.toArray⟩ _ _ (by simpa [ByteArray.size] using Nat.le_trans hc (by omega))).mono ?_;rintro e w' ⟨rfl,rfl⟩)
   go_meet
   have e:p.view.esc=Pl.qdy (Pl.qbe M) p.run:=by unfold Pl.Sp.view;simp only[HM.out];rw[HE.out];rfl
   rw[e];exact H0.out.put 4 _ rfl
 case rest=>
 clear H0 HC HE q0 q1 q2 q4 q5;have H0:=hd hcut.out;clear hcut;have HC:=hd H0.out.c;have q0:=HC.out.q0;have q1:=HC.out.q1;have q2:=HC.out.q2;have q4:=HC.out.q4;have q5:=HC.out.q5;rw[HM.out]at q0;go_upto_region 17 with fail
 go_cut [100] (fun s wx=>s=.bool (decide ((M=8∨M=9)∧Pl.qbt p.attr=2))∧wx=wc)
 case first=>
  have t2:=HC.out.t 2 _ rfl;by_cases Hb:M=8∨M=9
  ·have e:p.view.attr=Pl.qbt p.attr:=by unfold Pl.Sp.view;simp only[HM.out];rw[if_pos (by omega)]
   have t2:wc.cell? ⟨w.heap.size+1+1,2,none⟩=some (.int .i64 (Pl.qbt p.attr)):=by rw[←e];exact t2
   clear e;generalize hk:Pl.qbt p.attr=K at t2;have HK:=hd hk;clear hk;rcases Hb with rfl | rfl
   all_goals
    go_wp2_with fail
    go_meet
    exact⟨by rw[HK.out];simp;rfl,rfl⟩
  ·have e1:(M==8)=false:=beq_eq_false_iff_ne.2 (fun q=>Hb (.inl q))
   have e2:(M==9)=false:=beq_eq_false_iff_ne.2 (fun q=>Hb (.inr q));go_wp2_with fail
   go_meet
   exact⟨by rw[decide_eq_false (fun q=>Hb q.1)],rfl⟩
 case rest=>
 obtain⟨rfl,rfl⟩:=hcut;generalize Ha:decide ((M=8∨M=9)∧Pl.qbt p.attr=2)=ee;have HE:=(show Hid (_=ee) from Ha);clear Ha;go_upto_if 100 with fail
 go_cut [] (fun wx=>Hid (SeeAt w wx p p.view))
 case first=>
  have t5:=HC.out.t 5 _ rfl;have f5:=HC.out.f 5;have t6:=HC.out.t 6 _ rfl;have f6:=HC.out.f 6;cases ee
  ·go_wp2_with fail
   go_meet
   have e:p.view=⟨M,p.view.elem,p.view.attr,p.view.ends,p.view.esc,0,0,p.view.name,p.view.ref⟩:=by
    have:=of_decide_eq_false HE.out;unfold Pl.Sp.view;simp only[HM.out];rw[if_neg this,if_neg this]
   rw[e];exact H0
  ·go_wp2_with (go_at_call 71;refine(qwx ⟨p.run.toArray⟩ _ (by simpa [ByteArray.size] using Nat.le_trans hc (by omega))).mono ?_;rintro e w' ⟨rfl,rfl⟩)
   go_meet
   have e:p.view=⟨M,p.view.elem,p.view.attr,p.view.ends,p.view.esc,Pl.qg8 p.run,p.far,p.view.name,p.view.ref⟩:=by
    have:=of_decide_eq_true HE.out;unfold Pl.Sp.view;simp only[HM.out];rw[if_pos this,if_pos this]
   rw[e];have h1:SeeAt w (wc.setCell ⟨w.heap.size+1+1,5,none⟩ (.int .i64 (Pl.qg8 p.run))) p ⟨M,p.view.elem,p.view.attr,p.view.ends,p.view.esc,Pl.qg8 p.run,0,p.view.name,p.view.ref⟩:=H0.out.put 5 _ rfl;exact h1.put 6 _ rfl
 case rest=>
 clear H0 HC HE q0 q1 q2 q4 q5;have H0:=hd hcut.out;clear hcut;have hV:=H0.out.vw;unfold qcu at hV;have t0:=qaa hV 0 _ rfl;have t1:=qaa hV 1 _ rfl;have t2:=qaa hV 2 _ rfl;have t3:=qaa hV 3 _ rfl;have t4:=qaa hV 4 _ rfl;have t5:=qaa hV 5 _ rfl;have t6:=qaa hV 6 _ rfl;have t7:=qaa hV 7 _ rfl;have t8:=qaa hV 8 _ rfl;have hr:=H0.out.res;have p0:=qaa hr 0 _ rfl;have p1:=qaa hr 1 _ rfl;have p2:=qaa hr 2 _ rfl;have p3:=qaa hr 3 _ rfl;have p4:=qaa hr 4 _ rfl;have p5:=qaa hr 5 _ rfl;have p6:=qaa hr 6 _ rfl;have p7:=qaa hr 7 _ rfl;have p8:=qaa hr 8 _ rfl;have f0:=frozen_of_row _ _ 0 _ _ hr;have f1:=frozen_of_row _ _ 1 _ _ hr;have f2:=frozen_of_row _ _ 2 _ _ hr;have f3:=frozen_of_row _ _ 3 _ _ hr;have f4:=frozen_of_row _ _ 4 _ _ hr;have f5:=frozen_of_row _ _ 5 _ _ hr;have f6:=frozen_of_row _ _ 6 _ _ hr;have f7:=frozen_of_row _ _ 7 _ _ hr;have f8:=frozen_of_row _ _ 8 _ _ hr;clear hV hr;go_wp2_with fail
 refine qs5 Tryz.results41 (w.heap.size+1) _ Tryz.underlying111 rfl (by kernel_rfl) rfl ⟨_,_,H0.out.res,rfl⟩ rfl _ _ _ _ _ _ _ _ _ ?_;rw[←HQ.out];exact⟨rfl,q1j H0.out.low (by simp) _ _ _ _ _ _ _ _ _⟩
theorem qnb{P:Program}{fn:Func}{t u p:Tmp}{ty:TypeId}(h:fn.results=#[.tmp t,.tmp u,.cell p ty])(tmps:Array Value)(w:World)(g:Nat)(cs:Array Value)(d:TypeDesc)(hp:tmps.getD p undef=.pointer (some ⟨g,0,none⟩))
  (hg:∀j v,cs.toList[j]?=some v→w.cell? ⟨g,j,none⟩=some v)
  (hu:P.underlying ty=some d) (hd:aggD d=true) (hi:(P.info? ty).map (·.size)=some cs.size) :
  (results fn tmps).run P w=.ok (.tuple #[tmps.getD t undef,tmps.getD u undef,.agg cs]) w:=by
 have hl:=qbl (P:=P) w g ty cs d hg hu (by cases d<;>first | rfl | cases hd) hi
 rw[Array.getD_eq_getD_getElem?]at hp;simp only[results,h];simp[hp,asAddr,hl]
theorem q1h{W:World}{g:Nat}{cs:Array Value}(h:∀(j:Nat) (v:Value),cs.toList[j]?=some v→W.cell? ⟨g,j,none⟩=some v):∀(j:Nat) (v:Value),cs.toList[j]?=some v→W.drew.cell? ⟨g,j,none⟩=some v:=h
theorem qmi{P:Program}{fn:Func}{R:Ending→World→Prop}{a:Act}{w:World}{t u p:Tmp}{ty:TypeId}(h:fn.results=#[.tmp t,.tmp u,.cell p ty])(g:Nat)(d:TypeDesc)(hu:P.underlying ty=some d)(hd:aggD d=true)(hi:(P.info? ty).map (·.size)=some 6)
  (hp:a.tmps.getD p undef=.pointer (some ⟨g,0,none⟩)) (hs:qfl w g) (ha:a.defers=[]) (v0 v1 v2 v3 v4 v5:Value) (x y:Value) (hx:a.tmps.getD t undef=x) (hy:a.tmps.getD u undef=y) (hR:R (.returned (.tuple #[x,y,.agg #[v0,v1,v2,v3,v4,v5]])) (set6 w g v0 v1 v2 v3 v4 v5).drew):bodyPost P fn R .ret a (set6 w g v0 v1 v2 v3 v4 v5).drew:=by
 subst hx hy;exact bodyPost_ret (qnb h a.tmps _ g _ d hp (q1h (qjx hs v0 v1 v2 v3 v4 v5)) hu hd hi) ha hR
def qew(p:Pl.Sp)(l:Int):Pl.Sp:=if l=2∨l=3 then⟨p.mode,p.tag,p.attr,p.inside,p.run,4⟩ else p
structure HoAt(w0 w:World)(p:Pl.Sp)(v:Array Value)(q:Pl.Sp)(V T:Nat):Prop where
 sp:w.heap[w0.heap.size]?=some (.cells (qag p) 94 (0,0))
 res:w.heap[w0.heap.size+1]?=some (.cells #[.int .i64 0,.string ⟨#[]⟩,.string ⟨#[]⟩,.string ⟨#[]⟩,.string ⟨#[]⟩,.int .i64 0] 94 (0,0))
 vw:w.heap[V]?=some (.cells v 111 (0,0))
 tt:w.heap[T]?=some (.cells (qag q) 94 (0,0))
 low:Below w0.heap.size w0 w
 le:w0.heap.size≤T
 ne:V≠w0.heap.size∧V≠w0.heap.size+1∧T≠w0.heap.size∧T≠w0.heap.size+1∧V≠T
theorem q7t(M ve va vd vc vp vl:Int)(vn:List UInt8)(vr:Bool){a:Int}(h:Pl.Vw.as ⟨M,ve,va,vd,vc,vp,vl,vn,vr⟩=a):Pl.Vw.hole ⟨M,ve,va,vd,vc,vp,vl,vn,vr⟩=bif a==0 then(0,10) else bif va==3 then(0,11) else bif (vr || (decide (vc > 0) || (decide (vp > 0) || decide (vd > 0)))) then(0,12) else(a,0):=by
 unfold Pl.Vw.hole;rw[h];simp only[gt_iff_lt];by_cases h1:a=0
 ·rw[if_pos h1,beq_iff_eq.2 h1];rfl
 rw[if_neg h1,beq_eq_false_iff_ne.2 h1];by_cases h2:va=3
 ·rw[if_pos h2,beq_iff_eq.2 h2];rfl
 rw[if_neg h2,beq_eq_false_iff_ne.2 h2];cases (vr || (decide (0<vc) || (decide (0<vp) || decide (0<vd))))<;>rfl
theorem q4g(p:Pl.Sp)(V:Pl.Vw)(w:World)(hm:V.mode=p.mode)(hS:∀w,Calls Tryz.prog 41 #[qat p] w fun e w'=>e=.returned (qel V)∧Below w.heap.size w w') :
  Calls Tryz.prog 55 #[qat p] w fun e w'=>e=.returned (.tuple #[.int .i64 V.hole.1,.int .i64 V.hole.2,qat (qew p V.link)])∧Below w.heap.size w w':=by
 obtain⟨vm,ve,va,vd,vc,vp,vl,vn,vr⟩:=V;obtain rfl:vm=p.mode:=hm;obtain⟨A,hA⟩:∃A,Pl.Vw.as ⟨p.mode,ve,va,vd,vc,vp,vl,vn,vr⟩=A:=⟨_,rfl⟩;rw[q7t _ _ _ _ _ _ _ _ _ hA];have HA:=hd hA;clear hA;generalize hQ:(fun(e:Ending) (w':World)=>e=.returned (.tuple #[.int .i64 (bif A==0 then(0,10) else bif va==3 then(0,11) else bif (vr || (decide (vc > 0) || (decide (vp > 0) || decide (vd > 0)))) then(0,12) else(A,0):Int×Int).1,.int .i64 (bif A==0 then(0,10) else bif va==3 then(0,11) else bif (vr || (decide (vc > 0) || (decide (vp > 0) || decide (vd > 0)))) then(0,12) else(A,0):Int×Int).2,qat (qew p vl)])∧Below w.heap.size w w')=Q;have HQ:=hd hQ;clear hQ;unfold qel at hS;unfold qat at hS ⊢;have HS:=hd hS;clear hS;unfold qag at HS ⊢;unfold qcu at HS;go_enter Tryz.func55,Tryz.ntmps55
 go_upto_region 3 with (go_at_call 41;refine(HS.out _).mono ?_;rintro e w1 ⟨rfl,Ha⟩;have hx:=(Ha.block w.heap.size (by simp<;>omega)).trans ((heap_alloc_old _ _ (by simp)).trans (heap_alloc_new w _));have hl:=(Array.getElem?_eq_some_iff.1 hx).1;have q0:=fun o=>qaa ((heap_alloc_old w1 o hl).trans hx) 0 _ rfl;have q1:=fun o=>qaa ((heap_alloc_old w1 o hl).trans hx) 1 _ rfl;have q2:=fun o=>qaa ((heap_alloc_old w1 o hl).trans hx) 2 _ rfl;have q3:=fun o=>qaa ((heap_alloc_old w1 o hl).trans hx) 3 _ rfl;have q4:=fun o=>qaa ((heap_alloc_old w1 o hl).trans hx) 4 _ rfl;have q5:=fun o=>qaa ((heap_alloc_old w1 o hl).trans hx) 5 _ rfl)
 have H2:Hid (HoAt w ((w1.alloc (.cells #[.int .i64 p.mode,.int .i64 ve,.int .i64 va,.int .i64 vd,.int .i64 vc,.int .i64 vp,.int .i64 vl,.string ⟨vn.toArray⟩,.bool vr] 111)).alloc (.cells (qag p) 94)) p #[.int .i64 p.mode,.int .i64 ve,.int .i64 va,.int .i64 vd,.int .i64 vc,.int .i64 vp,.int .i64 vl,.string ⟨vn.toArray⟩,.bool vr] p w1.heap.size (w1.heap.size+1)):=by
  have hr:=(Ha.block (w.heap.size+1) (by simp)).trans (qal (w.alloc _) _ _ (by simp));have Hc:=(Array.getElem?_eq_some_iff.1 hr).1;have hw:Below w.heap.size w w1:=Below.trans (by repeat (first | refine Below.alloc ?_ (by simp<;>omega) _ | exact Below.refl _ _)) (Ha.mono (by simp<;>omega))
  refine⟨(heap_alloc_old _ _ (by simp;omega)).trans ((heap_alloc_old w1 _ hl).trans hx),(heap_alloc_old _ _ (by simp;omega)).trans ((heap_alloc_old w1 _ Hc).trans hr),(heap_alloc_old _ _ (by simp)).trans (heap_alloc_new _ _),qal _ _ _ (by simp),(hw.alloc (by omega) _).alloc (by simp;omega) _,by omega,by omega,by omega,by omega,by omega,by omega⟩
 unfold qag at H2;clear q0 q1 q2 q3 q4 q5 hx hl Ha HS;generalize w1.heap.size=VV at H2 ⊢;obtain⟨T,hT⟩:∃T,T=VV+1:=⟨_,rfl⟩;rw[←hT]at H2 ⊢;generalize hv:World.alloc (World.alloc w1 _) _=w2 at H2 ⊢;clear hT hv;have v2:=qaa H2.out.vw 2 _ rfl;have v3:=qaa H2.out.vw 3 _ rfl;have v4:=qaa H2.out.vw 4 _ rfl;have v5:=qaa H2.out.vw 5 _ rfl;have v6:=qaa H2.out.vw 6 _ rfl;have v8:=qaa H2.out.vw 8 _ rfl;go_cut [18] (fun s wx=>s=.bool (vl==2 || vl==3)∧wx=w2)
 case first=>
  cases h2:vl==2<;>cases h3:vl==3
  all_goals
   go_wp2_with fail
   go_meet
   exact⟨by rw[h2,h3];rfl,rfl⟩
 case rest=>
 obtain⟨rfl,rfl⟩:=hcut;generalize Hb:(vl==2 || vl==3)=lk;have hc:=(show Hid (_=lk) from Hb);clear Hb;go_upto_if 18 with fail
 go_cut [] (fun wx=>Hid (HoAt w wx p #[.int .i64 p.mode,.int .i64 ve,.int .i64 va,.int .i64 vd,.int .i64 vc,.int .i64 vp,.int .i64 vl,.string ⟨vn.toArray⟩,.bool vr] (qew p vl) VV T))
 case first=>
  have f5:=frozen_of_row wc T 5 _ _ H2.out.tt;have t5:=qaa H2.out.tt 5 _ rfl;cases lk
  all_goals
   go_wp2_with fail
   go_meet
  ·have h2:=hc.out
   have e:qew p vl=p:=if_neg (by intro h;simp at h2;omega);rw[e];exact H2
  ·have h2:=hc.out
   have e:qew p vl=⟨p.mode,p.tag,p.attr,p.inside,p.run,4⟩:=if_pos (by simp at h2;omega);rw[e];have h:=H2.out;exact⟨(heap_setCell_other _ _ _ _ (by exact fun q=>h.ne.2.2.1 q.symm)).trans h.sp,(heap_setCell_other _ _ _ _ (fun q=>h.ne.2.2.2.1 q.symm)).trans h.res,(heap_setCell_other _ _ _ _ h.ne.2.2.2.2).trans h.vw,heap_setCell_same wc T 5 _ _ _ h.tt,h.low.setCell h.le _,h.le,h.ne⟩
 case rest=>
 have H3:=hd hcut.out;clear H2 hcut v2 v3 v4 v5 v6 v8;have m0:=qaa H3.out.sp 0 _ rfl;have v2:=qaa H3.out.vw 2 _ rfl;have v3:=qaa H3.out.vw 3 _ rfl;have v4:=qaa H3.out.vw 4 _ rfl;have v5:=qaa H3.out.vw 5 _ rfl;have v6:=qaa H3.out.vw 6 _ rfl;have v8:=qaa H3.out.vw 8 _ rfl;generalize hM:p.mode=M at m0;go_upto_block 0 with fail
 go_cut [7,22,25,34,37] (fun s7 s22 s25 s34 s37 wx=>s7=.int .i64 A∧wx=wc)
 case first=>
  have hA:=HA.out;unfold Pl.Vw.as at hA;simp only[hM]at hA;by_cases m1:M=1∨M=19∨M=21∨M=22∨M=29∨M=30
  ·rcases m1 with rfl | rfl | rfl | rfl | rfl | rfl<;>(go_wp2_with fail;go_meet;exact⟨by rw[←hA];rfl,rfl⟩)
  by_cases m8:M=8∨M=9
  ·cases h2:vl==2<;>cases h3:va==2
   all_goals
    have e2:=h2;have e3:=h3;simp at e2 e3;rcases m8 with rfl | rfl<;>(go_wp2_with fail;go_meet;exact⟨by rw[←hA];simp[e2,e3],rfl⟩)
  have e:(M==1)=false∧(M==19)=false∧(M==21)=false∧(M==22)=false∧(M==29)=false∧(M==30)=false∧(M==8)=false∧(M==9)=false:=by simp;omega
  obtain⟨e1,e2,e3,e4,e5,e6,e7,e8⟩:=e;go_wp2_with fail;go_meet
  rw[if_neg (by omega),if_neg (by omega),if_neg (by omega),if_neg (by omega)]at hA;exact⟨by rw[←hA],rfl⟩
 case rest=>
 obtain⟨rfl,rfl⟩:=hcut;have hT:=H3.out.tt;unfold qag at hT;have t0:=qaa hT 0 _ rfl;have t1:=qaa hT 1 _ rfl;have t2:=qaa hT 2 _ rfl;have t3:=qaa hT 3 _ rfl;have t4:=qaa hT 4 _ rfl;have t5:=qaa hT 5 _ rfl;have hR:=H3.out.res;have r0:=qaa hR 0 _ rfl;have r1:=qaa hR 1 _ rfl;have r2:=qaa hR 2 _ rfl;have r3:=qaa hR 3 _ rfl;have r4:=qaa hR 4 _ rfl;have r5:=qaa hR 5 _ rfl;have f0:=frozen_of_row _ _ 0 _ _ hR;have f1:=frozen_of_row _ _ 1 _ _ hR;have f2:=frozen_of_row _ _ 2 _ _ hR;have f3:=frozen_of_row _ _ 3 _ _ hR;have f4:=frozen_of_row _ _ 4 _ _ hR;have f5:=frozen_of_row _ _ 5 _ _ hR;clear hT hR;have HF:Hid (∀(a:Act) (x y:Int),x=(bif A==0 then(0,10) else bif va==3 then(0,11) else bif (vr || (decide (vc > 0) || (decide (vp > 0) || decide (vd > 0)))) then(0,12) else(A,0):Int×Int).1→y=(bif A==0 then(0,10) else bif va==3 then(0,11) else bif (vr || (decide (vc > 0) || (decide (vp > 0) || decide (vd > 0)))) then(0,12) else(A,0):Int×Int).2→a.tmps.getD 4 undef=.pointer (some ⟨w.heap.size+1,0,none⟩)→a.defers=[]→a.tmps.getD 2 undef=.int .i64 x→a.tmps.getD 3 undef=.int .i64 y→bodyPost Tryz.prog Tryz.f55 Q .ret a (set6 wc (w.heap.size+1) (.int .i64 (qew p vl).mode) (.string ⟨(qew p vl).tag.toArray⟩) (.string ⟨(qew p vl).attr.toArray⟩) (.string ⟨(qew p vl).inside.toArray⟩) (.string ⟨(qew p vl).run.toArray⟩) (.int .i64 (qew p vl).far)).drew):=by
  intro a x y hx hy h4 hd h2 h3;refine qmi Tryz.results55 (w.heap.size+1) _ Tryz.underlying94 rfl (by kernel_rfl) h4 ⟨_,_,H3.out.res,rfl⟩ hd _ _ _ _ _ _ _ _ h2 h3 ?_;rw[←HQ.out,hx,hy];exact⟨rfl,(qbx H3.out.low (by omega) _ _ _ _ _ _).drew⟩
 clear HQ HA H3 hM;unfold set6 at HF;generalize qew p vl=q at *;cases ha:A==0
 rotate_left
 ·go_wp2_with fail
  go_region
  all_goals
   go_wp2
   exact HF.out _ _ _ (by rw[ha];rfl) (by rw[ha];rfl) rfl rfl rfl rfl
 cases hb:va==3
 rotate_left
 ·go_wp2_with fail
  go_region
  all_goals
   go_wp2
   exact HF.out _ _ _ (by rw[ha,hb];rfl) (by rw[ha,hb];rfl) rfl rfl rfl rfl
 rw[ha,hb]at HF;go_upto_region 27 with fail
 go_cut [49] (fun s wx=>s=.bool (vr || (decide (vc > 0) || (decide (vp > 0) || decide (vd > 0))))∧wx=wc)
 case first=>
  by_cases hr:vr=true
  ·subst hr
   go_wp2_with fail
   go_meet
   exact⟨rfl,rfl⟩
  have hr:vr=false:=Bool.eq_false_iff.2 hr;subst hr;by_cases h1:vc > 0<;>by_cases h2:vp > 0<;>by_cases h3:vd > 0
  all_goals
   go_wp2_with fail
   go_meet
   exact⟨by simp[h1,h2,h3],rfl⟩
 case rest=>
 obtain⟨rfl,rfl⟩:=hcut;generalize (vr || (decide (vc > 0) || (decide (vp > 0) || decide (vd > 0))))=X at HF ⊢;cases X
 all_goals
  go_wp2_with fail
  go_region
  all_goals
   go_wp2
   exact HF.out _ _ _ rfl rfl rfl rfl rfl rfl
theorem qo5(p:Pl.Sp)(w:World)(ht:p.tag.length≤1000)(ha:p.attr.length≤1000)(hi:p.inside.length≤1000)(Ha:p.run.length≤2000000000000000000) :
  Calls Tryz.prog 55 #[qat p] w fun e w'=>e=.returned (.tuple #[.int .i64 p.view.hole.1,.int .i64 p.view.hole.2,qat p.behindHole])∧Below w.heap.size w w':=
 q4g p p.view w rfl fun w=>qiq p w ht ha hi Ha
theorem Pl.spFromSnoc(p:Pl.Sp)(l:List UInt8)(b:UInt8):Pl.qc7 p (l++[b])=(Pl.qc7 p l).next b:=by simp[Pl.qc7]
theorem Pl.spFromOk(l:List UInt8):∀(p:Pl.Sp) (n:Nat),Pl.SpOk n p→Pl.SpOk (n+l.length) (Pl.qc7 p l):=by
 induction l with
 | nil=>intro p n h;exact h
 | cons x l ih=>
   intro p n h;have:=ih _ _ (Pl.q8f h x);rw[show n+(x::l).length=n+1+l.length by simp;omega];exact this
def Pl.wrongFrom(p:Pl.Sp)(g:Int)(i:Nat):List UInt8→Int
 | []=>g
 | b::l=>Pl.wrongFrom (p.next b) (if g<0∧b=58∧p.view.link=4 then i else g) (i+1) l
theorem Pl.wrongFrom_snoc(l:List UInt8):∀(p:Pl.Sp) (g:Int) (i:Nat) (b:UInt8),Pl.wrongFrom p g i (l++[b])=if Pl.wrongFrom p g i l<0∧b=58∧(Pl.qc7 p l).view.link=4 then((i+l.length:Nat):Int) else Pl.wrongFrom p g i l:=by
 induction l with
 | nil=>intro p g i b;rfl
 | cons x l ih=>
   intro p g i b;show Pl.wrongFrom (p.next x) _ (i+1) (l++[b])=_;rw[ih,show i+1+l.length=i+(x::l).length by simp;omega];rfl
theorem qm7{w:World}{g:Nat}{p:Pl.Sp}(h:SpAt w g p)(hg:g<w.heap.size)(o:Obj):SpAt (w.alloc o) g p:=h.kept ((Below.refl _ w).alloc (Nat.le_refl _) o) hg
structure ThRound(w0 w:World)(p:Pl.Sp)(s:ByteArray)(k:Nat):Prop where
 at':SpAt w w0.heap.size (Pl.qc7 p (s.data.toList.take k))
 slot:qfl w w0.heap.size
 res:qfl w (w0.heap.size+1)
 below:Below w0.heap.size w0 w
 far:w0.heap.size+1<w.heap.size
theorem ThRound.spot{w0 w:World}{p:Pl.Sp}{s:ByteArray}{k:Nat}(h:ThRound w0 w p s k){w2:World}(hb:Below w.heap.size w w2):ThRound w0 w2 p s k:=
 ⟨h.at'.kept hb h.slot.lt,h.slot.kept hb h.slot.lt,h.res.kept hb h.far,h.below.trans (hb.mono (Nat.le_of_lt (Nat.lt_of_le_of_lt (Nat.le_succ _) h.far))),Nat.lt_of_lt_of_le h.far hb.size⟩
theorem ThRound.set{w0 w:World}{p:Pl.Sp}{s:ByteArray}{k:Nat}(h:ThRound w0 w p s k)(Y:Pl.Sp)(hY:Pl.qc7 p (s.data.toList.take (k+1))=Y) :
  ThRound w0 (set6 w w0.heap.size (.int .i64 Y.mode) (.string ⟨Y.tag.toArray⟩) (.string ⟨Y.attr.toArray⟩) (.string ⟨Y.inside.toArray⟩) (.string ⟨Y.run.toArray⟩) (.int .i64 Y.far)) p s (k+1):=by
 have hb:=qbx (Below.refl w0.heap.size w) (Nat.le_refl _) (.int .i64 Y.mode) (.string ⟨Y.tag.toArray⟩) (.string ⟨Y.attr.toArray⟩) (.string ⟨Y.inside.toArray⟩) (.string ⟨Y.run.toArray⟩) (.int .i64 Y.far);have hc:=qjx h.slot (.int .i64 Y.mode) (.string ⟨Y.tag.toArray⟩) (.string ⟨Y.attr.toArray⟩) (.string ⟨Y.inside.toArray⟩) (.string ⟨Y.run.toArray⟩) (.int .i64 Y.far);refine⟨by rw[hY];exact⟨hc 0 _ rfl,hc 1 _ rfl,hc 2 _ rfl,hc 3 _ rfl,hc 4 _ rfl,hc 5 _ rfl⟩,qz8 h.slot _ _ _ _ _ _,?_,h.below.trans hb,Nat.lt_of_lt_of_le h.far hb.size⟩;obtain⟨cs,t,hg,hn⟩:=h.res;refine⟨cs,t,?_,hn⟩;unfold set6;have ne:∀j,w0.heap.size+1≠(⟨w0.heap.size,j,none⟩:Addr).block:=fun j=>by show w0.heap.size+1≠w0.heap.size;omega
 rw[Below.heap_setCell _ _ _ _ (ne 5),Below.heap_setCell _ _ _ _ (ne 4),Below.heap_setCell _ _ _ _ (ne 3),Below.heap_setCell _ _ _ _ (ne 2),Below.heap_setCell _ _ _ _ (ne 1),Below.heap_setCell _ _ _ _ (ne 0)];exact hg
theorem ThRound.drew{w0 w:World}{p:Pl.Sp}{s:ByteArray}{k:Nat}(h:ThRound w0 w p s k):ThRound w0 w.drew p s k:=⟨⟨h.at'.mode,h.at'.tag,h.at'.attr,h.at'.inside,h.at'.run,h.at'.far⟩,h.slot.drew,h.res.drew,h.below.drew,h.far⟩
theorem qis{P:Program}{fn:Func}{u p:Tmp}{ty:TypeId}(h:fn.results=#[.cell p ty,.tmp u])(tmps:Array Value)(w:World)(g:Nat)(cs:Array Value)(d:TypeDesc)(hp:tmps.getD p undef=.pointer (some ⟨g,0,none⟩))
  (hg:∀j v,cs.toList[j]?=some v→w.cell? ⟨g,j,none⟩=some v)
  (hu:P.underlying ty=some d) (hd:aggD d=true) (hi:(P.info? ty).map (·.size)=some cs.size) :
  (results fn tmps).run P w=.ok (.tuple #[.agg cs,tmps.getD u undef]) w:=by
 have hl:=qbl (P:=P) w g ty cs d hg hu (by cases d<;>first | rfl | cases hd) hi
 rw[Array.getD_eq_getD_getElem?]at hp;simp only[results,h];simp[hp,asAddr,hl]
end Go.Proofs.YtfkhljmiehdgmaaGreatDoor
