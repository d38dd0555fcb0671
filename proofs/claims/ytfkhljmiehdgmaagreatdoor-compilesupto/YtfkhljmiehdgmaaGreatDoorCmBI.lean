/-
  Steps of the proof.
-/
import Derived.Laws.Rows
import Derived.Test.YtfkhljmiehdgmaaGreatDoorCmBG
import Derived.Test.YtfkhljmiehdgmaaGreatDoorCmBH
import Derived.Deep.CutRange
import Derived.Test.YtfkhljmiehdgmaaGreatDoorCmBD
set_option maxRecDepth 100000
set_option maxHeartbeats 40000000
namespace Go.Proofs.YtfkhljmiehdgmaaGreatDoor
open Go.RowKit
namespace Pl
variable{x:UInt8}{t:List UInt8}
def qcc(b:UInt8):Nat:=if b=35 then 0 else if b=94 then 1 else if b=47 then 2 else if b=62 then 3 else 4
def qbg(k:Nat):Int:=if k=1 then 0 else if k=2 then 1 else if k=3\/k=4 then 2 else if k=5 then 3 else 4
def qfo(i:Nat):Int:=if i=0 then 2 else if i=1 then 2 else if i=2 then 3 else if i=3 then 4 else 1
def qi5(i:Nat)(c:List UInt8):List UInt8:=if i<4 then Go.Lib.trimS (c.drop 1) qah else c
def pcOk(i:Nat)(c:List UInt8):Bool:=if i=3 then qa6 (qi5 i c)else isNm (qi5 i c)
theorem q3u(b:UInt8):qcc b<=4:=by
 unfold qcc;repeat' split
 all_goals omega
theorem q5m{cs:List UInt8}(h:Go.Lib.trimRightS (x::t) cs=x::t):Go.Lib.trimRightS t cs=t:=by
 rw[qr3]at h;split at h
 ·next q=>
  split at h
  ·cases h
  ·injection h with _ h
   rw[<-h];rfl
 ·injection h
theorem q5l(h:Go.Lib.trimRightS (x::t) qah=x::t):Go.Lib.trimS t qah=Go.Lib.trimLeftS t qah:=by
 unfold Go.Lib.trimS;rw[q5m h]
theorem qkn(b:UInt8)(l:List UInt8)(ha:b≠33)(Ha:b≠61)(hR:Go.Lib.trimRightS (b::l) qah=b::l) :
  qbg (qa9 (b::l)).kind=qfo (qcc b)/\(qa9 (b::l)).slip=(if pcOk (qcc b) (b::l)=true then 0 else 3)/\((qa9 (b::l)).slip=0->(qa9 (b::l)).name=qi5 (qcc b) (b::l))/\decide ((qa9 (b::l)).kind=4)=decide (qcc b=1):=by
 have hl:=q5l hR;have e:qa0 (b::l)=if b=35 then 3 else if b=94 then 4 else if b=47 then 5 else if b=62 then 6 else 2:=by
  show(if b=33 then 7 else if b=61 then 8 else _)=_;rw[if_neg ha,if_neg Ha]
 have key:∀(k:Nat) (n:List UInt8),(qca k n).kind=k/\(qca k n).slip=(if(if k=6 then qa6 n else isNm n)=true then 0 else 3)/\((qca k n).slip=0->(qca k n).name=n):=by
  intro k n;unfold qca;by_cases q:(if k=6 then qa6 n else isNm n)=true
  ·rw[if_pos q,if_pos q];exact⟨rfl,rfl,fun _=>rfl⟩
  ·rw[if_neg q,if_neg q];exact⟨rfl,rfl,fun z=>by cases z⟩
 unfold qa9;rw[e];unfold qcc pcOk qi5;by_cases c1:b=35
 ·simp only[c1,if_true]
  obtain⟨k1,k2,k3⟩:=key 3 (Go.Lib.trimLeftS l qah);refine⟨?_,?_,fun q=>(k3 q).trans ?_,?_⟩
  all_goals simp[k1,k2,hl,qbg,qfo]
 by_cases c2:b=94
 ·simp only[c2]
  obtain⟨k1,k2,k3⟩:=key 4 (Go.Lib.trimLeftS l qah);refine⟨?_,?_,fun q=>(k3 q).trans ?_,?_⟩
  all_goals simp[k1,k2,hl,qbg,qfo]
 by_cases c3:b=47
 ·simp only[c3]
  obtain⟨k1,k2,k3⟩:=key 5 (Go.Lib.trimLeftS l qah);refine⟨?_,?_,fun q=>(k3 q).trans ?_,?_⟩
  all_goals simp[k1,k2,hl,qbg,qfo]
 by_cases c4:b=62
 ·simp only[c4]
  obtain⟨k1,k2,k3⟩:=key 6 (Go.Lib.trimLeftS l qah);refine⟨?_,?_,fun q=>(k3 q).trans ?_,?_⟩
  all_goals simp[k1,k2,hl,qbg,qfo]
 ·simp only[if_neg c1,if_neg c2,if_neg c3,if_neg c4]
  obtain⟨k1,k2,k3⟩:=key 2 (b::l);refine⟨?_,?_,fun q=>(k3 q).trans ?_,?_⟩
  all_goals simp[k1,k2,qbg,qfo]
end Pl
variable{w0 w:World}{kd:Int}{a:Nat}{tx:ByteArray}{pv:Value}{tn:Bool}
def qb9(kd:Int)(a:Nat)(tx:ByteArray)(pv:Value)(tn:Bool)(en:Int):Array Value:=#[.int .i64 kd,.int .i64 a,.string tx,pv,.bool tn,.int .i64 en]
structure PcM(w0 w:World)(kd:Int)(a:Nat)(tx:ByteArray)(pv:Value)(tn:Bool):Prop where
 blk:w.heap[w0.heap.size+1]?=some (.cells (qb9 kd a tx pv tn 0) 136 (0,0))
 res:qfn w w0.heap.size
 kin:w.heap[w0.heap.size+1+1]?=some (.cells #[.int .i64 2,.int .i64 2,.int .i64 3,.int .i64 4] 3 (0,0))
 below:Below w0.heap.size w0 w
 sz:w0.heap.size+3<=w.heap.size
theorem PcM.kept{w':World}(h:PcM w0 w kd a tx pv tn)(hb:Below w.heap.size w w'):PcM w0 w' kd a tx pv tn:=by
 have:=h.sz;exact⟨(hb.block _ (by omega)).trans h.blk,h.res.kept hb (by omega),(hb.block _ (by omega)).trans h.kin,h.below.trans (hb.mono (by omega)),Nat.le_trans h.sz hb.size⟩
theorem qov(w:World)(g:Nat)(kd:Int)(a:Nat)(tx:ByteArray)(pv:Value)(tn:Bool)(h:w.heap[g]?=some (.cells (qb9 kd a tx pv tn 0) 136 (0,0))) :
  (∀z,(w.setCell ⟨g,0,none⟩ (.int .i64 z)).heap[g]?=some (.cells (qb9 z a tx pv tn 0) 136 (0,0))) /\
  (∀z,(w.setCell ⟨g,2,none⟩ (.string z)).heap[g]?=some (.cells (qb9 kd a z pv tn 0) 136 (0,0))) /\
  (∀z,(w.setCell ⟨g,3,none⟩ z).heap[g]?=some (.cells (qb9 kd a tx z tn 0) 136 (0,0))) /\
  (∀z,(w.setCell ⟨g,4,none⟩ (.bool z)).heap[g]?=some (.cells (qb9 kd a tx pv z 0) 136 (0,0))):=
 ⟨fun _=>heap_setCell_same w g 0 _ _ _ h,fun _=>heap_setCell_same w g 2 _ _ _ h,fun _=>heap_setCell_same w g 3 _ _ _ h,fun _=>heap_setCell_same w g 4 _ _ _ h⟩
theorem PcM.set(h:PcM w0 w kd a tx pv tn)(j:Nat)(v:Value){kd':Int}{tx':ByteArray}{pv':Value}{tn':Bool}
  (hb:(w.setCell ⟨w0.heap.size+1,j,none⟩ v).heap[w0.heap.size+1]?=some (.cells (qb9 kd' a tx' pv' tn' 0) 136 (0,0))):PcM w0 (w.setCell ⟨w0.heap.size+1,j,none⟩ v) kd' a tx' pv' tn':=by
 have hs:(w.setCell ⟨w0.heap.size+1,j,none⟩ v).heap.size=w.heap.size:=by simp
 refine⟨hb,?_,(heap_setCell_other _ _ _ _ (by simp)).trans h.kin,h.below.setCell (by simp) _,by rw[hs];exact h.sz⟩;obtain⟨cs,t,h1,h2⟩:=h.res;exact⟨cs,t,(heap_setCell_other _ _ _ _ (by simp)).trans h1,h2⟩
theorem PcM.cells(h:PcM w0 w kd a tx pv tn):∀(j:Nat) (v:Value),(qb9 kd a tx pv tn 0).toList[j]?=some v->w.cell? ⟨w0.heap.size+1,j,none⟩=some v:=qaa h.blk
theorem PcM.kinds(h:PcM w0 w kd a tx pv tn)(i:Nat)(hi:i<4):w.cell? ⟨w0.heap.size+1+1,i,none⟩=some (.int .i64 (Pl.qfo i)):=by
 have:=qaa h.kin
 match i,hi with
 |0,_=>exact this 0 _ rfl
 |1,_=>exact this 1 _ rfl
 |2,_=>exact this 2 _ rfl
 |3,_=>exact this 3 _ rfl
theorem PcM.thaw(h:PcM w0 w kd a tx pv tn)(j:Nat):w.frozen? ⟨w0.heap.size+1,j,none⟩=false:=frozen_of_row w _ j _ _ h.blk
theorem qpa:(Tryz.prog.info? 136).map (·.size)=some 6:=by kernel_rfl
theorem zay(w:World)(o:Obj)(a:Addr)(h:a.block<w.heap.size):(w.alloc o).cell? a=w.cell? a:=by
 unfold World.cell?;rw[heap_alloc_old w o h]
theorem qlt{P:Program}{fn:Func}{R:Ending->World->Prop}{a:Act}{u p:Tmp}{ty:TypeId}(h:fn.results=#[.cell p ty,.tmp u])(g:Nat)(d:TypeDesc)(hu:P.underlying ty=some d)(hd:aggD d=true)(cs:Array Value)(hi:(P.info? ty).map (·.size)=some cs.size)
  (hp:a.tmps.getD p undef=.pointer (some ⟨g,0,none⟩)) (hg:∀j v,cs.toList[j]?=some v->w.cell? ⟨g,j,none⟩=some v) (ha:a.defers=[]) (y:Value) (hy:a.tmps.getD u undef=y) (hR:R (.returned (.tuple #[.agg cs,y])) w):bodyPost P fn R .ret a w:=by
 subst hy;exact bodyPost_ret (qiv h a.tmps _ g _ d hp hg hu hd hi) ha hR
theorem q3k(a:Nat)(w:World) :
  Calls Tryz.prog 83 #[.string ⟨#[]⟩,.int .i64 a] w fun e w'=>e=.returned (.tuple #[.agg (qb9 1 a ⟨#[]⟩ (.slice none 0 0) false 0),.int .i64 3])/\Below w.heap.size w w':=by
 go_enter Tryz.func83,Tryz.ntmps83
 go_wp2_with fail
 refine qlt Tryz.results83 w.heap.size _ Tryz.underlying136 rfl (qb9 1 a ⟨#[]⟩ (.slice none 0 0) false 0) qpa rfl ?_ rfl _ rfl ?_
 ·intro j v hj
  rw[zay _ _ _ (by simp)];exact qaa (heap_alloc_new w _) j v hj
 ·exact⟨rfl,(ba _).alloc (by simp) _⟩
theorem qqv(c:ByteArray)(a:Nat)(w:World)(hc:c.size<=1000000)(h0:0<c.size) :
  Calls Tryz.prog 83 #[.string c,.int .i64 a] w fun e w'=>(∃ao n cap,e=.returned (.tuple #[.agg (qb9 (Pl.qfo (Pl.qcc c[0])) a ⟨(Pl.qi5 (Pl.qcc c[0]) c.data.toList).toArray⟩ (.slice ao n cap) (decide (Pl.qcc c[0]=1)) 0),.int .i64 (if Pl.pcOk (Pl.qcc c[0]) c.data.toList=true then 0 else 3)]))/\Below w.heap.size w w':=by
 have Hn:(c.toList==[])=false:=by
  rw[ByteArray.toList_eq,beq_eq_false_iff_ne];intro e;have:c.data.toList.length=c.size:=rfl;rw[e]at this;simp at this;omega
 have Hk:=Pl.q3u c[0];have HM:Hid (∀k:Nat,k<4->∀(h:k<(⟨#[35,94,47,62]⟩:ByteArray).size),((c[0].toNat:Int)==((⟨#[35,94,47,62]⟩:ByteArray)[k].toNat:Int))=decide (k=Pl.qcc c[0])):=by
  intro k hk h;rw[Pl.beq8,Bool.eq_iff_iff,beq_iff_eq,decide_eq_true_iff];have hm:∀b:UInt8,((b=35)↔Pl.qcc b=0)/\((b=94)↔Pl.qcc b=1)/\((b=47)↔Pl.qcc b=2)/\((b=62)↔Pl.qcc b=3):=by
   have:∀n∈List.range 256,((UInt8.ofNat n=35)↔Pl.qcc (UInt8.ofNat n)=0)/\((UInt8.ofNat n=94)↔Pl.qcc (UInt8.ofNat n)=1)/\((UInt8.ofNat n=47)↔Pl.qcc (UInt8.ofNat n)=2)/\((UInt8.ofNat n=62)↔Pl.qcc (UInt8.ofNat n)=3):=by decide +kernel
   intro b;have:=this b.toNat (List.mem_range.2 b.toNat_lt)
   rwa [UInt8.ofNat_toNat]at this
  obtain⟨m0,m1,m2,m3⟩:=hm c[0]
  match k,hk with
  |0,_=>exact m0.trans ⟨fun q=>q.symm,fun q=>q.symm⟩
  |1,_=>exact m1.trans ⟨fun q=>q.symm,fun q=>q.symm⟩
  |2,_=>exact m2.trans ⟨fun q=>q.symm,fun q=>q.symm⟩
  |3,_=>exact m3.trans ⟨fun q=>q.symm,fun q=>q.symm⟩
 have H0:Hid (∀W0,((w.alloc (.cells #[.int .i64 0,.int .i64 0,.string ⟨#[]⟩,.slice none 0 0,.bool false,.int .i64 0] 136)).alloc (.cells #[.int .i64 1,.int .i64 a,.string c,.slice none 0 0,.bool false,.int .i64 0] 136)).alloc (.cells #[.int .i64 2,.int .i64 2,.int .i64 3,.int .i64 4] 3)=W0->PcM w W0 1 a c (.slice none 0 0) false):=by
  rintro W0 rfl;refine⟨?_,?_,?_,((ba _).alloc (by simp) _).alloc (by rw[qkk,qkk];omega) _,by simp⟩
  ·rw[heap_alloc_old _ _ (by simp)]
   have:=heap_alloc_new (w.alloc (.cells #[.int .i64 0,.int .i64 0,.string ⟨#[]⟩,.slice none 0 0,.bool false,.int .i64 0] 136)) (.cells #[.int .i64 1,.int .i64 a,.string c,.slice none 0 0,.bool false,.int .i64 0] 136);rw[qkk]at this;exact this
  ·exact((qom w _ _ _ rfl rfl).alloc _).alloc _
  ·have:=heap_alloc_new ((w.alloc (.cells #[.int .i64 0,.int .i64 0,.string ⟨#[]⟩,.slice none 0 0,.bool false,.int .i64 0] 136)).alloc (.cells #[.int .i64 1,.int .i64 a,.string c,.slice none 0 0,.bool false,.int .i64 0] 136)) (.cells #[.int .i64 2,.int .i64 2,.int .i64 3,.int .i64 4] 3)
   rw[qkk,qkk]at this;exact this
 obtain⟨D,hD⟩:∃D:ByteArray,D=⟨#[35,94,47,62]⟩:=⟨_,rfl⟩;rw[<-hD]at HM;have ho:D.size=4:=by rw[hD];rfl
 have HT:Hid (∀w,Calls Tryz.prog 82 #[.string (c.extract 1 c.size)] w fun e w'=>e=.returned (.string ⟨(Go.Lib.trimS (c.data.toList.drop 1) Pl.qah).toArray⟩)/\w=w'):=by
  intro w;have hz:(c.extract 1 c.size).size<=1000000:=by rw[Pl.extract_drop,qbz,List.length_drop];show c.size - 1<=_;omega
  have:=qoc (c.extract 1 c.size) w hz;have e:(c.extract 1 c.size).data.toList=c.data.toList.drop 1:=by rw[Pl.extract_drop]
  rwa [e]at this
 have HX:Hid (∀t:ByteArray,t=⟨(Go.Lib.trimS (c.data.toList.drop 1) Pl.qah).toArray⟩->∀m:Nat,cond (decide (m<4)) t c=⟨(Pl.qi5 m c.data.toList).toArray⟩):=by
  rintro t rfl m;unfold Pl.qi5;by_cases q:m<4
  ·rw[decide_eq_true q,if_pos q];rfl
  ·rw[decide_eq_false q,if_neg q];rfl
 obtain⟨tx,Hb⟩:∃tx:ByteArray,tx=⟨(Go.Lib.trimS (c.data.toList.drop 1) Pl.qah).toArray⟩:=⟨_,rfl⟩;have HX:=hd (HX.out tx Hb);rw[<-Hb]at HT;obtain⟨T,hT⟩:∃T:ByteArray,T=⟨(Pl.qi5 (Pl.qcc c[0]) c.data.toList).toArray⟩:=⟨_,rfl⟩;have Hf:Pl.pcOk (Pl.qcc c[0]) c.data.toList=if Pl.qcc c[0]=3 then Pl.qa6 T.data.toList else Pl.isNm T.data.toList:=by rw[hT];rfl
 have zT:T.size<=1000000:=by
  rw[hT,qbz];unfold Pl.qi5 Go.Lib.trimS;have hl:c.data.toList.length=c.size:=rfl;split
  ·have h1:=Pl.qib (Go.Lib.trimRightS (c.data.toList.drop 1) Pl.qah) Pl.qah
   have h2:=Pl.qk8 (c.data.toList.drop 1) Pl.qah;rw[List.length_drop]at h2;omega
  ·omega
 have Hc:Hid (cond (decide (Pl.qcc c[0]<4)) tx c=T):=(HX.out _).trans hT.symm;rw[Hf,<-hT];clear Hf hT HX;obtain⟨mn,hg⟩:∃mn,mn=Pl.qcc c[0]:=⟨_,rfl⟩;rw[<-hg]at HM Hk Hc |-;obtain⟨sl,he⟩:∃sl:Int,sl=if(if mn=3 then Pl.qa6 T.data.toList else Pl.isNm T.data.toList)=true then 0 else 3:=⟨_,rfl⟩;rw[<-he];have hb:=(show Hid (sl=_)from he);clear he;have Ho:(0:Int)<(c.size:Int):=by omega
 go_enter Tryz.func83,Tryz.ntmps83
 go_wp2_with fail
 rw[<-hD];clear hD Hb hg;generalize hW:World.alloc (World.alloc (World.alloc w _) _) _=W0;have Hg:=hd (H0.out W0 hW);clear H0 hW;go_loopw [9] (fun i wr=>∃k:Nat,k<=4/\i=.int .i64 k/\Hid (PcM w wr (cond (decide (mn<k)) (Pl.qfo mn) 1) a (cond (decide (mn<k)) tx c) (.slice none 0 0) (cond (decide (mn<k)) (decide (mn=1)) false))) (fun i _=>4 - (intOf i).toNat)
 case atStart=>exact⟨0,Nat.zero_le _,rfl,Hg⟩
 case round=>
  obtain⟨k,hk,rfl,HP⟩:=hrel;by_cases hi:k<4
  rotate_left
  ·have Hl:k=4:=by omega
   subst Hl;have Hi:Hid (PcM w wr (Pl.qfo mn) a T (.slice none 0 0) (decide (mn=1))):=by
    have:=HP.out;rw[Hc.out]at this;by_cases q:mn<4
    ·rw[decide_eq_true q]at this;exact this
    ·have e4:mn=4:=by omega
     rw[decide_eq_false q]at this;rw[e4]at this |-;exact this
   clear Hc HM Hg HP HT;have hj:=Hi.out.cells;have q12:=hj 2 _ rfl;clear hj;have HN:Hid (∀w1 v L,qgf wr.heap.size w1 v L->Below wr.heap.size wr w1->∃ao n cap,v=.slice ao n cap/\PcM w w1 (Pl.qfo mn) a T (.slice none 0 0) (decide (mn=1))):=by
    intro w1 v L hO hB;obtain⟨ao,cap,rfl⟩:=hO.slice;exact⟨ao,L.length,cap,rfl,Hi.out.kept hB⟩
   have He:¬(((4:Nat):Int)<4):=by omega
   by_cases h3:mn=3
   ·have k3:(Pl.qfo mn==4)=true:=by rw[h3];rfl
    have H3:=(show Hid (mn=3)from h3);clear h3;cases ha:Pl.qa6 T.data.toList
    ·have HV:Hid (sl=3):=by show _=_;rw[hb.out,if_pos H3.out,ha];rfl
     go_wp2_with (first|(go_at_call 120;refine(qjy T _ zT).mono ?_;rintro e w1 ⟨⟨v,rfl,L,hO,_⟩,hB⟩;obtain⟨ao,n,cap,rfl,hM⟩:=HN.out w1 v L hO hB;clear hO hB;have q0:=hM.cells 0 _ rfl;have q1:=hM.cells 1 _ rfl;have q2:=hM.cells 2 _ rfl;have q3:=hM.cells 3 _ rfl;have q4:=hM.cells 4 _ rfl;have q5:=hM.cells 5 _ rfl;have f3:=hM.thaw 3;have g0:=hM.res.thaw 0;have g1:=hM.res.thaw 1;have g2:=hM.res.thaw 2;have g3:=hM.res.thaw 3;have g4:=hM.res.thaw 4;have g5:=hM.res.thaw 5;obtain⟨x0,r0⟩:=hM.res.cell 0 (by decide);obtain⟨x1,r1⟩:=hM.res.cell 1 (by decide);obtain⟨x2,r2⟩:=hM.res.cell 2 (by decide);obtain⟨x3,r3⟩:=hM.res.cell 3 (by decide);obtain⟨x4,r4⟩:=hM.res.cell 4 (by decide);obtain⟨x5,r5⟩:=hM.res.cell 5 (by decide);have HM:=hd hM;clear hM)|(go_at_call 52;refine(qfz T _ zT).mono ?_;rintro e w2 ⟨rfl,rfl⟩;rw[ha]))
     refine qbm Tryz.results83 w.heap.size _ Tryz.underlying136 rfl qpa rfl ((HM.out.set 3 _ ((qov _ _ _ _ _ _ _ HM.out.blk).2.2.1 (.slice ao n cap))).res) rfl _ _ _ _ _ _ _ rfl ?_;exact⟨⟨ao,n,cap,by rw[HV.out];rfl⟩,qbx (HM.out.below.setCell (by simp) _) (Nat.le_refl _) _ _ _ _ _ _⟩
    ·have HV:Hid (sl=0):=by show _=_;rw[hb.out,if_pos H3.out,ha];rfl
     go_wp2_with (first|(go_at_call 120;refine(qjy T _ zT).mono ?_;rintro e w1 ⟨⟨v,rfl,L,hO,_⟩,hB⟩;obtain⟨ao,n,cap,rfl,hM⟩:=HN.out w1 v L hO hB;clear hO hB;have q0:=hM.cells 0 _ rfl;have q1:=hM.cells 1 _ rfl;have q2:=hM.cells 2 _ rfl;have q3:=hM.cells 3 _ rfl;have q4:=hM.cells 4 _ rfl;have q5:=hM.cells 5 _ rfl;have f3:=hM.thaw 3;have g0:=hM.res.thaw 0;have g1:=hM.res.thaw 1;have g2:=hM.res.thaw 2;have g3:=hM.res.thaw 3;have g4:=hM.res.thaw 4;have g5:=hM.res.thaw 5;obtain⟨x0,r0⟩:=hM.res.cell 0 (by decide);obtain⟨x1,r1⟩:=hM.res.cell 1 (by decide);obtain⟨x2,r2⟩:=hM.res.cell 2 (by decide);obtain⟨x3,r3⟩:=hM.res.cell 3 (by decide);obtain⟨x4,r4⟩:=hM.res.cell 4 (by decide);obtain⟨x5,r5⟩:=hM.res.cell 5 (by decide);have HM:=hd hM;clear hM)|(go_at_call 52;refine(qfz T _ zT).mono ?_;rintro e w2 ⟨rfl,rfl⟩;rw[ha]))
     refine qbm Tryz.results83 w.heap.size _ Tryz.underlying136 rfl qpa rfl ((HM.out.set 3 _ ((qov _ _ _ _ _ _ _ HM.out.blk).2.2.1 (.slice ao n cap))).res) rfl _ _ _ _ _ _ _ rfl ?_;exact⟨⟨ao,n,cap,by rw[HV.out];rfl⟩,qbx (HM.out.below.setCell (by simp) _) (Nat.le_refl _) _ _ _ _ _ _⟩
   ·have k3:(Pl.qfo mn==4)=false:=by
     rw[beq_eq_false_iff_ne];unfold Pl.qfo
     repeat' split
     all_goals omega
    have H3:=(show Hid (¬mn=3)from h3);clear h3;cases ha:Pl.isNm T.data.toList
    ·have HV:Hid (sl=3):=by show _=_;rw[hb.out,if_neg H3.out,ha];rfl
     go_wp2_with (first|(go_at_call 120;refine(qjy T _ zT).mono ?_;rintro e w1 ⟨⟨v,rfl,L,hO,_⟩,hB⟩;obtain⟨ao,n,cap,rfl,hM⟩:=HN.out w1 v L hO hB;clear hO hB;have q0:=hM.cells 0 _ rfl;have q1:=hM.cells 1 _ rfl;have q2:=hM.cells 2 _ rfl;have q3:=hM.cells 3 _ rfl;have q4:=hM.cells 4 _ rfl;have q5:=hM.cells 5 _ rfl;have f3:=hM.thaw 3;have g0:=hM.res.thaw 0;have g1:=hM.res.thaw 1;have g2:=hM.res.thaw 2;have g3:=hM.res.thaw 3;have g4:=hM.res.thaw 4;have g5:=hM.res.thaw 5;obtain⟨x0,r0⟩:=hM.res.cell 0 (by decide);obtain⟨x1,r1⟩:=hM.res.cell 1 (by decide);obtain⟨x2,r2⟩:=hM.res.cell 2 (by decide);obtain⟨x3,r3⟩:=hM.res.cell 3 (by decide);obtain⟨x4,r4⟩:=hM.res.cell 4 (by decide);obtain⟨x5,r5⟩:=hM.res.cell 5 (by decide);have HM:=hd hM;clear hM))
     refine qbm Tryz.results83 w.heap.size _ Tryz.underlying136 rfl qpa rfl ((HM.out.set 3 _ ((qov _ _ _ _ _ _ _ HM.out.blk).2.2.1 (.slice ao n cap))).res) rfl _ _ _ _ _ _ _ rfl ?_;exact⟨⟨ao,n,cap,by rw[HV.out];rfl⟩,qbx (HM.out.below.setCell (by simp) _) (Nat.le_refl _) _ _ _ _ _ _⟩
    ·have HV:Hid (sl=0):=by show _=_;rw[hb.out,if_neg H3.out,ha];rfl
     go_wp2_with (first|(go_at_call 120;refine(qjy T _ zT).mono ?_;rintro e w1 ⟨⟨v,rfl,L,hO,_⟩,hB⟩;obtain⟨ao,n,cap,rfl,hM⟩:=HN.out w1 v L hO hB;clear hO hB;have q0:=hM.cells 0 _ rfl;have q1:=hM.cells 1 _ rfl;have q2:=hM.cells 2 _ rfl;have q3:=hM.cells 3 _ rfl;have q4:=hM.cells 4 _ rfl;have q5:=hM.cells 5 _ rfl;have f3:=hM.thaw 3;have g0:=hM.res.thaw 0;have g1:=hM.res.thaw 1;have g2:=hM.res.thaw 2;have g3:=hM.res.thaw 3;have g4:=hM.res.thaw 4;have g5:=hM.res.thaw 5;obtain⟨x0,r0⟩:=hM.res.cell 0 (by decide);obtain⟨x1,r1⟩:=hM.res.cell 1 (by decide);obtain⟨x2,r2⟩:=hM.res.cell 2 (by decide);obtain⟨x3,r3⟩:=hM.res.cell 3 (by decide);obtain⟨x4,r4⟩:=hM.res.cell 4 (by decide);obtain⟨x5,r5⟩:=hM.res.cell 5 (by decide);have HM:=hd hM;clear hM))
     refine qbm Tryz.results83 w.heap.size _ Tryz.underlying136 rfl qpa rfl ((HM.out.set 3 _ ((qov _ _ _ _ _ _ _ HM.out.blk).2.2.1 (.slice ao n cap))).res) rfl _ _ _ _ _ _ _ rfl ?_;exact⟨⟨ao,n,cap,by rw[HV.out];rfl⟩,qbx (HM.out.below.setCell (by simp) _) (Nat.le_refl _) _ _ _ _ _ _⟩
  have He:(k:Int)<4:=by omega
  have Hm:(k:Int)<(D.size:Int):=by omega
  have hf:k<D.size:=by omega
  have hq:=HM.out k hi hf;by_cases Hj:k=mn
  rotate_left
  ·rw[decide_eq_false Hj]at hq
   have hn:Hid (PcM w wr (cond (decide (mn<k+1)) (Pl.qfo mn) 1) a (cond (decide (mn<k+1)) tx c) (.slice none 0 0) (cond (decide (mn<k+1)) (decide (mn=1)) false)):=by
    have e:decide (mn<k+1)=decide (mn<k):=decide_eq_decide.2 (by omega);rw[e];exact HP.out
   clear HP HM;go_wp2_with fail
   go_region
   all_goals
    go_wp2
    go_roundw
    case rel=>exact⟨k+1,by omega,by go_num,hn.out.kept ((Below.refl _ _).drew)⟩
    case measure=>simp[intOf];omega
  ·subst Hj
   rw[decide_eq_true rfl]at hq;have q2:=HP.out.kinds k hi;have Ha:Hid (PcM w wr 1 a c (.slice none 0 0) false):=by
    have:=HP.out;rw[decide_eq_false (Nat.lt_irrefl k)]at this;exact this
   clear HP HM;have qc:=Ha.out.cells;have q10:=qc 0 _ rfl;have q14:=qc 4 _ rfl;have q12:=qc 2 _ rfl;have f10:=Ha.out.thaw 0;have f12:=Ha.out.thaw 2;have f14:=Ha.out.thaw 4;clear qc;go_wp2_with (go_at_call 82;refine(HT.out _).mono ?_;rintro e w' ⟨rfl,rfl⟩)
   go_region
   all_goals
    go_wp2_with (go_at_call 82;refine(HT.out _).mono ?_;rintro e w' ⟨rfl,rfl⟩)
    refine⟨⟨k+1,by omega,by go_num,?_⟩,by simp[intOf];omega⟩;have h1:=Ha.out.set 0 _ ((qov _ _ _ _ _ _ _ Ha.out.blk).1 (Pl.qfo k));have h2:=h1.set 4 _ ((qov _ _ _ _ _ _ _ h1.blk).2.2.2 ((k:Int)==1));have h3:=h2.set 2 _ ((qov _ _ _ _ _ _ _ h2.blk).2.1 tx);have e:((k:Int)==1)=decide (k=1):=by rw[Bool.eq_iff_iff,beq_iff_eq,decide_eq_true_iff];omega
    rw[decide_eq_true (Nat.lt_succ_self k)];rw[e]at h3 |-;exact h3.kept ((Below.refl _ _).drew)
end Go.Proofs.YtfkhljmiehdgmaaGreatDoor
namespace Go.Proofs.YtfkhljmiehdgmaaGreatDoor.Pl
theorem qvi(p:UInt8->Bool):∀l:List UInt8,l.dropWhile p=[]↔∀b∈l,p b=true
 |[]=>⟨fun _ b hb=>(by cases hb),fun _=>rfl⟩
 |x::l=>by
   by_cases q:p x=true
   ·rw[List.dropWhile_cons_of_pos q,qvi p l]
    exact⟨fun h b hb=>(List.mem_cons.1 hb).elim (fun e=>e▸q) (h b),fun h b hb=>h b (List.mem_cons_of_mem _ hb)⟩
   ·rw[List.dropWhile_cons_of_neg q]
    exact⟨fun h=>(by cases h),fun h=>absurd (h x List.mem_cons_self) q⟩
theorem q7t(p:UInt8->Bool):∀l:List UInt8,∀b∈l.takeWhile p,p b=true
 |[],b,hb=>by cases hb
 |x::l,b,hb=>by
   by_cases q:p x=true
   ·rw[List.takeWhile_cons_of_pos q]at hb
    rcases List.mem_cons.1 hb with rfl|hb
    ·exact q
    ·exact q7t p l b hb
   ·rw[List.takeWhile_cons_of_neg q]at hb;cases hb
theorem q2n(cs l m:List UInt8):Go.Lib.trimRightS (l++m) cs=if Go.Lib.trimRightS m cs=[]then Go.Lib.trimRightS l cs else l++Go.Lib.trimRightS m cs:=by
 unfold Go.Lib.trimRightS;rw[List.reverse_append,List.dropWhile_append];cases h:m.reverse.dropWhile (cs.contains ·)with
 |nil=>simp
 |cons a t=>simp
theorem q2m(cs m:List UInt8):Go.Lib.trimRightS m cs=[]↔∀b∈m,cs.contains b=true:=by
 unfold Go.Lib.trimRightS;rw[List.reverse_eq_nil_iff];constructor
 ·intro h b hb
  have:=(qvi _ _).1 h b (List.mem_reverse.2 hb);exact this
 ·intro h
  exact(qvi _ _).2 (fun b hb=>h b (List.mem_reverse.1 hb))
theorem q5n(cs m:List UInt8)(h:Go.Lib.trimRightS m cs≠[]):∃b∈m,cs.contains b=false/\(Go.Lib.trimRightS m cs).getLast?=some b:=by
 unfold Go.Lib.trimRightS at h |-;cases hd:m.reverse.dropWhile (cs.contains ·)with
 |nil=>rw[hd]at h;exact absurd rfl h
 |cons b t=>
   refine⟨b,?_,?_,by simp⟩
   ·have:b∈m.reverse.dropWhile (cs.contains ·):=by rw[hd];exact List.mem_cons_self
    exact List.mem_reverse.1 ((List.dropWhile_sublist _).subset this)
   ·have:=List.head?_dropWhile_not (cs.contains ·) m.reverse
    rw[hd]at this;simpa using this
theorem q8b(cs l m:List UInt8)(h:∀b∈l,cs.contains b=true):Go.Lib.trimLeftS (l++m) cs=Go.Lib.trimLeftS m cs:=by
 unfold Go.Lib.trimLeftS;rw[List.dropWhile_append,(qvi _ _).2 h];rfl
theorem q5o(cs l m:List UInt8)(h:¬ ∀b∈l,cs.contains b=true):∃b∈l,(Go.Lib.trimLeftS (l++m) cs).head?=some b:=by
 unfold Go.Lib.trimLeftS;rw[List.dropWhile_append];cases hd:l.dropWhile (cs.contains ·)with
 |nil=>exact absurd ((qvi _ _).1 hd) h
 |cons b t=>
   refine⟨b,?_,by simp⟩;have:b∈l.dropWhile (cs.contains ·):=by rw[hd];exact List.mem_cons_self
   exact(List.dropWhile_sublist _).subset this
theorem qun(t:List UInt8):∀a,a<=t.length->(∀b∈(t.drop (lnF t a)).take (a - lnF t a),b≠10)/\(lnF t a=0\/∃l,t.take (lnF t a)=l++[10])
 |0,_=>⟨fun b hb=>by simp[lnF]at hb,.inl rfl⟩
 |a+1,h=>by
   unfold lnF;split
   ·next q=>
    refine⟨fun b hb=>(by rw[Nat.sub_self]at hb;cases hb),.inr ⟨t.take a,?_⟩⟩;obtain⟨h1,h2⟩:=List.getElem?_eq_some_iff.1 q;rw[List.take_succ_eq_append_getElem h1,h2]
   ·next q=>
    obtain⟨h1,h2⟩:=qun t a (by omega);have ha:=qy8 t a;refine⟨fun b hb=>?_,h2⟩;rw[show a+1 - lnF t a=(a - lnF t a)+1 by omega,List.take_succ_eq_append_getElem (by rw[List.length_drop];omega)]at hb;rcases List.mem_append.1 hb with hb|hb
    ·exact h1 b hb
    ·rw[List.mem_singleton.1 hb,List.getElem_drop]
     intro e;apply q;rw[<-e,List.getElem?_eq_getElem (by omega)]
     congr 2;omega
theorem q30(b:UInt8)(h:b≠10):qdp.contains b=among b qah:=by
 have:∀n∈List.range 256,UInt8.ofNat n≠10->qdp.contains (UInt8.ofNat n)=among (UInt8.ofNat n) qah:=by decide +kernel
 have:=this b.toNat (List.mem_range.2 b.toNat_lt);rw[UInt8.ofNat_toNat]at this;exact this h
theorem qn3{m:List UInt8}(h:∀b∈m,b≠10):(∀b∈m,qdp.contains b=true)↔m.all (fun x=>among x qah)=true:=by
 rw[List.all_eq_true];exact⟨fun q b hb=>by rw[<-q30 b (h b hb)];exact q b hb,fun q b hb=>by rw[q30 b (h b hb)];exact q b hb⟩
theorem q7n(t:List UInt8)(a:Nat)(ha:a<=t.length):((Go.Lib.trimRightS (t.take a) qdp).getLast?.any (·!= 10)=!(emp t (lnF t a) a))/\(emp t (lnF t a) a=true->(Go.Lib.trimRightS (t.take a) qdp).length=lnF t a):=by
 obtain⟨h1,h2⟩:=qun t a ha;have Ha:=qy8 t a;have e:t.take a=t.take (lnF t a)++(t.drop (lnF t a)).take (a - lnF t a):=by
  rw[<-List.take_add,Nat.add_sub_cancel' Ha]
 have hf:Go.Lib.trimRightS (t.take (lnF t a)) qdp=t.take (lnF t a)/\(t.take (lnF t a)).getLast?.any (·!= 10)=false:=by
  rcases h2 with h2|⟨l,h2⟩
  ·rw[h2];exact⟨rfl,rfl⟩
  ·rw[h2,q2n]
   exact⟨rfl,by simp⟩
 unfold emp;rw[e,q2n];generalize (t.drop (lnF t a)).take (a - lnF t a)=m at h1;by_cases q:Go.Lib.trimRightS m qdp=[]
 ·have hm:=(qn3 h1).1 ((q2m _ _).1 q)
  rw[if_pos q,hf.1,hm];exact⟨hf.2,fun _=>by rw[List.length_take];omega⟩
 ·have hm:m.all (fun x=>among x qah)=false:=by
   rw[Bool.eq_false_iff];exact fun z=>q ((q2m _ _).2 ((qn3 h1).2 z))
  rw[if_neg q,hm];refine⟨?_,fun z=>by cases z⟩;obtain⟨b,hb,_,hl⟩:=q5n _ _ q;rw[List.getLast?_append,hl];simp[h1 b hb]
theorem q46(t:List UInt8)(z:Nat)(hz:z<=t.length):((Go.Lib.trimLeftS (t.drop z) qdp).head?.any (·!= 10)=!(emp t z (lnT t z)))/\(emp t z (lnT t z)=true->t.length - (Go.Lib.trimPrefix (Go.Lib.trimLeftS (t.drop z) qdp) [10]).length=if lnT t z<t.length then lnT t z+1 else lnT t z):=by
 have e:t.drop z=(t.drop z).takeWhile (·!= 10)++(t.drop z).dropWhile (·!= 10):=List.takeWhile_append_dropWhile.symm;have h1:∀b∈(t.drop z).takeWhile (·!= 10),b≠10:=fun b hb=>by
  have:=q7t _ _ b hb;simpa using this
 have hk:=q7x t z hz;have Hb:emp t z (lnT t z)=((t.drop z).takeWhile (·!= 10)).all (fun x=>among x qah):=by
  unfold emp lnT;rw[Nat.add_sub_cancel_left]
  congr 1
  exact(List.prefix_iff_eq_take.1 (List.takeWhile_prefix _)).symm
 have hc:lnT t z=z+((t.drop z).takeWhile (·!= 10)).length:=rfl;have ha:((t.drop z).takeWhile (·!= 10)).length+((t.drop z).dropWhile (·!= 10)).length=t.length - z:=by
  rw[<-List.length_append,<-e,List.length_drop]
 have Ha:∀b,((t.drop z).dropWhile (·!= 10)).head?=some b->b=10:=fun b hb=>by
  have:=List.head?_dropWhile_not (·!= (10:UInt8)) (t.drop z);rw[hb]at this;simpa using this
 rw[Hb];generalize (t.drop z).takeWhile (·!= 10)=m at *;generalize (t.drop z).dropWhile (·!= 10)=r at *;by_cases q:∀b∈m,qdp.contains b=true
 ·have hm:=(qn3 h1).1 q
  rw[e,q8b _ _ _ q,hm]
  match r,Ha,ha with
  |[],_,ha=>
    simp only[List.length_nil]at ha;refine⟨rfl,fun _=>?_⟩;rw[if_neg (by omega)];show t.length - 0=_;omega
  |b::r,hh,ha=>
    obtain rfl:=hh b rfl;simp only[List.length_cons]at ha;have e2:Go.Lib.trimLeftS (10::r) qdp=10::r:=rfl;rw[e2];refine⟨rfl,fun _=>?_⟩;have e3:Go.Lib.trimPrefix (10::r) [10]=r:=by
     unfold Go.Lib.trimPrefix Go.Lib.hasPrefix;simp[List.isPrefixOf]
    rw[e3,if_pos (by omega)];omega
 ·have hm:m.all (fun x=>among x qah)=false:=by
   rw[Bool.eq_false_iff];exact fun w=>q ((qn3 h1).2 w)
  rw[e,hm];refine⟨?_,fun w=>by cases w⟩;obtain⟨b,hb,hl⟩:=q5o qdp m r q;rw[hl];simp[h1 b hb]
theorem q31(t:List UInt8)(a z:Nat)(ha:a<=t.length)(hz:z<=t.length):qeg t a z=if(emp t (lnF t a) a && emp t z (lnT t z))=true then(lnF t a,if lnT t z<t.length then lnT t z+1 else lnT t z)else(a,z):=by
 obtain⟨h1,h2⟩:=q7n t a ha;obtain⟨h3,h4⟩:=q46 t z hz;unfold qeg;rw[h1,h3];cases e1:emp t (lnF t a) a
 ·rfl
 ·cases e2:emp t z (lnT t z)
  ·rfl
  ·rw[h2 e1,h4 e2];rfl
end Go.Proofs.YtfkhljmiehdgmaaGreatDoor.Pl
namespace Go.Proofs.YtfkhljmiehdgmaaGreatDoor
open Go.RowKit
variable{parts:List Pl.Pt}{w0 w w' w1:World}{op:List Nat}{vo vs:Value}{g cap:Nat}
structure Rm where
 kd:Int
 pos:Nat
 text:List UInt8
 pv:Value
 tn:Bool
 en:Nat
def qdb(r:Rm):List Value:=[.int .i64 r.kd,.int .i64 r.pos,.string ⟨r.text.toArray⟩,r.pv,.bool r.tn,.int .i64 r.en]
def qd6(L:List Rm):List Value:=L.flatMap qdb
theorem qkm(L:List Rm):(qd6 L).length=L.length*6:=by
 induction L with
 |nil=>rfl
 |cons p L ih=>show(qd6 L).length+6=_;rw[ih,List.length_cons];omega
theorem qt6(L:List Rm)(p:Rm):qd6 (L++[p])=qd6 L++qdb p:=by simp[qd6]
theorem qc6:∀(L:List Rm) (k:Nat) (p:Rm),L[k]?=some p->∀(j:Nat) (v:Value),(qdb p)[j]?=some v->(qd6 L)[k*6+j]?=some v
 |[],k,p,e=>by simp at e
 |q::L,0,p,e=>by
   simp only[List.getElem?_cons_zero,Option.some.injEq]at e;subst e;intro j v hv;show(qdb q++qd6 L)[0*6+j]?=some v;rw[Nat.zero_mul,Nat.zero_add,List.getElem?_append_left (List.getElem?_eq_some_iff.1 hv).1];exact hv
 |q::L,k+1,p,e=>by
   intro j v hv;have:=qc6 L k p (by simpa using e) j v hv;show(qdb q++qd6 L)[(k+1)*6+j]?=some v;rw[List.getElem?_append_right (by simp[qdb];omega)];have e:(k+1)*6+j - (qdb q).length=k*6+j:=by simp[qdb];omega
   rw[e];exact this
def qkl(L:List Rm)(m n:Nat):List Rm:=L.modify m fun r=>{ r with en:=n }
theorem qqp:∀(L:List Rm) (m n:Nat),m<L.length->(qd6 L).set (m*6+5) (.int .i64 n)=qd6 (qkl L m n)
 |[],m,n,h=>by simp at h
 |q::L,0,n,_=>rfl
 |q::L,m+1,n,h=>by
   have ih:=qqp L m n (by simpa using h);have e:qkl (q::L) (m+1) n=q::qkl L m n:=by simp[qkl]
   rw[e];show(qdb q++qd6 L).set ((m+1)*6+5) _=qdb q++qd6 (qkl L m n);rw[List.set_append_right _ _ (by simp[qdb];omega)];have e2:(m+1)*6+5 - (qdb q).length=m*6+5:=by simp[qdb];omega
   rw[e2,ih]
structure RmOf(i:Nat)(r:Rm)(p:Pl.Pt):Prop where
 kd:r.kd=Pl.qbg p.kind
 pos:r.pos=p.pos
 text:r.text=p.text
 tn:r.tn=decide (p.kind=4)
 en:r.en=if p.kind=3\/p.kind=4 then p.mate - i else 0
 pv:∃ao n cap,r.pv=.slice ao n cap
structure RmsOf(L:List Rm)(parts:List Pl.Pt):Prop where
 len:L.length=parts.length
 each:∀i r p,L[i]?=some r->parts[i]?=some p->RmOf i r p
theorem q3d:RmsOf [] []:=⟨rfl,fun i r p h=>by simp at h⟩
theorem RmsOf.snoc{L:List Rm}(h:RmsOf L parts)(r:Rm)(p:Pl.Pt)(hr:RmOf parts.length r p):RmsOf (L++[r]) (parts++[p]):=by
 refine⟨by rw[List.length_append,List.length_append,h.len];rfl,fun i r' p' h1 h2=>?_⟩;by_cases q:i<parts.length
 ·rw[List.getElem?_append_left (by rw[h.len];exact q)]at h1
  rw[List.getElem?_append_left q]at h2;exact h.each i r' p' h1 h2
 ·have h3:=(List.getElem?_eq_some_iff.1 h2).1
  rw[List.length_append]at h3;simp only[List.length_cons,List.length_nil]at h3;have e:i=parts.length:=by omega
  subst e;rw[List.getElem?_append_right (Nat.le_refl _),Nat.sub_self]at h2;rw[List.getElem?_append_right (by rw[h.len];exact Nat.le_refl _),h.len,Nat.sub_self]at h1;simp at h1 h2;subst h1 h2;exact hr
theorem RmsOf.mate{L:List Rm}(h:RmsOf L parts)(m n:Nat)(hk:∀p,parts[m]?=some p->p.kind=3\/p.kind=4):RmsOf (qkl L m (n - m)) (Pl.qbc parts m n):=by
 refine⟨by unfold qkl Pl.qbc;rw[List.length_modify,List.length_modify];exact h.len,fun i r p h1 h2=>?_⟩;unfold qkl at h1;unfold Pl.qbc at h2;rw[List.getElem?_modify]at h1 h2;by_cases e:m=i
 ·subst e
  simp only[if_true]at h1 h2;obtain⟨r0,hr,rfl⟩:=Option.map_eq_some_iff.1 h1;obtain⟨p0,hp,rfl⟩:=Option.map_eq_some_iff.1 h2;have:=h.each m r0 p0 hr hp;exact⟨this.kd,this.pos,this.text,this.tn,by show n - m=if p0.kind=3\/p0.kind=4 then n - m else 0;rw[if_pos (hk p0 hp)],this.pv⟩
 ·simp only[if_neg e]at h1 h2
  obtain⟨r0,hr,rfl⟩:=Option.map_eq_some_iff.1 h1;obtain⟨p0,hp,rfl⟩:=Option.map_eq_some_iff.1 h2;exact h.each i r0 p0 hr hp
theorem qgh:(130:TypeId)≠136:=by decide
theorem qtq:(130:TypeId)≠3:=by decide
theorem qf3:(136:TypeId)≠3:=by decide
structure PaAt(w0 wr:World)(L:List Rm)(op:List Nat)(vo vs:Value):Prop where
 res:wr.heap[w0.heap.size]?=some (.cells #[.int .i64 0,.int .i64 0] 130 (0,0))
 out:wr.ownsRow w0.heap.size 136 6 vo L.length (qd6 L)
 sc:wr.ownsRow w0.heap.size 3 1 vs op.length (qby op)
 below:Below w0.heap.size w0 wr
theorem PaAt.lt{wr:World}{L:List Rm}(h:PaAt w0 wr L op vo vs):w0.heap.size<wr.heap.size:=(lta h.res)
theorem PaAt.kept{L:List Rm}(h:PaAt w0 w L op vo vs)(hb:Below w.heap.size w w'):PaAt w0 w' L op vo vs:=
 ⟨(hb.block _ h.lt).trans h.res,qac h.out fun k hk=>hb.block k (h.out.lt k hk).2,qac h.sc fun k hk=>hb.block k (h.sc.lt k hk).2,h.below.trans (hb.mono (Nat.le_of_lt h.lt))⟩
theorem PaAt.more{L:List Rm}{vo':Value}(h:PaAt w0 w L op vo vs)(Hb:Below w.heap.size w w1)(r:Rm)(ha:w'.ownsRow w0.heap.size 136 6 vo' (L.length+1) (qd6 L++qdb r))(Ha:w1.grownBy w' vo.ownBlock):PaAt w0 w' (L++[r]) op vo' vs:=by
 have h:=h.kept Hb;have hb:∀(k:Nat) (cs:Array Value) (t:TypeId) (fz:Nat×Nat),w1.heap[k]?=some (.cells cs t fz)->t≠136->w'.heap[k]?=w1.heap[k]?:=fun k cs t fz hk ht=>Ha.block k (Array.getElem?_eq_some_iff.1 hk).1 (fun e=>by
  obtain⟨cur,hc⟩:=qad h.out k e.symm;exact qae hk hc ht rfl)
 refine⟨(hb _ _ _ _ h.res qgh).trans h.res,?_,qac h.sc fun k hk=>?_,h.below.grown Ha (Nat.le_of_lt h.lt) (fun k hk=>(h.out.lt k hk).1)⟩
 ·rw[qt6,List.length_append];exact ha
 ·obtain⟨cur,hc⟩:=qad h.sc k hk
  exact hb _ _ _ _ hc qf3.symm
theorem PaAt.push{L:List Rm}{vs':Value}(h:PaAt w0 w L op vo vs)(Hb:Below w.heap.size w w1)(n:Nat)(ha:w'.ownsRow w0.heap.size 3 1 vs' (op.length+1) (qby op++[.int .i64 n]))(Ha:w1.grownBy w' vs.ownBlock):PaAt w0 w' L (op++[n]) vo vs':=by
 have h:=h.kept Hb;have hb:∀(k:Nat) (cs:Array Value) (t:TypeId) (fz:Nat×Nat),w1.heap[k]?=some (.cells cs t fz)->t≠3->w'.heap[k]?=w1.heap[k]?:=fun k cs t fz hk ht=>Ha.block k (Array.getElem?_eq_some_iff.1 hk).1 (fun e=>by
  obtain⟨cur,hc⟩:=qad h.sc k e.symm;exact qae hk hc ht rfl)
 refine⟨(hb _ _ _ _ h.res qtq).trans h.res,qac h.out fun k hk=>?_,?_,h.below.grown Ha (Nat.le_of_lt h.lt) (fun k hk=>(h.sc.lt k hk).1)⟩
 ·obtain⟨cur,hc⟩:=qad h.out k hk
  exact hb _ _ _ _ hc qf3
 ·have e2:qby (op++[n])=qby op++[.int .i64 n]:=by simp[qby]
  rw[e2,List.length_append];exact ha
theorem PaAt.mated{L:List Rm}{N:Nat}(h:PaAt w0 w L op (.slice (some ⟨g,0,none⟩) N cap) vs)(m n:Nat)(hm:m<L.length):PaAt w0 (w.setCell ⟨g,m*6+5,none⟩ (.int .i64 n)) (qkl L m n) op (.slice (some ⟨g,0,none⟩) N cap) vs:=by
 have ha:∀k,k≠g->(w.setCell ⟨g,m*6+5,none⟩ (.int .i64 n)).heap[k]?=w.heap[k]?:=fun k hk=>Below.heap_setCell _ _ _ _ hk;obtain⟨cur,hc⟩:=qad h.out g rfl;have Ha:=(h.out.lt g rfl).1;refine⟨(ha _ (qae h.res hc qgh)).trans h.res,?_,qac h.sc fun k hk=>?_,h.below.setCell Ha _⟩
 ·have hs:(qkl L m n).length=L.length:=by unfold qkl;rw[List.length_modify]
  have hN:N=L.length:=by
   rcases h.out.2 with⟨h0,_⟩|⟨g',cap',cur',hv,_⟩
   ·cases h0
   ·injection hv
  subst hN;rw[hs,<-qqp _ _ _ hm];exact(h.out.stored (m*6+5) (.int .i64 n)).1
 ·obtain⟨cur',hb⟩:=qad h.sc k hk
  exact ha k (qae hb hc qf3.symm)
theorem PaAt.pop{L:List Rm}{n:Nat}(h:PaAt w0 w L op vo (.slice (some ⟨g,0,none⟩) op.length cap))(hn:n<=op.length):PaAt w0 w L (op.take n) vo (.slice (some ⟨g,0,none⟩) n cap):=by
 refine⟨h.res,h.out,?_,h.below⟩;have:=qi6 h.sc n hn;have e:(op.take n).length=n:=by rw[List.length_take];omega
 rw[e];have e2:qby (op.take n)=(qby op).take (n*1):=by unfold qby;rw[List.map_take,Nat.mul_one]
 rw[e2];exact this
end Go.Proofs.YtfkhljmiehdgmaaGreatDoor
namespace Go.Proofs.YtfkhljmiehdgmaaGreatDoor.Pl
variable{t x:List UInt8}{a o:Nat}{c:Ct}
theorem qnz(ha:a<=t.length)(h:qds t x a=o):∃i,o=a+i/\Go.Lib.cut (t.drop a) x=((t.drop a).take i,t.drop (o+x.length),true)/\o+x.length<=t.length/\((t.drop a).take i).length=i:=by
 unfold qds at h;split at h
 ·omega
 ·next q=>
  obtain⟨i,hi⟩:∃i:Nat,Go.Lib.index (t.drop a) x=i:=⟨(Go.Lib.index (t.drop a) x).toNat,by omega⟩;rw[hi]at h;have ho:o=a+i:=by omega
  have hr:=Go.Lib.index_room (t.drop a) x (by rw[hi];omega);rw[hi,List.length_drop]at hr;refine⟨i,ho,?_,?_,?_⟩
  ·unfold Go.Lib.cut
   rw[hi,if_pos (by omega),List.drop_drop];have e:(i:Int).toNat=i:=by omega
   rw[e,ho,Nat.add_assoc]
  ·omega
  ·rw[List.length_take,List.length_drop];omega
theorem qq7(h:qds t x a<0):(Go.Lib.cut (t.drop a) x).2.2=false:=by
 unfold qds at h;split at h
 ·next q=>
  unfold Go.Lib.cut;rw[if_neg (by omega)]
 ·omega
theorem zau(h:qds t c.op a<0):c.step t a=.over (c.addText t a t.length):=qlc (qq7 h)
theorem zav(ha:a<=t.length)(h:qds t c.op a=o)(h2:qds t c.cl (o+c.op.length)<0):c.step t a=.slip 2 o:=by
 obtain⟨i,ho,hc,_,hl⟩:=qnz ha h;have e1:(Go.Lib.cut (t.drop a) c.op).1.length=i:=by rw[hc];exact hl
 have e2:(Go.Lib.cut (t.drop a) c.op).2.1=t.drop (o+c.op.length):=by rw[hc]
 rw[qgm (by rw[hc]) (by rw[e2];exact qq7 h2),e1,ho]
def qhp(t:List UInt8)(b z:Nat):List UInt8:=(t.drop b).take (z - b)
theorem zbb{z:Nat}(ha:a<=t.length)(h:qds t c.op a=o)(h2:qds t c.cl (o+c.op.length)=z)(l:Nat×Nat)
  (ho:(if(qa9 (Go.Lib.trimS (qhp t (o+c.op.length) z) qah)).kind≠2 then qeg t o (z+c.cl.length)else(o,z+c.cl.length))=l) :
  c.step t a=if((c.addText t a l.1).take (qa9 (Go.Lib.trimS (qhp t (o+c.op.length) z) qah)) o).1≠0 then .slip ((c.addText t a l.1).take (qa9 (Go.Lib.trimS (qhp t (o+c.op.length) z) qah)) o).1 o
   else .next ((c.addText t a l.1).take (qa9 (Go.Lib.trimS (qhp t (o+c.op.length) z) qah)) o).2 l.2:=by
 obtain⟨i,hb,hc,hr,hl⟩:=qnz ha h;obtain⟨j,hz,Ha,_,Hb⟩:=qnz (by omega) h2;have e1:(Go.Lib.cut (t.drop a) c.op).1.length=i:=by rw[hc];exact hl
 have e2:(Go.Lib.cut (t.drop a) c.op).2.1=t.drop (o+c.op.length):=by rw[hc]
 have e3:(Go.Lib.cut (t.drop (o+c.op.length)) c.cl).1=qhp t (o+c.op.length) z:=by
  rw[Ha];unfold qhp;rw[hz,Nat.add_sub_cancel_left]
 have e4:(Go.Lib.cut (t.drop (o+c.op.length)) c.cl).1.length=j:=by rw[Ha];exact Hb
 refine qnq (by rw[hc]) (by rw[e2,Ha]) _ (by rw[e2,e3]) o (z+c.cl.length) (by rw[e1,hb]) (by rw[e2,e4,hz]) l ho
theorem q4j(ha:a<=t.length)(h:qds t x a=o):a<=o/\o+x.length<=t.length:=by
 obtain⟨i,Ha,_,hr,_⟩:=qnz ha h;omega
theorem qzo(t x:List UInt8)(a:Nat):qds t x a=-1\/∃o:Nat,qds t x a=o:=by
 unfold qds;split
 ·exact .inl rfl
 ·next q=>exact .inr ⟨a+(Go.Lib.index (t.drop a) x).toNat,by omega⟩
end Go.Proofs.YtfkhljmiehdgmaaGreatDoor.Pl
namespace Go.Proofs.YtfkhljmiehdgmaaGreatDoor
open Go.RowKit
variable{c:Pl.Ct}{one:Pl.Tg}{o:Nat}
structure PaRd(w wr:World)(t:List UInt8)(OP CL:ByteArray)(parts:List Pl.Pt)(op:List Nat)(a:Nat)(L:List Rm)(vo vs:Value):Prop where
 at_:PaAt w wr L op vo vs
 of_:RmsOf L parts
 ok:Pl.CtOk t ⟨OP.data.toList,CL.data.toList,parts,op⟩ a
 eq:Pl.qam t=if((⟨OP.data.toList,CL.data.toList,parts,op⟩:Pl.Ct).rest t a).1.1=0 then((0,0),((⟨OP.data.toList,CL.data.toList,parts,op⟩:Pl.Ct).rest t a).2)else(((⟨OP.data.toList,CL.data.toList,parts,op⟩:Pl.Ct).rest t a).1,[])
theorem PaRd.next{w wr w':World}{t:List UInt8}{OP CL OP' CL':ByteArray}{parts:List Pl.Pt}{op:List Nat}{a:Nat}{L L':List Rm}{vo vs vo' vs':Value}(h:PaRd w wr t OP CL parts op a L vo vs){parts':List Pl.Pt}{op':List Nat}{b:Nat}
  (hs:(⟨OP.data.toList,CL.data.toList,parts,op⟩:Pl.Ct).step t a=.next ⟨OP'.data.toList,CL'.data.toList,parts',op'⟩ b) (hA:PaAt w w' L' op' vo' vs') (hL:RmsOf L' parts'):PaRd w w' t OP' CL' parts' op' b L' vo' vs'/\a<b:=by
 obtain⟨h1,h2⟩:=Pl.qga h.ok hs;refine⟨⟨hA,hL,h1,?_⟩,h2⟩;rw[<-Pl.qoq h.ok hs];exact h.eq
theorem Pl.readTg_low(b:UInt8)(l:List UInt8)(ha:b≠33)(Ha:b≠61):(Pl.qa9 (b::l)).kind≠7/\(Pl.qa9 (b::l)).kind≠8:=by
 have e:Pl.qa0 (b::l)=if b=35 then 3 else if b=94 then 4 else if b=47 then 5 else if b=62 then 6 else 2:=by
  show(if b=33 then 7 else if b=61 then 8 else _)=_;rw[if_neg ha,if_neg Ha]
 have key:∀(k:Nat) (n:List UInt8),(Pl.qca k n).kind=k:=by
  intro k n;unfold Pl.qca;by_cases q:(if k=6 then Pl.qa6 n else Pl.isNm n)=true
  ·rw[if_pos q]
  ·rw[if_neg q]
 have h:Pl.qa0 (b::l)≠7/\Pl.qa0 (b::l)≠8:=by
  rw[e]
  repeat' split
  all_goals decide
 unfold Pl.qa9;rw[if_neg h.1,if_neg h.2];split
 ·rw[key];decide
 ·rw[key];exact h
theorem Pl.take_plain(hb:one.slip=0)(h7:one.kind≠7)(h8:one.kind≠8)(ha:Pl.qbg one.kind≠2)(Ha:Pl.qbg one.kind≠3):c.take one o=(0,{ c with parts:=c.parts++[⟨one.kind,o,one.name,0⟩] }):=by
 unfold Pl.Ct.take;have q2:¬(one.kind=3\/one.kind=4):=fun h=>ha (by rcases h with h|h<;>rw[h]<;>rfl)
 have q3:¬one.kind=5:=fun h=>Ha (by rw[h];rfl);rw[if_neg (by omega),if_neg h7,if_neg h8,if_neg q2,if_neg q3]
theorem Pl.take_open(Ha:one.slip=0)(ha:Pl.qbg one.kind=2):c.take one o=if c.opened.length=6 then(8,c)else(0,{ c with parts:=c.parts++[⟨one.kind,o,one.name,0⟩],opened:=c.opened++[c.parts.length] }):=by
 have q:one.kind=3\/one.kind=4:=by
  unfold Pl.qbg at ha;by_cases q:one.kind=3\/one.kind=4
  ·exact q
  ·rw[if_neg q]at ha
   repeat' split at ha
   all_goals omega
 unfold Pl.Ct.take;rw[if_neg (by omega),if_neg (by omega),if_neg (by omega),if_pos q]
theorem Pl.take_close(Ha:one.slip=0)(ha:Pl.qbg one.kind=3):c.take one o=match c.opened.getLast? with
  |none=>(5,c)
  |some m=>if Pl.qlb c.parts m≠one.name then(6,c)else(0,{ c with parts:=Pl.qbc c.parts m c.parts.length++[⟨5,o,one.name,m⟩],opened:=c.opened.dropLast }):=by
 have q:one.kind=5:=by
  unfold Pl.qbg at ha
  repeat' split at ha
  all_goals omega
 unfold Pl.Ct.take;rw[if_neg (by omega),if_neg (by omega),if_neg (by omega),if_neg (by omega),if_pos q];cases c.opened.getLast?<;>rfl
theorem Pl.refKind_one(k:Nat):(Pl.qbg k=1)=(k=2):=by
 unfold Pl.qbg;refine propext ⟨fun h=>?_,fun h=>by rw[h];rfl⟩
 repeat' split at h
 all_goals omega
variable{w wr:World}{t:List UInt8}{a:Act}
def qj9(w:World)(t:List UInt8)(e:Ending)(w':World):Prop:=
 (∃v,e=.returned (.tuple #[v,.agg #[.int .i64 (Pl.qam t).1.1,.int .i64 (Pl.qam t).1.2]])/\((Pl.qam t).1.1=0->∃L,RmsOf L (Pl.qam t).2/\w'.ownsRow w.heap.size 136 6 v L.length (qd6 L)))/\Below w.heap.size w w'
theorem Pl.addText_keeps(o c t:List UInt8)(parts:List Pl.Pt)(op:List Nat)(a z:Nat):(⟨o,c,parts,op⟩:Pl.Ct).addText t a z=⟨o,c,((⟨o,c,parts,op⟩:Pl.Ct).addText t a z).parts,op⟩:=by
 unfold Pl.Ct.addText;split<;>rfl
theorem qo9:(Tryz.prog.info? 130).map (·.size)=some 2:=by kernel_rfl
theorem Pl.trR_idem(cs l:List UInt8):Go.Lib.trimRightS (Go.Lib.trimRightS l cs) cs=Go.Lib.trimRightS l cs:=by
 have:∀m:List UInt8,(m.dropWhile (cs.contains ·)).dropWhile (cs.contains ·)=m.dropWhile (cs.contains ·):=by
  intro m
  induction m with
  |nil=>rfl
  |cons x m ih=>
    by_cases q:cs.contains x=true
    ·rw[List.dropWhile_cons_of_pos q];exact ih
    ·rw[List.dropWhile_cons_of_neg q,List.dropWhile_cons_of_neg q]
 unfold Go.Lib.trimRightS;rw[List.reverse_reverse,this]
theorem qd4{P:Program}{fn:Func}{u p:Tmp}{ty:TypeId}(h:fn.results=#[.tmp u,.cell p ty])(tmps:Array Value)(w:World)(g:Nat)(cs:Array Value)(d:TypeDesc)
  (hp:tmps.getD p undef=.pointer (some ⟨g,0,none⟩)) (hg:∀j v,cs.toList[j]?=some v->w.cell? ⟨g,j,none⟩=some v) (hu:P.underlying ty=some d) (hd:aggD d=true) (hi:(P.info? ty).map (·.size)=some cs.size) :
  (results fn tmps).run P w=.ok (.tuple #[tmps.getD u undef,.agg cs]) w:=by
 have hl:=qbl (P:=P) w g ty cs d hg hu (by cases d<;>first|rfl|cases hd) hi
 rw[Array.getD_eq_getD_getElem?]at hp;simp only[results,h];simp[hp,asAddr,hl]
theorem qse{k p:Nat}(ha:wr.heap[w.heap.size]?=some (.cells #[.int .i64 0,.int .i64 0] 130 (0,0)))(hb:Below w.heap.size w wr)(hv:Pl.qam t=((k,p),[]))(hk:k≠0)
  (hp:a.tmps.getD 3 undef=.pointer (some ⟨w.heap.size,0,none⟩)) (h2:a.tmps.getD 2 undef=.slice none 0 0) (Ha:a.defers=[]) :
  bodyPost Tryz.prog Tryz.f53 (qj9 w t) .ret a ((wr.setCell ⟨w.heap.size,0,none⟩ (.int .i64 k)).setCell ⟨w.heap.size,1,none⟩ (.int .i64 p)):=by
 have h1:=heap_setCell_same wr w.heap.size 0 _ _ (.int .i64 (k:Int)) ha;have h3:=heap_setCell_same _ w.heap.size 1 _ _ (.int .i64 (p:Int)) h1;refine bodyPost_ret (qd4 (cs:=#[.int .i64 k,.int .i64 p]) Tryz.results53 a.tmps _ w.heap.size _ hp (qaa h3) Tryz.underlying130 rfl qo9) Ha ?_;rw[h2];refine⟨⟨_,by rw[hv],fun h=>absurd (by rw[hv]at h;exact h) hk⟩,(hb.setCell (Nat.le_refl _) _).setCell (Nat.le_refl _) _⟩
theorem zam{v vs:Value}{L:List Rm}{op:List Nat}{parts:List Pl.Pt}(hA:PaAt w wr L op v vs)(hv:Pl.qam t=((0,0),parts))(hL:RmsOf L parts)
  (hp:a.tmps.getD 3 undef=.pointer (some ⟨w.heap.size,0,none⟩)) (h2:a.tmps.getD 2 undef=v) (Ha:a.defers=[]) :
  bodyPost Tryz.prog Tryz.f53 (qj9 w t) .ret a ((wr.setCell ⟨w.heap.size,0,none⟩ (.int .i64 0)).setCell ⟨w.heap.size,1,none⟩ (.int .i64 0)):=by
 have h1:=heap_setCell_same wr w.heap.size 0 _ _ (.int .i64 0) hA.res;have h3:=heap_setCell_same _ w.heap.size 1 _ _ (.int .i64 0) h1;refine bodyPost_ret (qd4 (cs:=#[.int .i64 0,.int .i64 0]) Tryz.results53 a.tmps _ w.heap.size _ hp (qaa h3) Tryz.underlying130 rfl qo9) Ha ?_;rw[h2];have ha:v.ownBlock≠some w.heap.size:=fun e=>by
  obtain⟨cur,hc⟩:=qad hA.out _ e;exact qae hA.res hc qgh rfl
 exact⟨⟨_,by rw[hv];rfl,fun _=>⟨L,by rw[hv];exact hL,ownsRow_setCell_other (ownsRow_setCell_other hA.out ha _) ha _⟩⟩,(hA.below.setCell (Nat.le_refl _) _).setCell (Nat.le_refl _) _⟩
theorem qzi:(Tryz.prog.info? 136).map (fun i=>(i.zero,i.size,i.bytes))=some (some (.agg #[.int .i64 0,.int .i64 0,.string ⟨#[]⟩,.slice none 0 0,.bool false,.int .i64 0]),6,72):=by kernel_rfl
def qqo(a:Nat)(x:List UInt8):Rm:=⟨0,a,x,.slice none 0 0,false,0⟩
theorem qop(i a:Nat)(x:List UInt8):RmOf i (qqo a x) ⟨1,a,x,0⟩:=⟨rfl,rfl,rfl,rfl,by show 0=_;rw[if_neg (by simp)],none,0,0,rfl⟩
theorem q9a(s:ByteArray)(z:Int)(a:Nat)(w:World)(hz:z=a)(hs:s.size<=1000000)(ha:a<=s.size) :
  Calls Tryz.prog 85 #[.string s,.int .i64 z] w fun e w'=>e=.returned (.int .i64 (Pl.lnT s.data.toList a))/\w=w':=by
 subst hz;exact q1b s a w hs ha
theorem qzv(s:ByteArray)(z:Int)(a b:Nat)(w:World)(hz:z=a)(hs:s.size<=1000000)(hb:b<=s.size)(ha:a<=b) :
  Calls Tryz.prog 86 #[.string s,.int .i64 z,.int .i64 b] w fun e w'=>e=.returned (.bool (Pl.emp s.data.toList a b))/\w=w':=by
 subst hz;exact qx4 s a b w hs hb ha
theorem qjf(s x:ByteArray)(z:Int)(k:Nat)(w:World)(hz:z=k)(hs:s.size<=1000000)(hx:x.size<=1000000)(hk:k<=s.size) :
  Calls Tryz.prog 81 #[.string s,.string x,.int .i64 z] w fun e w'=>e=.returned (.int .i64 (Pl.qds s.data.toList x.data.toList k))/\w=w':=by
 subst hz;exact qrc s x k w hs hx hk
namespace Pl
structure PkOk(I:List UInt8)(b:UInt8)(sil:Bool)(K:Int)(tx:List UInt8)(tn:Bool):Prop where
 one:(K==1)=decide ((qa9 I).kind=2)
 sl:sil=true->K=0/\tx=[]/\tn=false/\((b=33/\qa9 I=⟨7,0,[],[],[]⟩)\/(b=61/\qa9 I=qdc I))
 op:sil=false->b≠33/\b≠61/\pcOk (qcc b) I=true/\K=qfo (qcc b)/\tx=qi5 (qcc b) I/\tn=decide (qcc b=1)
theorem q1a{t:List UInt8}{o z:Nat}{k:Nat}{K:Int}(hk:(K==1)=decide (k=2))(ho:o<=t.length)(hz:z<=t.length){l1 l2:Nat}
  (h1:l1=if(!(K==1) && (emp t (lnF t o) o && emp t z (lnT t z)))=true then lnF t o else o)
  (h2:l2=if(!(K==1) && (emp t (lnF t o) o && emp t z (lnT t z)))=true then(if lnT t z<t.length then lnT t z+1 else lnT t z)else z) :
  (if k≠2 then qeg t o z else(o,z))=(l1,l2):=by
 rw[hk]at h1 h2;by_cases q:k=2
 ·rw[if_neg (by omega),h1,h2,decide_eq_true q];rfl
 ·rw[if_pos q,q31 t o z ho hz,h1,h2,decide_eq_false q]
  cases hb:(emp t (lnF t o) o && emp t z (lnT t z))<;>rfl
theorem q8u{I:List UInt8}{b:UInt8}(hI:I=b::I.drop 1)(hR:Go.Lib.trimRightS I qah=I)(hb:b=33\/b=61\/pcOk (qcc b) I=true):∃sil K tx tn,PkOk I b sil K tx tn/\sil=(b==33 || b==61):=by
 by_cases ha:b=33
 ·have e:qa9 I=⟨7,0,[],[],[]⟩:=by rw[hI,ha];rfl
  refine⟨true,0,[],false,⟨by rw[e];rfl,fun _=>⟨rfl,rfl,rfl,.inl ⟨ha,e⟩⟩,(fun h=>nomatch h)⟩,by rw[ha];rfl⟩
 by_cases Ha:b=61
 ·have e:qa9 I=qdc I:=by rw[hI,Ha];rfl
  have e2:(qdc I).kind=8:=by
   unfold qdc
   repeat' split
   all_goals rfl
  refine⟨true,0,[],false,⟨by rw[e,e2];rfl,fun _=>⟨rfl,rfl,rfl,.inr ⟨Ha,e⟩⟩,(fun h=>nomatch h)⟩,by rw[Ha];rfl⟩
 have hT:=qkn b (I.drop 1) ha Ha (by rw[<-hI];exact hR);rw[<-hI]at hT;refine⟨false,qfo (qcc b),qi5 (qcc b) I,decide (qcc b=1),⟨?_,(fun h=>nomatch h),fun _=>⟨ha,Ha,(hb.resolve_left ha).resolve_left Ha,rfl,rfl,rfl⟩⟩,?_⟩
 ·rw[<-hT.1]
  by_cases q:(qa9 I).kind=2
  ·rw[decide_eq_true q,q];rfl
  ·rw[decide_eq_false q,beq_eq_false_iff_ne];intro e;rw[refKind_one]at e;exact q e
 ·rw[beq_eq_false_iff_ne.2 ha,beq_eq_false_iff_ne.2 Ha];rfl
end Pl
variable{w0 w:World}{L:List Rm}{op:List Nat}{vo vs:Value}{i o k n cap:Nat}{K:Int}{tx:List UInt8}{tn:Bool}{ao:Option Addr}
theorem PaAt.cell(h:PaAt w0 w L op vo vs){g:Nat}{cs:Array Value}{fz:Nat×Nat}(hg:w.heap[g]?=some (.cells cs 136 fz))(hn:vo.ownBlock≠some g)(hB:w0.heap.size<=g)(j:Nat)(v:Value):PaAt w0 (w.setCell ⟨g,j,none⟩ v) L op vo vs:=by
 refine⟨(Below.heap_setCell _ _ _ _ (qae h.res hg qgh)).trans h.res,ownsRow_setCell_other h.out hn _,qac h.sc fun k hk=>?_,h.below.setCell hB _⟩;obtain⟨cur,hc⟩:=qad h.sc k hk;exact Below.heap_setCell _ _ _ _ (qae hc hg qf3.symm)
theorem PaAt.six(h:PaAt w0 w L op vo vs){g:Nat}{kd:Int}{a:Nat}{tx:ByteArray}{pv:Value}{tn:Bool}{en:Int}(hg:w.heap[g]?=some (.cells (qb9 kd a tx pv tn en) 136 (0,0)))(hn:vo.ownBlock≠some g)(hB:w0.heap.size<=g)(K:Int)(o:Nat)(t:ByteArray)(p:Value)(b:Bool)(e:Int) :
  PaAt w0 ((((((w.setCell ⟨g,0,none⟩ (.int .i64 K)).setCell ⟨g,1,none⟩ (.int .i64 o)).setCell ⟨g,2,none⟩ (.string t)).setCell ⟨g,3,none⟩ p).setCell ⟨g,4,none⟩ (.bool b)).setCell ⟨g,5,none⟩ (.int .i64 e)) L op vo vs /\
  ((((((w.setCell ⟨g,0,none⟩ (.int .i64 K)).setCell ⟨g,1,none⟩ (.int .i64 o)).setCell ⟨g,2,none⟩ (.string t)).setCell ⟨g,3,none⟩ p).setCell ⟨g,4,none⟩ (.bool b)).setCell ⟨g,5,none⟩ (.int .i64 e)).heap[g]?=some (.cells (qb9 K o t p b e) 136 (0,0)):=by
 have b1:=heap_setCell_same _ g 0 _ _ (.int .i64 K) hg;have b2:=heap_setCell_same _ g 1 _ _ (.int .i64 (o:Int)) b1;have b3:=heap_setCell_same _ g 2 _ _ (.string t) b2;have b4:=heap_setCell_same _ g 3 _ _ p b3;have b5:=heap_setCell_same _ g 4 _ _ (.bool b) b4;exact⟨(((((h.cell hg hn hB 0 _).cell b1 hn hB 1 _).cell b2 hn hB 2 _).cell b3 hn hB 3 _).cell b4 hn hB 4 _).cell b5 hn hB 5 _,heap_setCell_same _ g 5 _ _ _ b5⟩
theorem q0r(h1:Pl.qbg k=K)(h4:decide (k=4)=tn)(h2:K≠2):RmOf i ⟨K,o,tx,.slice ao n cap,tn,0⟩ ⟨k,o,tx,0⟩:=
 ⟨h1.symm,rfl,rfl,h4.symm,by show 0=_;rw[if_neg (fun h=>h2 (by rw[<-h1];rcases h with h|h<;>rw[show k=_ from h]<;>rfl))],_,_,_,rfl⟩
theorem q3e(h1:Pl.qbg k=K)(h4:decide (k=4)=tn):RmOf i ⟨K,o,tx,.slice ao n cap,tn,0⟩ ⟨k,o,tx,0⟩:=
 ⟨h1.symm,rfl,rfl,h4.symm,by show 0=if _ then 0 - i else 0;rw[Nat.zero_sub];split<;>rfl,_,_,_,rfl⟩
theorem q0s{m:Nat}(h1:Pl.qbg k=K)(h4:decide (k=4)=tn)(h3:K=3):RmOf i ⟨K,o,tx,.slice ao n cap,tn,0⟩ ⟨5,o,tx,m⟩:=by
 refine⟨h3,rfl,rfl,?_,rfl,_,_,_,rfl⟩;rw[<-h4];exact decide_eq_false (fun e=>by rw[e,h3]at h1;exact absurd h1 (by decide))
theorem PaAt.drew(h:PaAt w0 w L op vo vs):PaAt w0 w.drew L op vo vs:=⟨h.res,qac h.out fun _ _=>rfl,qac h.sc fun _ _=>rfl,h.below.drew⟩
theorem q29(L:List Rm)(m n:Nat):(qkl L m n).length=L.length:=by unfold qkl;rw[List.length_modify]
theorem quh{B g:Nat}{e:TypeId}{xs:List Value}(h:w.ownsRow B e k (.slice (some ⟨g,0,none⟩) n cap) n xs):n<=cap:=by
 rcases h.2 with⟨h0,_⟩|⟨g',cap',cur,hv,_,_,h1,_⟩
 ·cases h0
 ·injection hv with _ _ e3
  omega
theorem PaAt.apart{g7:Nat}(h:PaAt w0 w L op (.slice (some ⟨g7,0,none⟩) L.length cap) vs){g:Nat}{K:Int}{a:Nat}{tx:ByteArray}{pv:Value}{tn:Bool}{en:Int}{ty:TypeId}{fz:Nat×Nat}(hg:w.heap[g]?=some (.cells (qb9 K a tx pv tn en) ty fz)){m:Nat}{r:Rm}(hr:L[m]?=some r)(h2:r.kd=2)(hK:K=3):g≠g7:=by
 rintro rfl;have hm:=(List.getElem?_eq_some_iff.1 hr).1;have c1:w.cell? ⟨g,m*6+0,none⟩=some (.int .i64 r.kd):=by
  rw[World.ownsRow.cellAt h.out (m*6+0) (Nat.lt_of_lt_of_le (by omega:m*6+0<(m+1)*6) (Nat.mul_le_mul_right 6 hm))];exact qc6 _ m r hr 0 _ rfl
 have c2:w.cell? ⟨g,m*6+0,none⟩=(qb9 K a tx pv tn en)[m*6+0]?:=by unfold World.cell?;rw[hg];rfl
 rw[c2]at c1;cases m with
 |zero=>
   have c3:(qb9 K a tx pv tn en)[0*6+0]?=some (.int .i64 K):=rfl;rw[c3]at c1;injection c1 with c1;injection c1 with _ c1;omega
 |succ m=>
   rw[Array.getElem?_eq_none (by show 6<=_;omega)]at c1;cases c1
theorem qol(p:Pl.Sp)(n:Nat)(s:ByteArray)(w:World)(ha:Pl.SpOk n p)(hn:n+s.size<=2000000000000000000) :
  Calls Tryz.prog 54 #[qau p,.string s] w fun e w'=>e=.returned (.tuple #[qau (Pl.qda p s.data.toList),.int .i64 (Pl.wrongFrom p (-1) 0 s.data.toList)])/\Below w.heap.size w w':=
 qt0 (fun p m b w=>q0l p m b w) p n s w ha hn
end Go.Proofs.YtfkhljmiehdgmaaGreatDoor
